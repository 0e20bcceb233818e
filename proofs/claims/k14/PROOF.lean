import PyProof.Rows.All
import Wide.All
import OpenK.AllK
import Wide.FinOn
import HandS.ForMost
import HandS.SortRule
import HandS.IsInst
import HandS.Deep
import HandS.Property
import HandS.TupSets
import HandS.Style
import HandS.Conv
import HandS.Evl
import HandS.ClsMeth
import HandS.Strs
import HandS.Rev
import HandS.SetFor
import HandS.Zip
import KE.DataCmp
import HandS.DictComp
import HandS.More
import KE.SortKeyHeap
import KE.SortUse
import HandS.AnyAll
import PyProof.WalksMore
import HandS.Nested
import HandS.EndTab
import KE.GoesMore
import KE.GoesEnum
import PyProof.GenCompT
import HandS.TupAny
import HandS.SortInts
import PySem.Challenge.RW_callsheard_k14_check_certificate
set_option Elab.async false
set_option linter.all false
set_option maxRecDepth 100000
namespace My
open PySem PySem.Spec PyProof.Rows L2
theorem cxK {CX : CXT} {P : Program} {w : World} {K : PySem.W.Frag} {mg : Str → Option Value} {base : Heap} {N : List Str} {q : Str} {sc : Scope} {f : Addr} {cdv : Value} {A : Around} {outer : List Env} {s : Shared} {H : Hp} {E : XK} : (cxOf CX P w K mg base N q sc f cdv A outer s H E).nox.K = K := rfl
theorem cxK2 {CX : CXT} {P : Program} {w : World} {K : PySem.W.Frag} {mg : Str → Option Value} {base : Heap} {N : List Str} {q : Str} {sc : Scope} {f : Addr} {cdv : Value} {A : Around} {outer : List Env} {s : Shared} {H : Hp} {E : XK} : (cxOf CX P w K mg base N q sc f cdv A outer s H E).K = K := rfl
theorem cxP {CX : CXT} {P : Program} {w : World} {K : PySem.W.Frag} {mg : Str → Option Value} {base : Heap} {N : List Str} {q : Str} {sc : Scope} {f : Addr} {cdv : Value} {A : Around} {outer : List Env} {s : Shared} {H : Hp} {E : XK} : (cxOf CX P w K mg base N q sc f cdv A outer s H E).prog = P := rfl
theorem cxW {CX : CXT} {P : Program} {w : World} {K : PySem.W.Frag} {mg : Str → Option Value} {base : Heap} {N : List Str} {q : Str} {sc : Scope} {f : Addr} {cdv : Value} {A : Around} {outer : List Env} {s : Shared} {H : Hp} {E : XK} : (cxOf CX P w K mg base N q sc f cdv A outer s H E).w = w := rfl
/-- built-in names that the text has not bound -/
structure Bi (mg : Str → Option Value) : Prop where
  len : mg "len" = none
  abs : mg "abs" = none
  int : mg "int" = none
  range : mg "range" = none
  list : mg "list" = none
  tuple : mg "tuple" = none
  min : mg "min" = none
  max : mg "max" = none
  sorted : mg "sorted" = none
  isinstance : mg "isinstance" = none
  bool : mg "bool" = none
  str : mg "str" = none
  set : mg "set" = none
  enumerate : mg "enumerate" = none
/-- a def of the text, bound in the module, that keeps a promise -/
structure Df (P : Program) (w : World) (K : PySem.W.Frag) (mg : Str → Option Value) (base : Heap) (x : Str) (ps : List Str) (k : Nat) (sp : Sp) (f : Addr) (fd : FuncData) : Prop where
  at_ : mg x = some (.ref f)
  kp : PySem.W.keepIn K (.ref f) = true
  b : Binds K fd ps []
  ok : FnOk P w K mg base CX0 k f fd ps sp
local macro_rules | `(tactic| walk_at "rd") => `(tactic| try simp only [cxK, cxK2, cxP, cxW, L2.start, List.length_cons, List.length_nil, List.replicate_succ, List.replicate_zero, List.map_cons, List.map_nil, List.cons_append, List.nil_append, tVar, tC, tAdd, tSub, t2I, tIsN, tNotN, tB, tAnd, tOr, tNot, tAndV, tOrV, tNotV, tIf, tNext, tSeq, tBreak, tCont, tDrop, tRet, tRetN, tIfS, gName, gNil, gCons, gTup, gSub, tAsg, tOp, tUn, rI, rI0, rU, tTest, tChain, tNil, tCons, tTup, tLst, tCall, tCB, tNoPart, tPart, tSl, rIxL, rIxT, rIxS, rSetL, rAppend, rExtend, tBM, tBM0, tFld, tMeth, tMake, sFld, tYes, tLstRg, tRg1, tRg2, rSlL, iRng1, iRng2, iList, List.getElem?_cons_zero, List.getElem?_cons_succ, Option.some.injEq, List.cons.injEq, V.int.injEq, V.ref.injEq, V.bl.injEq, V.str.injEq, exists_eq_left', exists_eq_left, exists_eq_right, exists_eq_right', true_and, and_true, and_assoc, exists_and_left, exists_and_right, List.set_cons_zero, List.set_cons_succ, List.append_nil, reduceCtorEq, false_and, and_false, exists_false, or_false, false_or, decide_eq_true_eq, Nat.reduceAdd, Nat.reduceSub])
section
variable {X : Cx}
theorem cr_intI : CallR X (.type "int") (fun xs H Q => ∃ i, xs = [.int i] ∧ Q (.int i) H) := fun pins s σ H xs us Q I r h => call_int1 pins s σ H xs us Q I r (.inl h)
theorem op_eqI : OpR X (compareOp .Eq) (rI0 fun i j => .bl (decide (i = j))) := fun pins s σ H x y v u Q I rx ry h => by
  obtain ⟨i, j, rfl, rfl, q⟩ := h
  have e : decide (i = j) = decide (V.int i = V.int j) := by
    by_cases h : i = j
    · subst h
      rw [decide_eq_true rfl, decide_eq_true rfl]
    · rw [decide_eq_false h, decide_eq_false (fun z => h (V.int.inj z))]
  exact op_eq pins s σ H _ _ v u Q I rx ry ⟨rfl, by rw [← e]; exact q⟩
theorem op_neI : OpR X (compareOp .NotEq) (rI0 fun i j => .bl (!decide (i = j))) := fun pins s σ H x y v u Q I rx ry h => by
  obtain ⟨i, j, rfl, rfl, q⟩ := h
  have e : decide (i = j) = decide (V.int i = V.int j) := by
    by_cases h : i = j
    · subst h
      rw [decide_eq_true rfl, decide_eq_true rfl]
    · rw [decide_eq_false h, decide_eq_false (fun z => h (V.int.inj z))]
  exact op_ne pins s σ H _ _ v u Q I rx ry ⟨rfl, by rw [← e]; exact q⟩
def rIsT : R2 := fun x y H Q => ∃ b : Bool, y = .bl b ∧ Q (.bl (decide (x = .bl b))) H
/-- x is True, x is False -/
theorem op_isT : OpR X (compareOp .Is) rIsT := by
  intro pins s σ H x y v u Q I rx ry h
  obtain ⟨b, rfl, q⟩ := h
  cases (show u = Value.bool b from ry)
  cases x with
  | non => cases (show v = Value.none from rx); exact wpAny_is_other rfl (fun z => nomatch z) ⟨.bl false, H, I, rfl, by simpa using q⟩
  | bl a =>
    cases (show v = Value.bool a from rx)
    by_cases e : a = b
    · subst e
      exact wpAny_is_self rfl ⟨.bl true, H, I, rfl, by simpa using q⟩
    · exact wpAny_is_other rfl (fun z => e (Value.bool.inj z)) ⟨.bl false, H, I, rfl, by simpa [e] using q⟩
  | int i => obtain ⟨t, e⟩ := (show ∃ t, v = Value.int i t from rx); cases e; exact wpAny_is_other rfl (fun z => nomatch z) ⟨.bl false, H, I, rfl, by simpa using q⟩
  | str i => obtain ⟨t, e⟩ := (show ∃ t, v = Value.str i t from rx); cases e; exact wpAny_is_other rfl (fun z => nomatch z) ⟨.bl false, H, I, rfl, by simpa using q⟩
  | byt i => obtain ⟨t, e⟩ := (show ∃ t, v = Value.bytes i t from rx); cases e; exact wpAny_is_other rfl (fun z => nomatch z) ⟨.bl false, H, I, rfl, by simpa using q⟩
  | flt i => obtain ⟨t, e⟩ := (show ∃ t, v = Value.float i t from rx); cases e; exact wpAny_is_other rfl (fun z => nomatch z) ⟨.bl false, H, I, rfl, by simpa using q⟩
  | ref a => cases (show v = Value.ref a from rx); exact wpAny_is_other rfl (fun z => nomatch z) ⟨.bl false, H, I, rfl, by simpa using q⟩
  | ty n => cases (show v = Value.type n from rx); exact wpAny_is_other rfl (fun z => nomatch z) ⟨.bl false, H, I, rfl, by simpa using q⟩
end
theorem same_upd {H : Hp} {p : Addr} {o : HO} (h : H p = none) : Same H (upd H p o) := fun b x e => by
  rw [upd_ne (ne_of_none e h)]
  exact e
/-- a list that was new and is changed: what stood before stands -/
theorem same_ch {H0 H : Hp} {p : Addr} {o : HO} (s : Same H0 H) (n : H0 p = none) : Same H0 (upd H p o) := fun b x e => by
  rw [upd_ne (ne_of_none e n)]
  exact s _ _ e
theorem ixn {n j : Nat} {z : Int} (e : z = (j : Int)) (hj : j < n) : ixN n z = some j := by
  rw [e]
  unfold ixN
  rw [if_pos (by omega), if_pos (by omega)]
  simp
theorem len_big {n : Nat} (h : n ≤ 100000) : n < sizeLine := Nat.lt_of_le_of_lt h (by decide)
theorem mem_ix {α : Type} {l : List α} {i : Nat} (h : i < l.length) : ∃ x, l[i]? = some x ∧ x ∈ l := ⟨l[i], List.getElem?_eq_getElem h, List.getElem_mem h⟩

def topS (i : Nat) : Stmt := PySem.Challenge.pw_callsheard_k14_check_certificate.main.body.getD i (.Pass ⟨0, 0, 0, 0⟩)
abbrev sCell : Stmt := topS 21
abbrev sNum : Stmt := topS 22
def cellN (ns : List Int) (k : Nat) : Int := (ns.getD k 0).natAbs
theorem cellN_nn (ns : List Int) (k : Nat) : 0 ≤ cellN ns k := Int.natCast_nonneg _
section
variable {P : Program} {w : World} {K : PySem.W.Frag} {mg : Str → Option Value} {base : Heap}
theorem scCell : FnScope ["script", "k"] ["script", "k"] (defScope sCell) := ⟨rfl, rfl, rfl, by decide +kernel, rfl, by decide +kernel, by decide +kernel⟩
def spCell (K : PySem.W.Frag) : Sp := fun vs H Q _ => ∃ (a : Addr) (ns : List Int) (k : Nat), vs = [.ref a, .int k] ∧ SqL K H a (ns.map V.int) ∧ ∀ c, 0 ≤ c → Q (.int c) H
theorem ok_cell {f : Addr} {fd : FuncData} (F : Fun K "_law_cell" "_law_cell" sCell f fd) (T : Bi mg) : FnOk P w K mg base CX0 1 f fd ["script", "k"] (spCell K) := by
  refine F.ok scCell (fun vs H Q E h => ?_) (fun cdv A outer s H vs Q E hr h => ?_)
  · obtain ⟨a, ns, k, rfl, _⟩ := h
    rfl
  · obtain ⟨a, ns, k, rfl, hS, q⟩ := h
    refine ⟨_, (pss_cons (ps_if (pt_cmpR op_lt (pv 1) (pe_callB call_len_seq (by rfl) T.len (by decide +kernel) (pa_cons (pv 0) pa_nil)) (nomark _))
      (pss_one (ps_ret (pe_callB call_abs (by rfl) T.abs (by decide +kernel) (pa_cons (pe_callTy cr_intI (by rfl) T.int (by decide +kernel) (pa_cons (pe_ix ix_list (pv 0) (pv 1) (fun _ _ => rfl)) pa_nil)) pa_nil))))
      pss_nil)
      (pss_one (ps_ret pe_int))), ?_⟩
    walk_at "rd"
    refine ⟨_, .inl hS, ?_⟩
    rw [List.length_map]
    refine ite2 (fun hk => ?_) (fun _ => q _ (Int.le_refl _))
    have hk2 : k < ns.length := by omega
    refine ⟨_, hS, V.int ns[k], atI_nat (by rw [List.getElem?_map, List.getElem?_eq_getElem hk2]; rfl), _, rfl, ?_⟩
    refine q _ ?_
    split <;> omega
theorem scNum : FnScope ["cell", "count", "numbers", "rest", "mixed", "k"] ["cell", "count"] (defScope sNum) := ⟨rfl, rfl, rfl, by decide +kernel, rfl, by decide +kernel, by decide +kernel⟩
/-- n ints from 0 on below 997 -/
def Nums (n : Nat) (ns : List Int) : Prop := ns.length = n ∧ ∀ x ∈ ns, 0 ≤ x ∧ x < 997
def spNum (K : PySem.W.Frag) : Sp := fun vs H Q _ => ∃ (c : Int) (n : Nat), vs = [.int c, .int n] ∧ n ≤ 2000 ∧ ∀ ns p H', Nums n ns → Same H H' → H p = none → H' p = some (.lst (ns.map V.int)) → Q (.ref p) H'
theorem ok_num {f : Addr} {fd : FuncData} (F : Fun K "_law_numbers" "_law_numbers" sNum f fd) (T : Bi mg) : FnOk P w K mg base CX0 1 f fd ["cell", "count"] (spNum K) := by
  refine F.ok scNum (fun vs H Q E h => ?_) (fun cdv A outer s H vs Q E hr h => ?_)
  · obtain ⟨c, n, rfl, _⟩ := h
    rfl
  · obtain ⟨c, n, rfl, hn, q⟩ := h
    refine ⟨_, (pss_cons (ps_set (i := 2) scNum.nd rfl (Or.inl rfl) (pe_lst pa_nil))
      (pss_cons (ps_set (i := 3) scNum.nd rfl (Or.inl rfl) (pv 0))
      (pss_cons (ps_set (i := 4) scNum.nd rfl (Or.inl rfl) (pe_op op_mod (pe_callTy cr_intI (by rfl) T.int (by decide +kernel) (pa_cons (pe_op op_add (pe_op op_mul (pv 0) pe_int) pe_int) pa_nil)) pe_int))
      (pss_cons (ps_for PassesOwn.never rfl (pi_range1 (by rfl) T.range (pa_cons (pv 1) pa_nil)) (pg_name (i := 5) scNum.nd rfl (Or.inl rfl))
      (pss_cons (ps_set (i := 4) scNum.nd rfl (Or.inl rfl) (pe_op op_mod (pe_callTy cr_intI (by rfl) T.int (by decide +kernel) (pa_cons (pe_op op_add (pe_op op_add (pe_op op_mul (pv 4) pe_int) (pe_op op_mul pe_int (pv 5))) pe_int) pa_nil)) pe_int))
        (pss_one (ps_if (pt_cmpR op_ge (pv 0) (pe_op op_pow pe_int pe_int) (nomark _))
        (pss_cons (ps_expr (pe_bm PySem.F.plainAttrs_list PySem.F.slot_list_append PySem.F.type_list_append mt_append (pv 2) (pa_cons (pe_op op_mod (pe_callTy cr_intI (by rfl) T.int (by decide +kernel) (pa_cons (pv 3) pa_nil)) pe_int) pa_nil)))
          (pss_one (ps_set (i := 3) scNum.nd rfl (Or.inl rfl) (pe_op op_fdiv (pv 3) pe_int))))
        (pss_one (ps_expr (pe_bm PySem.F.plainAttrs_list PySem.F.slot_list_append PySem.F.type_list_append mt_append (pv 2) (pa_cons (pe_op op_mod (pe_callTy cr_intI (by rfl) T.int (by decide +kernel) (pa_cons (pe_op op_fdiv (pv 4) pe_int) pa_nil)) pe_int) pa_nil))))))))
      (pss_one (ps_ret (pv 2))))))), ?_⟩
    walk_at "rd"
    refine ⟨by decide, fun p np => ⟨.inr (by decide), by decide, ?_⟩⟩
    refine ⟨_, rfl, _, rfl, by omega, by omega, for_range (lo := 0) (n := (n : Int).toNat) (fun i σ H' => ∃ (ns : List Int) (rest mixed : Int) (v : Option V), σ = [some (.int c), some (.int n), some (.ref p), some (.int rest), some (.int mixed), v] ∧ Nums i ns ∧ Same H H' ∧ H' p = some (.lst (ns.map V.int)))
      ⟨[], c, _, none, rfl, ⟨rfl, fun x hx => by cases hx⟩, same_upd np, upd_same⟩ ?_ ?_⟩
    · rintro i σ H' hi ⟨ns, rest, mixed, v, rfl, hns, sm, hp⟩
      have small : (List.map V.int ns).length < sizeLine := len_big (by rw [List.length_map, hns.1]; omega)
      have next : ∀ y, 0 ≤ y → y < 997 → Nums (i + 1) (ns ++ [y]) := fun y h0 h1 => by
        refine ⟨by rw [List.length_append, hns.1]; rfl, fun x hx => ?_⟩
        rcases List.mem_append.mp hx with hx | hx
        · exact hns.2 x hx
        · rw [List.mem_singleton.mp hx]
          exact ⟨h0, h1⟩
      have ty : tyV K "list" (.ref p) H' := .inl ⟨rfl, _, SqL.of hp⟩
      walk_at "rd"
      refine ⟨.inr (by decide), .inl (by decide), by decide, ⟨by decide, by decide, by decide⟩, ite2 (fun _ => ?_) (fun _ => ?_)⟩
      · refine ⟨ty, by decide, _, hp, small, ⟨by decide, by decide⟩, ns ++ [rest % 997], next _ (Int.emod_nonneg _ (by decide)) (Int.emod_lt_of_pos _ (by decide)), same_ch sm np, ?_⟩
        rw [upd_same, List.map_append]
        rfl
      · refine ⟨ty, ⟨by decide, by decide⟩, by decide, _, hp, small, ns ++ [(mixed * 48271 + 7919 * (0 + (i : Int)) + 12345) % 2147483647 / 1009 % 997], next _ (Int.emod_nonneg _ (by decide)) (Int.emod_lt_of_pos _ (by decide)), same_ch sm np, ?_⟩
        rw [upd_same, List.map_append]
        rfl
    · rintro σ H' ⟨ns, rest, mixed, v, rfl, hns, sm, hp⟩
      walk_at "rd"
      exact q ns p H' (by simpa using hns) sm np hp
end

/-! ### pairs of ints in the heap -/
abbrev Pr := Int × Int
/-- v is a tuple of the two ints -/
def IsP (H : Hp) (v : V) (d : Pr) : Prop := ∃ t, v = .ref t ∧ H t = some (.tup [.int d.1, .int d.2])
def PL (H : Hp) (vs : List V) (D : List Pr) : Prop := Paired (IsP H) vs D
def kH (H : Hp) (v : V) : Pr := match v with
  | .ref t => match H t with
    | some (.tup [.int x, .int y]) => (x, y)
    | _ => (0, 0)
  | _ => (0, 0)
theorem IsP.k {H : Hp} {v : V} {d : Pr} (h : IsP H v d) : kH H v = d := by
  obtain ⟨t, rfl, e⟩ := h
  unfold kH
  simp only [e]
/-- tuples stand -/
def KT (H H' : Hp) : Prop := ∀ t xs, H t = some (.tup xs) → H' t = some (.tup xs)
theorem KT.refl (H : Hp) : KT H H := fun _ _ h => h
theorem KT.trans {H H1 H2 : Hp} (a : KT H H1) (b : KT H1 H2) : KT H H2 := fun t xs h => b t xs (a t xs h)
theorem KT.same {H H' : Hp} (s : Same H H') : KT H H' := fun t xs h => s t _ h
theorem KT.new {H : Hp} {p : Addr} {o : HO} (n : H p = none) : KT H (upd H p o) := KT.same (same_upd n)
theorem KT.ch {H : Hp} {p : Addr} {o o' : HO} (n : H p = some o') (ho : ∀ xs, o' ≠ .tup xs) : KT H (upd H p o) := fun t xs h => by
  rw [upd_ne]
  · exact h
  · rintro rfl
    rw [h] at n
    exact ho xs (Option.some.inj n).symm
theorem KT.lst {H : Hp} {p : Addr} {o : HO} {vs : List V} (n : H p = some (.lst vs)) : KT H (upd H p o) := KT.ch n (fun _ h => by cases h)
theorem IsP.kt {H H' : Hp} {v : V} {d : Pr} (h : IsP H v d) (k : KT H H') : IsP H' v d := by
  obtain ⟨t, e, h⟩ := h
  exact ⟨t, e, k _ _ h⟩
theorem PL.kt {H H' : Hp} {vs : List V} {D : List Pr} (h : PL H vs D) (k : KT H H') : PL H' vs D := Paired.mapP h fun _ _ q => q.kt k
theorem PL.len {H : Hp} {vs : List V} {D : List Pr} (h : PL H vs D) : vs.length = D.length := Paired.length h
theorem PL.nil0 (H : Hp) : PL H [] [] := Paired.nil
theorem PL.snoc {H : Hp} {vs : List V} {D : List Pr} {v : V} {d : Pr} (h : PL H vs D) (q : IsP H v d) : PL H (vs ++ [v]) (D ++ [d]) := Paired.snoc h q
theorem PL.get : ∀ {H : Hp} {vs : List V} {D : List Pr} {i : Nat} {v : V}, PL H vs D → vs[i]? = some v → ∃ d, D[i]? = some d ∧ IsP H v d
  | _, _, _, _, _, Paired.nil, e => by simp at e
  | _, _, _, 0, v, .cons r _, e => by
    have e2 := Option.some.inj e
    subst e2
    exact ⟨_, rfl, r⟩
  | _, _, _, i + 1, v, .cons _ t, e => PL.get (i := i) t e
theorem PL.get2 : ∀ {H : Hp} {vs : List V} {D : List Pr} {i : Nat} {d : Pr}, PL H vs D → D[i]? = some d → ∃ v, vs[i]? = some v ∧ IsP H v d
  | _, _, _, _, _, Paired.nil, e => by simp at e
  | _, _, _, 0, v, .cons r _, e => by
    have e2 := Option.some.inj e
    subst e2
    exact ⟨_, rfl, r⟩
  | _, _, _, i + 1, v, .cons _ t, e => PL.get2 (i := i) t e
theorem PL.toK : ∀ {H : Hp} {vs : List V} {D : List Pr}, PL H vs D → D = vs.map (kH H) ∧ ∀ v ∈ vs, IsP H v (kH H v)
  | _, _, _, Paired.nil => ⟨rfl, fun v hv => by cases hv⟩
  | H, _, _, .cons r t => by
    obtain ⟨e, h⟩ := PL.toK t
    have q := r.k
    refine ⟨by rw [List.map_cons, ← e, q], fun v hv => ?_⟩
    rcases List.mem_cons.mp hv with rfl | hv
    · rw [q]
      exact r
    · exact h v hv
theorem PL.ofK {H : Hp} : ∀ {vs : List V}, (∀ v ∈ vs, IsP H v (kH H v)) → PL H vs (vs.map (kH H))
  | [], _ => Paired.nil
  | v :: vs, h => .cons (h v List.mem_cons_self) (PL.ofK fun u hu => h u (List.mem_cons_of_mem _ hu))
/-! ### sorted lists of pairs -/
def lt2 (p q : Pr) : Prop := p.1 < q.1 ∨ (p.1 = q.1 ∧ p.2 < q.2)
def Asc (D : List Pr) : Prop := D.Pairwise lt2
theorem lt2_irr (p : Pr) : ¬ lt2 p p := by
  unfold lt2
  omega
theorem lt2_ne {p q : Pr} (h : lt2 p q) : p ≠ q := by
  rintro rfl
  exact lt2_irr p h
theorem Asc.nodup {D : List Pr} (h : Asc D) : D.Nodup := List.Pairwise.imp lt2_ne h
theorem asc_of {D : List Pr} (nd : D.Nodup) (h : D.Pairwise fun x y => ¬ lt2 y x) : Asc D := by
  induction D with
  | nil => exact List.Pairwise.nil
  | cons p D ih =>
    obtain ⟨h1, h2⟩ := List.pairwise_cons.mp h
    obtain ⟨n1, n2⟩ := List.nodup_cons.mp nd
    refine List.pairwise_cons.mpr ⟨fun q hq => ?_, ih n2 h2⟩
    have a := h1 q hq
    have b : p ≠ q := fun e => n1 (by rw [e]; exact hq)
    unfold lt2 at a ⊢
    obtain ⟨p1, p2⟩ := p
    obtain ⟨q1, q2⟩ := q
    have c : ¬ (p1 = q1 ∧ p2 = q2) := fun ⟨e1, e2⟩ => b (by rw [e1, e2])
    simp only at a ⊢
    omega
/-- two ascending lists with the same pairs are one -/
theorem asc_uniq : ∀ {D E : List Pr}, Asc D → Asc E → (∀ p, p ∈ D ↔ p ∈ E) → D = E
  | [], [], _, _, _ => rfl
  | [], q :: E, _, _, h => by
    have := (h q).mpr List.mem_cons_self
    cases this
  | p :: D, [], _, _, h => by
    have := (h p).mp List.mem_cons_self
    cases this
  | p :: D, q :: E, hD, hE, h => by
    obtain ⟨a1, a2⟩ := List.pairwise_cons.mp hD
    obtain ⟨b1, b2⟩ := List.pairwise_cons.mp hE
    have e : p = q := by
      rcases List.mem_cons.mp ((h p).mp List.mem_cons_self) with e | hp
      · exact e
      · rcases List.mem_cons.mp ((h q).mpr List.mem_cons_self) with e | hq
        · exact e.symm
        · have c1 := b1 p hp
          have c2 := a1 q hq
          unfold lt2 at c1 c2
          omega
    subst e
    rw [asc_uniq a2 b2 fun z => ?_]
    constructor
    · intro hz
      rcases List.mem_cons.mp ((h z).mp (List.mem_cons_of_mem _ hz)) with e | hz2
      · subst e
        exact absurd (a1 z hz) (lt2_irr z)
      · exact hz2
    · intro hz
      rcases List.mem_cons.mp ((h z).mpr (List.mem_cons_of_mem _ hz)) with e | hz2
      · subst e
        exact absurd (b1 z hz) (lt2_irr z)
      · exact hz2
theorem srtd_asc {H : Hp} {ys : List V} (nd : (ys.map (kH H)).Nodup) (h : SrtO.Srtd (ltP (kH H)) ys) : Asc (ys.map (kH H)) := by
  refine asc_of nd (List.pairwise_map.mpr (List.Pairwise.imp (fun {x y} h => ?_) h))
  exact SrtO.lexB_no.mp h
/-- doors of a house with r rooms -/
structure Drs (r : Nat) (D : List Pr) : Prop where
  asc : Asc D
  ok : ∀ d ∈ D, 0 ≤ d.1 ∧ d.1 < d.2 ∧ d.2 < r
def cd (d : Pr) : Nat := (d.1 * 12 + d.2).toNat
theorem drs_len' {r : Nat} {D : List Pr} (hr : r ≤ 12) (nd : D.Nodup) (ok : ∀ d ∈ D, 0 ≤ d.1 ∧ d.1 < d.2 ∧ d.2 < r) : D.length ≤ 66 := by
  have h1 : (D.map cd).Nodup := by
    refine List.pairwise_map.mpr (List.Pairwise.imp_of_mem (fun {x y} hx hy hne e => ?_) nd)
    have a := ok x hx
    have b := ok y hy
    unfold cd at e
    obtain ⟨x1, x2⟩ := x
    obtain ⟨y1, y2⟩ := y
    simp only at a b e
    have : x1 = y1 ∧ x2 = y2 := by omega
    exact hne (by rw [this.1, this.2])
  have h2 : ∀ c ∈ D.map cd, c ∈ (List.range 144).filter fun c => c / 12 < c % 12 := fun c hc => by
    obtain ⟨d, hd, rfl⟩ := List.mem_map.mp hc
    have a := ok d hd
    refine List.mem_filter.mpr ⟨List.mem_range.mpr ?_, ?_⟩
    · unfold cd
      omega
    · rw [decide_eq_true_eq]
      unfold cd
      omega
  have h3 := nat_nodup_len (D.map cd) _ h1 h2
  rw [List.length_map] at h3
  exact Nat.le_trans h3 (by decide)
theorem Drs.len {r : Nat} {D : List Pr} (hr : r ≤ 12) (h : Drs r D) : D.length ≤ 66 := drs_len' hr h.asc.nodup h.ok

abbrev sNam : Stmt := topS 25
abbrev sJnd : Stmt := topS 26
theorem sub_lt_of {i n : Nat} (h : i < n) : (0 : Int) < (n : Int) - (i : Int) := by omega
/-- the ints from 0 on below n -/
def rg (n : Nat) : List Int := (List.range n).map Int.ofNat
theorem rg_len (n : Nat) : (rg n).length = n := by unfold rg; rw [List.length_map, List.length_range]
theorem rgV_rg (n : Nat) : rgV 0 (n : Int) = (rg n).map V.int := by
  unfold rgV rg
  rw [List.map_map]
  show List.map _ (List.range ((n : Int) - 0).toNat) = _
  rw [show ((n : Int) - 0).toNat = n by omega]
  refine List.map_congr_left fun i _ => ?_
  show V.int (0 + (i : Int)) = V.int (i : Int)
  rw [Int.zero_add]
theorem set_map {α β : Type} (f : α → β) (l : List α) (i : Nat) (x : α) : (l.map f).set i (f x) = (l.set i x).map f := by
  rw [List.map_set]
section
variable {P : Program} {w : World} {K : PySem.W.Frag} {mg : Str → Option Value} {base : Heap}
theorem scNam : FnScope ["numbers", "at", "rooms", "names", "k", "j", "kept"] ["numbers", "at", "rooms"] (defScope sNam) := ⟨rfl, rfl, rfl, by decide +kernel, rfl, by decide +kernel, by decide +kernel⟩
def spNam (K : PySem.W.Frag) : Sp := fun vs H Q _ => ∃ (a : Addr) (ns : List Int) (at_ r : Nat), vs = [.ref a, .int at_, .int r] ∧ SqL K H a (ns.map V.int) ∧ at_ + r ≤ ns.length ∧ r ≤ 1000 ∧
  ∀ xs p H', List.Perm xs (rg r) → Same H H' → H p = none → H' p = some (.lst (xs.map V.int)) → Q (.ref p) H'
theorem ok_nam {f : Addr} {fd : FuncData} (F : Fun K "_law_names" "_law_names" sNam f fd) (T : Bi mg) : FnOk P w K mg base CX0 1 f fd ["numbers", "at", "rooms"] (spNam K) := by
  refine F.ok scNam (fun vs H Q E h => ?_) (fun cdv A outer s H vs Q E hr h => ?_)
  · obtain ⟨a, ns, at_, r, rfl, _⟩ := h
    rfl
  · obtain ⟨a, ns, at_, r, rfl, hS, hat, hr1, q⟩ := h
    refine ⟨_, (pss_cons (ps_set (i := 3) scNam.nd rfl (Or.inl rfl) (pe_listRg rfl (by rfl) T.list (prg_1 (by rfl) T.range (pv 2))))
      (pss_cons (ps_for PassesOwn.never rfl (pi_range1 (by rfl) T.range (pa_cons (pv 2) pa_nil)) (pg_name (i := 4) scNam.nd rfl (Or.inl rfl))
      (pss_cons (ps_set (i := 5) scNam.nd rfl (Or.inl rfl) (pe_op op_add (pv 4) (pe_op op_mod (pe_callTy cr_intI (by rfl) T.int (by decide +kernel) (pa_cons (pe_ix ix_list (pv 0) (pe_op op_add (pv 1) (pv 4)) (fun _ _ => rfl)) pa_nil)) (pe_op op_sub (pv 2) (pv 4)))))
        (pss_cons (ps_set (i := 6) scNam.nd rfl (Or.inl rfl) (pe_ix ix_list (pv 3) (pv 4) (fun _ _ => rfl)))
        (pss_cons (ps_asg (pe_ix ix_list (pv 3) (pv 5) (fun _ _ => rfl)) (pg_sub (pv 3) (pv 4) set_list))
        (pss_one (ps_asg (pv 6) (pg_sub (pv 3) (pv 5) set_list)))))))
      (pss_one (ps_ret (pv 3))))), ?_⟩
    walk_at "rd"
    refine ⟨RgOk.of_le (by omega) (by omega) (by omega) (by omega), fun p np => ?_⟩
    refine ⟨_, rfl, r, rfl, by omega, by omega, for_range (lo := 0) (n := (r : Int).toNat) (fun i σ H' => ∃ (xs : List Int) (v1 v2 v3 : Option V), σ = [some (.ref a), some (.int at_), some (.int r), some (.ref p), v1, v2, v3] ∧ List.Perm xs (rg r) ∧ Same H H' ∧ H' p = some (.lst (xs.map V.int)))
      ⟨rg r, none, none, none, rfl, List.Perm.refl _, same_upd np, by rw [upd_same, rgV_rg]⟩ ?_ ?_⟩
    · rintro i σ H' hi ⟨xs, v1, v2, v3, rfl, pm, sm, hp⟩
      have hi2 : i < r := by omega
      have hl : xs.length = r := by rw [pm.length_eq, rg_len]
      have hS' := sm.seq hS
      have hn : at_ + i < ns.length := by omega
      have hq : SqL K H' p (xs.map V.int) := SqL.of hp
      walk_at "rd"
      have hj0 := Int.emod_nonneg ns[at_ + i] (show ((r : Int) - (0 + (i : Int))) ≠ 0 by omega)
      have hj1 := Int.emod_lt_of_pos ns[at_ + i] (show 0 < ((r : Int) - (0 + (i : Int))) by omega)
      obtain ⟨j, hj⟩ : ∃ j : Nat, (0 + (i : Int)) + ns[at_ + i] % ((r : Int) - (0 + (i : Int))) = j := ⟨((0 + (i : Int)) + ns[at_ + i] % ((r : Int) - (0 + (i : Int)))).toNat, by omega⟩
      have hjr : j < r := by omega
      have gi : (xs.map V.int)[i]? = some (.int xs[i]) := by rw [List.getElem?_map, List.getElem?_eq_getElem (by omega)]; rfl
      have gj : (xs.map V.int)[j]? = some (.int xs[j]) := by rw [List.getElem?_map, List.getElem?_eq_getElem (by omega)]; rfl
      refine ⟨_, hS', .int ns[at_ + i], at_of (j := at_ + i) (by omega) (by rw [List.getElem?_map, List.getElem?_eq_getElem hn]; rfl), _, rfl, by omega, _, hq, .int xs[i], at_of (by omega) gi, _, hq, .int xs[j], at_of hj gj, _, hp, i, ixn (by omega) (by rw [List.length_map]; omega), _, upd_same, j, ixn hj (by rw [List.length_set, List.length_map]; omega), (xs.set i xs[j]).set j xs[i], (List.set_set_perm (by omega) (by omega)).trans pm, same_ch (same_ch sm np) np, ?_⟩
      rw [upd_same, set_map, set_map]
    · rintro σ H' ⟨xs, v1, v2, v3, rfl, pm, sm, hp⟩
      walk_at "rd"
      exact q xs p H' pm sm np hp
theorem scJnd : FnScope ["kind", "a", "b", "rooms", "number", "parent", "beside", "shapes"] ["kind", "a", "b", "rooms", "number", "parent"] (defScope sJnd) := ⟨rfl, rfl, rfl, by decide +kernel, rfl, by decide +kernel, by decide +kernel⟩
def spJnd : Sp := fun vs H Q _ => ∃ (kd a b r n p : Int), vs = [.int kd, .int a, .int b, .int r, .int n, .int p] ∧ 0 < b ∧ (0 ≤ kd ∧ kd < 8) ∧ ∀ c H', Same H H' → Q (.bl c) H'
theorem ok_jnd {f : Addr} {fd : FuncData} (F : Fun K "_law_joined" "_law_joined" sJnd f fd) (T : Bi mg) : FnOk P w K mg base CX0 1 f fd ["kind", "a", "b", "rooms", "number", "parent"] spJnd := by
  refine F.ok scJnd (fun vs H Q E h => ?_) (fun cdv A outer s H vs Q E hr h => ?_)
  · obtain ⟨kd, a, b, r, n, p, rfl, _⟩ := h
    rfl
  · obtain ⟨kd, a, b, r, n, p, rfl, hb, ⟨k0, k8⟩, q⟩ := h
    refine ⟨_, (pss_cons (ps_set (i := 6) scJnd.nd rfl (Or.inl rfl) (pe_cmpR op_eqI (pv 2) (pe_op op_add (pv 1) pe_int) (nomark _)))
      (pss_cons (ps_set (i := 7) scJnd.nd rfl (Or.inl rfl) (pe_lst (pa_cons (pv 6) (pa_cons (pe_cmpR op_eqI (pv 1) pe_int (nomark _)) (pa_cons (pe_or (pv 6) (pe_one (pe_and (pe_cmpR op_eqI (pv 1) pe_int (nomark _)) (pe_one (pe_cmpR op_eqI (pv 2) (pe_op op_sub (pv 3) pe_int) (nomark _)))))) (pa_cons pe_bl (pa_cons (pe_cmpR op_eqI (pv 1) (pe_op op_mod (pe_callTy cr_intI (by rfl) T.int (by decide +kernel) (pa_cons (pv 5) pa_nil)) (pv 2)) (nomark _)) pa_nil)))))))
      (pss_cons (ps_set (i := 7) scJnd.nd rfl (Or.inl rfl) (pe_op op_cat (pv 7) (pe_lst (pa_cons (pe_cmpR op_eqI (pe_op op_mod (pe_callTy cr_intI (by rfl) T.int (by decide +kernel) (pa_cons (pv 4) pa_nil)) pe_int) pe_int (nomark _)) (pa_cons (pe_cmpR op_eqI (pe_op op_mod (pe_callTy cr_intI (by rfl) T.int (by decide +kernel) (pa_cons (pv 4) pa_nil)) pe_int) pe_int (nomark _)) (pa_cons (pe_cmpR op_neI (pe_op op_mod (pe_callTy cr_intI (by rfl) T.int (by decide +kernel) (pa_cons (pv 4) pa_nil)) pe_int) pe_int (nomark _)) pa_nil))))))
      (pss_one (ps_ret (pe_ix ix_list (pv 7) (pv 0) (fun _ _ => rfl))))))), ?_⟩
    walk_at "rd"
    have fin : ∀ (p1 p2 : Addr) (c1 c2 c3 c4 c5 c6 c7 c8 : Bool), H p1 = none → upd H p1 (HO.lst [V.bl c1, V.bl c2, V.bl c3, V.bl c4, V.bl c5]) p2 = none →
        rCat (V.ref p1) (V.ref p2) (upd (upd H p1 (HO.lst [V.bl c1, V.bl c2, V.bl c3, V.bl c4, V.bl c5])) p2 (HO.lst [V.bl c6, V.bl c7, V.bl c8])) fun x H1 => ∃ p, x = V.ref p ∧ ∃ x, SqL K H1 p x ∧ ∃ x_1, atI x kd = some x_1 ∧ Q x_1 H1 := fun p1 p2 c1 c2 c3 c4 c5 c6 c7 c8 n1 n2 => by
      have s1 := same_upd (o := HO.lst [V.bl c1, V.bl c2, V.bl c3, V.bl c4, V.bl c5]) n1
      have s2 := same_upd (o := HO.lst [V.bl c6, V.bl c7, V.bl c8]) n2
      have h1 := s2 _ _ (upd_same (H := H) (a := p1) (o := HO.lst [V.bl c1, V.bl c2, V.bl c3, V.bl c4, V.bl c5]))
      refine ⟨p1, p2, _, _, rfl, rfl, h1, upd_same, by show 5 + 3 ≤ sizeLine; decide, fun p3 n3 => ⟨p3, rfl, _, SqL.of upd_same, ?_⟩⟩
      have s3 := same_upd (o := HO.lst ([V.bl c1, V.bl c2, V.bl c3, V.bl c4, V.bl c5] ++ [V.bl c6, V.bl c7, V.bl c8])) n3
      have s := (s1.trans s2).trans s3
      obtain ⟨m, rfl⟩ : ∃ m : Nat, kd = m := ⟨kd.toNat, by omega⟩
      have hm : m < ([c1, c2, c3, c4, c5, c6, c7, c8]).length := by show m < 8; omega
      refine ⟨V.bl ([c1, c2, c3, c4, c5, c6, c7, c8][m]'hm), ?_, q _ _ s⟩
      refine atI_nat ?_
      show ([c1, c2, c3, c4, c5, c6, c7, c8].map V.bl)[m]? = _
      rw [List.getElem?_map, List.getElem?_eq_getElem hm]
      rfl
    refine ite2 (fun _ => ?_) (fun _ => ite2 (fun _ => ?_) (fun _ => ?_))
    · exact ⟨hb, by decide, fun p1 n1 => ⟨by decide, by decide, by decide, by decide, fun p2 n2 => fin p1 p2 _ _ _ _ _ _ _ _ n1 n2⟩⟩
    · exact ⟨hb, by decide, fun p1 n1 => ⟨by decide, by decide, by decide, by decide, fun p2 n2 => fin p1 p2 _ _ _ _ _ _ _ _ n1 n2⟩⟩
    · exact ⟨hb, by decide, fun p1 n1 => ⟨by decide, by decide, by decide, by decide, fun p2 n2 => fin p1 p2 _ _ _ _ _ _ _ _ n1 n2⟩⟩
end

abbrev sDrs : Stmt := topS 27
/-- min and max of the two names -/
def mm (xs : List Int) (p : Nat × Nat) : Pr := (if xs.getD p.2 0 < xs.getD p.1 0 then xs.getD p.2 0 else xs.getD p.1 0, if xs.getD p.2 0 > xs.getD p.1 0 then xs.getD p.2 0 else xs.getD p.1 0)
/-- pairs that have been met when the outer loop stands at b, the inner at a -/
structure Vis (r b a : Nat) (L : List (Nat × Nat)) : Prop where
  ok : ∀ p ∈ L, p.1 < p.2 ∧ p.2 < r ∧ (p.2 < b ∨ (p.2 = b ∧ p.1 < a))
  nd : L.Nodup
theorem Vis.zero (r : Nat) : Vis r 1 0 [] := ⟨fun p h => (by cases h), List.nodup_nil⟩
theorem Vis.skip {r b a : Nat} {L : List (Nat × Nat)} (h : Vis r b a L) : Vis r b (a + 1) L := by
  refine ⟨fun p hp => ?_, h.nd⟩
  have := h.ok p hp
  omega
theorem Vis.row {r b : Nat} {L : List (Nat × Nat)} (h : Vis r b b L) : Vis r (b + 1) 0 L := by
  refine ⟨fun p hp => ?_, h.nd⟩
  have := h.ok p hp
  omega
theorem Vis.more {r b a : Nat} {L : List (Nat × Nat)} (h : Vis r b a L) (hb : b < r) (ha : a < b) : Vis r b (a + 1) (L ++ [(a, b)]) := by
  refine ⟨fun p hp => ?_, ?_⟩
  · rcases List.mem_append.mp hp with hp | hp
    · have := h.ok p hp
      omega
    · rw [List.mem_singleton.mp hp]
      exact ⟨ha, hb, .inr ⟨rfl, Nat.lt_succ_self a⟩⟩
  · refine List.nodup_append.mpr ⟨h.nd, by simp, fun p hp q hq => ?_⟩
    rw [List.mem_singleton.mp hq]
    rintro rfl
    have := h.ok _ hp
    simp only at this
    omega
theorem rg_nodup (n : Nat) : (rg n).Nodup := by
  unfold rg
  exact List.pairwise_map.mpr (List.Pairwise.imp (fun {x y} h e => h (Int.ofNat.inj e)) List.nodup_range)
theorem rg_mem {n : Nat} {x : Int} (h : x ∈ rg n) : 0 ≤ x ∧ x < n := by
  obtain ⟨i, hi, rfl⟩ := List.mem_map.mp h
  have := List.mem_range.mp hi
  show 0 ≤ (i : Int) ∧ (i : Int) < n
  omega
/-- names: each room once -/
structure Nms (r : Nat) (xs : List Int) : Prop where
  pm : xs.Perm (rg r)
theorem Nms.len {r : Nat} {xs : List Int} (h : Nms r xs) : xs.length = r := by rw [h.pm.length_eq, rg_len]
theorem Nms.nd {r : Nat} {xs : List Int} (h : Nms r xs) : xs.Nodup := h.pm.nodup_iff.mpr (rg_nodup r)
theorem Nms.bd {r : Nat} {xs : List Int} (h : Nms r xs) {i : Nat} (hi : i < r) : 0 ≤ xs.getD i 0 ∧ xs.getD i 0 < r := by
  have hl := h.len
  have e : xs.getD i 0 = xs[i] := by rw [List.getD_eq_getElem?_getD, List.getElem?_eq_getElem (by omega)]; rfl
  rw [e]
  exact rg_mem (h.pm.mem_iff.mp (List.getElem_mem _))
theorem Nms.inj {r : Nat} {xs : List Int} (h : Nms r xs) {i j : Nat} (hi : i < r) (hj : j < r) (e : xs.getD i 0 = xs.getD j 0) : i = j := by
  have hl := h.len
  have e1 : xs.getD i 0 = xs[i] := by rw [List.getD_eq_getElem?_getD, List.getElem?_eq_getElem (by omega)]; rfl
  have e2 : xs.getD j 0 = xs[j] := by rw [List.getD_eq_getElem?_getD, List.getElem?_eq_getElem (by omega)]; rfl
  rw [e1, e2] at e
  refine nd_ix h.nd (List.getElem?_eq_getElem (by omega)) ?_
  rw [e]
  exact List.getElem?_eq_getElem (by omega)
theorem mm_ok {r : Nat} {xs : List Int} (h : Nms r xs) {p : Nat × Nat} (h1 : p.1 < p.2) (h2 : p.2 < r) : 0 ≤ (mm xs p).1 ∧ (mm xs p).1 < (mm xs p).2 ∧ (mm xs p).2 < r := by
  have a := h.bd (i := p.1) (by omega)
  have b := h.bd (i := p.2) h2
  have ne : xs.getD p.1 0 ≠ xs.getD p.2 0 := fun e => by
    have := h.inj (i := p.1) (j := p.2) (by omega) h2 e
    omega
  unfold mm
  simp only
  split <;> split <;> omega
theorem mm_inj {r : Nat} {xs : List Int} (h : Nms r xs) {p q : Nat × Nat} (p1 : p.1 < p.2) (p2 : p.2 < r) (q1 : q.1 < q.2) (q2 : q.2 < r) (e : mm xs p = mm xs q) : p = q := by
  have e1 := congrArg Prod.fst e
  have e2 := congrArg Prod.snd e
  unfold mm at e1 e2
  simp only at e1 e2
  have k : (xs.getD p.1 0 = xs.getD q.1 0 ∧ xs.getD p.2 0 = xs.getD q.2 0) ∨ (xs.getD p.1 0 = xs.getD q.2 0 ∧ xs.getD p.2 0 = xs.getD q.1 0) := by
    split at e1 <;> split at e1 <;> split at e2 <;> split at e2 <;> omega
  rcases k with ⟨k1, k2⟩ | ⟨k1, k2⟩
  · have a := h.inj (by omega) (by omega) k1
    have b := h.inj (by omega) (by omega) k2
    exact Prod.ext a b
  · have a := h.inj (by omega) (by omega) k1
    have b := h.inj (by omega) (by omega) k2
    omega
theorem vis_nd {r b a : Nat} {xs : List Int} {L : List (Nat × Nat)} (h : Nms r xs) (v : Vis r b a L) : (L.map (mm xs)).Nodup := by
  refine List.pairwise_map.mpr (List.Pairwise.imp_of_mem (fun {p q} hp hq hne e => ?_) v.nd)
  have a := v.ok p hp
  have b := v.ok q hq
  exact hne (mm_inj h a.1 a.2.1 b.1 b.2.1 e)
theorem vis_ok {r b a : Nat} {xs : List Int} {L : List (Nat × Nat)} (h : Nms r xs) (v : Vis r b a L) : ∀ d ∈ L.map (mm xs), 0 ≤ d.1 ∧ d.1 < d.2 ∧ d.2 < r := fun d hd => by
  obtain ⟨p, hp, rfl⟩ := List.mem_map.mp hd
  have a := v.ok p hp
  exact mm_ok h a.1 a.2.1
theorem tri {b : Nat} (h : b ≤ 11) : (b : Int) * ((b : Int) - 1) / 2 ≤ 55 ∧ 0 ≤ (b : Int) * ((b : Int) - 1) / 2 := by
  have : b = 0 ∨ b = 1 ∨ b = 2 ∨ b = 3 ∨ b = 4 ∨ b = 5 ∨ b = 6 ∨ b = 7 ∨ b = 8 ∨ b = 9 ∨ b = 10 ∨ b = 11 := by omega
  rcases this with rfl | rfl | rfl | rfl | rfl | rfl | rfl | rfl | rfl | rfl | rfl | rfl <;> decide
section
variable {P : Program} {w : World} {K : PySem.W.Frag} {mg : Str → Option Value} {base : Heap}
theorem scDrs : FnScope ["numbers", "rooms", "kind", "names", "doors", "b", "first", "a"] ["numbers", "rooms"] (defScope sDrs) := ⟨rfl, rfl, rfl, by decide +kernel, rfl, by decide +kernel, by decide +kernel⟩
def spDrs (K : PySem.W.Frag) : Sp := fun vs H Q _ => ∃ (a : Addr) (ns : List Int) (r : Nat), vs = [.ref a, .int r] ∧ SqL K H a (ns.map V.int) ∧ 79 ≤ ns.length ∧ 1 ≤ r ∧ r ≤ 12 ∧
  ∀ D vs p H', Drs r D → Same H H' → H p = none → H' p = some (.lst vs) → PL H' vs D → Q (.ref p) H'
theorem ok_drs {f fN fJ : Addr} {fd fdN fdJ : FuncData} (F : Fun K "_law_doors" "_law_doors" sDrs f fd) (T : Bi mg) (d__law_names : Df P w K mg base "_law_names" ["numbers", "at", "rooms"] 1 (spNam K) fN fdN)
    (d__law_joined : Df P w K mg base "_law_joined" ["kind", "a", "b", "rooms", "number", "parent"] 1 spJnd fJ fdJ) : FnOk P w K mg base CX0 2 f fd ["numbers", "rooms"] (spDrs K) := by
  refine F.ok scDrs (fun vs H Q E h => ?_) (fun cdv A outer s H vs Q E hr h => ?_)
  · obtain ⟨a, ns, r, rfl, _⟩ := h
    rfl
  · obtain ⟨a, ns, r, rfl, hS, hn, hr1, hr12, q⟩ := h
    refine ⟨_, (pss_cons (ps_set (i := 2) scDrs.nd rfl (Or.inl rfl) (pe_op op_mod (pe_callTy cr_intI (by rfl) T.int (by decide +kernel) (pa_cons (pe_ix ix_list (pv 0) pe_int (fun _ _ => rfl)) pa_nil)) pe_int))
      (pss_cons (ps_set (i := 3) scDrs.nd rfl (Or.inl rfl) (pe_call d__law_names.ok (hr.mono (by decide)) (by rfl) d__law_names.at_ d__law_names.kp d__law_names.b .nil pass0 (pa_cons (pv 0) (pa_cons pe_int (pa_cons (pv 1) pa_nil)))))
      (pss_cons (ps_set (i := 4) scDrs.nd rfl (Or.inl rfl) (pe_lst pa_nil))
      (pss_cons (ps_for PassesOwn.never rfl (pi_range2 (by rfl) T.range (pa_cons pe_int (pa_cons (pv 1) pa_nil))) (pg_name (i := 5) scDrs.nd rfl (Or.inl rfl))
      (pss_cons (ps_set (i := 6) scDrs.nd rfl (Or.inl rfl) (pe_op op_add (pe_op op_add pe_int (pv 1)) (pe_op op_fdiv (pe_op op_mul (pv 5) (pe_op op_sub (pv 5) pe_int)) pe_int)))
        (pss_one (ps_for PassesOwn.never rfl (pi_range1 (by rfl) T.range (pa_cons (pv 5) pa_nil)) (pg_name (i := 7) scDrs.nd rfl (Or.inl rfl))
        (pss_one (ps_if (pt_truth (pe_call d__law_joined.ok (hr.mono (by decide)) (by rfl) d__law_joined.at_ d__law_joined.kp d__law_joined.b .nil pass0 (pa_cons (pv 2) (pa_cons (pv 7) (pa_cons (pv 5) (pa_cons (pv 1) (pa_cons (pe_ix ix_list (pv 0) (pe_op op_add (pv 6) (pv 7)) (fun _ _ => rfl)) (pa_cons (pe_ix ix_list (pv 0) (pv 6) (fun _ _ => rfl)) pa_nil))))))) (by intro _; rfl))
          (pss_one (ps_expr (pe_bm PySem.F.plainAttrs_list PySem.F.slot_list_append PySem.F.type_list_append mt_append (pv 4) (pa_cons (pe_tup (pa_cons (pe_callB (call_min2 rfl) (by rfl) T.min (by decide +kernel) (pa_cons (pe_ix ix_list (pv 3) (pv 7) (fun _ _ => rfl)) (pa_cons (pe_ix ix_list (pv 3) (pv 5) (fun _ _ => rfl)) pa_nil))) (pa_cons (pe_callB (call_max2 rfl) (by rfl) T.max (by decide +kernel) (pa_cons (pe_ix ix_list (pv 3) (pv 7) (fun _ _ => rfl)) (pa_cons (pe_ix ix_list (pv 3) (pv 5) (fun _ _ => rfl)) pa_nil))) pa_nil))) pa_nil))))
          pss_nil))))))
      (pss_one (ps_ret (pe_callB cr_sortedPO (by rfl) T.sorted (by decide +kernel) (pa_cons (pv 4) pa_nil)))))))), ?_⟩
    have at_n : ∀ (k : Nat) (hk : k < ns.length), (ns.map V.int)[k]? = some (.int ns[k]) := fun k hk => by
      rw [List.getElem?_map, List.getElem?_eq_getElem hk]
      rfl
    walk_at "rd"
    refine ⟨_, hS, .int ns[0], at_of (j := 0) rfl (at_n 0 (by omega)), _, rfl, by decide, a, ns, 1, r, rfl, hS, by omega, by omega, fun xs pn H1 pm s1 nn hN => ?_⟩
    have N : Nms r xs := ⟨pm⟩
    have hl := N.len
    walk_at "rd"
    refine ⟨Nat.zero_le _, fun p np => ?_⟩
    obtain ⟨Pv, hPv⟩ : ∃ Pv : Nat → L2.St → Hp → Prop, Pv = (fun i σ H' => ∃ (L : List (Nat × Nat)) (vs : List V) (v5 v6 v7 : Option V), σ = [some (.ref a), some (.int r), some (.int (ns[0] % 8)), some (.ref pn), some (.ref p), v5, v6, v7] ∧ Vis r (i + 1) 0 L ∧ Same H1 H' ∧ H' p = some (.lst vs) ∧ PL H' vs (L.map (mm xs))) := ⟨_, rfl⟩
    refine ⟨_, rfl, 1, (r : Int), rfl, ⟨by omega, by omega, by omega, by omega⟩, for_range (lo := 1) (n := ((r : Int) - 1).toNat) Pv (by rw [hPv]; exact ⟨[], [], none, none, none, rfl, Vis.zero r, same_upd np, upd_same, PL.nil0 _⟩) ?_ ?_⟩
    · rintro i σ H' hi pv
      have nxt : ∀ L vs v5 v6 v7 H', Vis r (i + 1 + 1) 0 L → Same H1 H' → H' p = some (.lst vs) → PL H' vs (L.map (mm xs)) → Pv (i + 1) [some (.ref a), some (.int r), some (.int (ns[0] % 8)), some (.ref pn), some (.ref p), v5, v6, v7] H' := fun L vs v5 v6 v7 H' h1 h2 h3 h4 => by
        rw [hPv]
        exact ⟨L, vs, v5, v6, v7, rfl, h1, h2, h3, h4⟩
      rw [hPv] at pv
      obtain ⟨L, vs, v5, v6, v7, rfl, vis, s2, hp, pl⟩ := pv
      have hb : i + 1 ≤ 11 := by omega
      have tr := tri hb
      have eb : (1 : Int) + (i : Int) = ((i + 1 : Nat) : Int) := by omega
      obtain ⟨fi, hfi⟩ : ∃ fi : Nat, (1 : Int) + (r : Int) + (1 + (i : Int)) * (1 + (i : Int) - 1) / 2 = fi ∧ fi ≤ 68 := by
        rw [eb]
        exact ⟨(1 + (r : Int) + ((i + 1 : Nat) : Int) * (((i + 1 : Nat) : Int) - 1) / 2).toNat, by omega, by omega⟩
      walk_at "rd"
      refine ⟨.inl (by omega), ⟨by decide, by decide⟩, ?_⟩
      rw [hfi.1]
      obtain ⟨Pw, hPw⟩ : ∃ Pw : Nat → L2.St → Hp → Prop, Pw = (fun j σ H' => ∃ (L : List (Nat × Nat)) (vs : List V) (v7 : Option V), σ = [some (.ref a), some (.int r), some (.int (ns[0] % 8)), some (.ref pn), some (.ref p), some (.int (1 + (i : Int))), some (.int fi), v7] ∧ Vis r (i + 1) j L ∧ Same H1 H' ∧ H' p = some (.lst vs) ∧ PL H' vs (L.map (mm xs))) := ⟨_, rfl⟩
      refine ⟨_, rfl, 1 + (i : Int), rfl, by omega, by omega, for_range (lo := 0) (n := (1 + (i : Int)).toNat) Pw (by rw [hPw]; exact ⟨L, vs, v7, rfl, vis, s2, hp, pl⟩) ?_ ?_⟩
      · clear hp pl s2 vis vs L v7
        rintro j σ H' hj pv
        have nxw : ∀ L vs v7 H', Vis r (i + 1) (j + 1) L → Same H1 H' → H' p = some (.lst vs) → PL H' vs (L.map (mm xs)) → Pw (j + 1) [some (.ref a), some (.int r), some (.int (ns[0] % 8)), some (.ref pn), some (.ref p), some (.int (1 + (i : Int))), some (.int fi), v7] H' := fun L vs v7 H' h1 h2 h3 h4 => by
          rw [hPw]
          exact ⟨L, vs, v7, rfl, h1, h2, h3, h4⟩
        rw [hPw] at pv
        obtain ⟨L, vs, v7, rfl, vis, s2, hp, pl⟩ := pv
        have hjb : j < i + 1 := by omega
        have hS' : SqL K H' a (ns.map V.int) := s2.seq (s1.seq hS)
        have hN' : SqL K H' pn (xs.map V.int) := s2.seq (SqL.of hN)
        have gj : (xs.map V.int)[j]? = some (.int (xs.getD j 0)) := by rw [List.getElem?_map, List.getElem?_eq_getElem (by omega), List.getD_eq_getElem?_getD, List.getElem?_eq_getElem (by omega)]; rfl
        have gi : (xs.map V.int)[i + 1]? = some (.int (xs.getD (i + 1) 0)) := by rw [List.getElem?_map, List.getElem?_eq_getElem (by omega), List.getD_eq_getElem?_getD, List.getElem?_eq_getElem (by omega)]; rfl
        have small : vs.length ≤ 66 := by
          rw [pl.len]
          exact drs_len' hr12 (vis_nd N vis) (vis_ok N vis)
        walk_at "rd"
        refine ⟨_, hS', .int ns[fi + j], at_of (j := fi + j) (by omega) (at_n _ (by omega)), _, hS', .int ns[fi], at_of (j := fi) rfl (at_n _ (by omega)), ?_⟩
        refine ⟨_, _, _, _, _, _, rfl, by omega, ⟨Int.emod_nonneg _ (by decide), Int.emod_lt_of_pos _ (by decide)⟩, fun c H' s3 => ?_⟩
        have hS' := s3.seq hS'
        have hN' := s3.seq hN'
        have hp := s3 _ _ hp
        have pl := pl.kt (KT.same s3)
        have s2 := s2.trans s3
        refine ⟨_, rfl, ite2 (fun _ => ?_) (fun _ => nxw L vs _ _ vis.skip s2 hp pl)⟩
        refine ⟨.inl ⟨rfl, _, SqL.of hp⟩, _, hN', .int (xs.getD j 0), at_of (j := j) (by omega) gj, _, hN', .int (xs.getD (i + 1) 0), at_of (j := i + 1) (by omega) gi, ?_⟩
        refine ⟨_, rfl, _, rfl, _, hN', .int (xs.getD j 0), at_of (j := j) (by omega) gj, _, hN', .int (xs.getD (i + 1) 0), at_of (j := i + 1) (by omega) gi, _, rfl, _, rfl, ?_⟩
        refine ⟨by decide, fun t nt => ⟨vs, ?_, len_big (by omega), ?_⟩⟩
        · rw [upd_ne (ne_of_none hp nt)]
          exact hp
        · have np' : p ≠ t := ne_of_none hp nt
          refine nxw (L ++ [(j, i + 1)]) (vs ++ [.ref t]) _ _ (vis.more (by omega) hjb) (same_ch (s2.trans (same_upd nt)) np) upd_same ?_
          rw [List.map_append]
          refine PL.snoc ((pl.kt (KT.new nt)).kt (KT.lst (by rw [upd_ne np']; exact hp))) ⟨t, rfl, ?_⟩
          rw [upd_ne np'.symm, upd_same]
          rfl
      · clear hp pl s2 vis vs L v7
        rintro σ H' pv
        rw [hPw] at pv
        obtain ⟨L, vs, v7, rfl, vis, s2, hp, pl⟩ := pv
        have e : (1 + (i : Int)).toNat = i + 1 := by omega
        rw [e] at vis
        exact nxt L vs _ _ _ _ vis.row s2 hp pl
    · rintro σ H' pv
      rw [hPv] at pv
      obtain ⟨L, vs, v5, v6, v7, rfl, vis, s2, hp, pl⟩ := pv
      walk_at "rd"
      obtain ⟨k1, k2⟩ := pl.toK
      refine ⟨p, vs, kH H', rfl, SqL.of hp, k2, fun ys t so st nt => ?_⟩
      have pmy := st.perm
      have hy : ∀ v ∈ ys, IsP H' v (kH H' v) := fun v hv => k2 v (pmy.mem_iff.mp hv)
      have nd : (ys.map (kH H')).Nodup := by
        refine (pmy.map _).nodup_iff.mpr ?_
        rw [← k1]
        exact vis_nd N vis
      refine q (ys.map (kH H')) ys t _ ⟨srtd_asc nd so, fun d hd => ?_⟩ ?_ ?_ upd_same ((PL.ofK hy).kt (KT.new nt))
      · refine vis_ok N vis d ?_
        rw [k1]
        exact (pmy.map _).mem_iff.mp hd
      · exact ((s1.trans s2).trans (same_upd nt))
      · exact (s1.trans s2).free nt
end

abbrev sSame : Stmt := topS 40
/-- isinstance of built-in kinds -/
def isTy (m n : String) : Bool := m == n || (m == "bool" && n == "int")
theorem kit5 {K : PySem.W.Frag} {m n : String} (hm : m = "bool" ∨ m = "int" ∨ m = "str" ∨ m = "list" ∨ m = "tuple") (hn : n = "bool" ∨ n = "int" ∨ n = "str" ∨ n = "list" ∨ n = "tuple") : PySem.W.kitOne K (.type m) (.type n) = some (isTy m n) := by
  rcases hm with rfl | rfl | rfl | rfl | rfl <;> rcases hn with rfl | rfl | rfl | rfl | rfl <;> exact kit_ty (by decide +kernel)
def rIs5 (K : PySem.W.Frag) : List V → Hp → VK → Prop := fun xs H Q => ∃ (x : V) (n m : String), xs = [x, .ty n] ∧ TyX K H x (.type m) ∧ (m = "bool" ∨ m = "int" ∨ m = "str" ∨ m = "list" ∨ m = "tuple") ∧ (n = "bool" ∨ n = "int" ∨ n = "str" ∨ n = "list" ∨ n = "tuple") ∧ Q (.bl (isTy m n)) H
theorem cr_is5 {X : Cx} : CallR X (.builtin "isinstance") (rIs5 X.K) := fun pins s σ H xs us Q I r h => by
  obtain ⟨x, n, m, rfl, ty, hm, hn, q⟩ := h
  exact call_isi pins s σ H _ us Q I r ⟨x, .ty n, _, _, _, rfl, .ty n, ty, kit5 hm hn, q⟩
theorem is5_of {K : PySem.W.Frag} {H : Hp} {x : V} {n m : String} {Q : VK} (ty : TyX K H x (.type m)) (hm : m = "bool" ∨ m = "int" ∨ m = "str" ∨ m = "list" ∨ m = "tuple") (hn : n = "bool" ∨ n = "int" ∨ n = "str" ∨ n = "list" ∨ n = "tuple") (q : Q (.bl (isTy m n)) H) : rIs5 K [x, .ty n] H Q :=
  ⟨x, n, m, rfl, ty, hm, hn, q⟩
theorem eqS_of {H : Hp} {x : V} {Q : VK} (h : scal x x = true) (q : Q (.bl true) H) : rEq x x H Q := ⟨h, by rw [decide_eq_true rfl]; exact q⟩
local macro_rules | `(tactic| walk_at "i5") => `(tactic| ((first | refine is5_of (.base (.int _)) (by decide) (by decide) ?_ | refine is5_of (.base (.str _)) (by decide) (by decide) ?_ | refine is5_of (.base (.bl _)) (by decide) (by decide) ?_ | refine is5_of (.base (.lst (by assumption))) (by decide) (by decide) ?_ | refine is5_of (.base (.tup (by assumption))) (by decide) (by decide) ?_)))
local macro_rules | `(tactic| walk_at "i6") => `(tactic| (simp only [rIsT, isTy, String.reduceBEq, Bool.or_false, Bool.or_true, Bool.and_false, Bool.and_true, Bool.true_or, Bool.false_or, Bool.true_and, Bool.false_and, reduceCtorEq, decide_false, decide_true, V.bl.injEq, exists_eq_left', if_true, if_false, Bool.false_eq_true, ↓reduceIte, Bool.not_true, Bool.not_false, ite_self]))
def flat4 : V → Bool
  | .non => true
  | .bl _ => true
  | .int _ => true
  | .str _ => true
  | _ => false
/-- the same data, of at most this depth, the lists and tuples tracked -/
def Sm (H : Hp) : Nat → V → V → Prop
  | 0, x, y => x = y ∧ flat4 x = true
  | n + 1, x, y => (x = y ∧ flat4 x = true) ∨ ∃ a b xs ys, x = .ref a ∧ y = .ref b ∧ ((H a = some (.lst xs) ∧ H b = some (.lst ys)) ∨ (H a = some (.tup xs) ∧ H b = some (.tup ys))) ∧ Paired (Sm H n) xs ys ∧ xs.length ≤ 100000
theorem Sm.flat {H : Hp} {n : Nat} {x : V} (h : flat4 x = true) : Sm H n x x := by
  cases n with
  | zero => exact ⟨rfl, h⟩
  | succ n => exact .inl ⟨rfl, h⟩
theorem paired_get {α β : Type} {F : α → β → Prop} : ∀ {xs : List α} {ys : List β} {i : Nat}, Paired F xs ys → i < xs.length → ∃ x y, xs[i]? = some x ∧ ys[i]? = some y ∧ F x y
  | _, _, _, .nil, h => by cases h
  | _, _, 0, .cons r _, _ => ⟨_, _, rfl, rfl, r⟩
  | _, _, i + 1, .cons _ t, h => paired_get (i := i) t (Nat.lt_of_succ_lt_succ h)
section
variable {P : Program} {w : World} {K : PySem.W.Frag} {mg : Str → Option Value} {base : Heap}
theorem scSame : FnScope ["got", "due", "k"] ["got", "due"] (defScope sSame) := ⟨rfl, rfl, rfl, by decide +kernel, rfl, by decide +kernel, by decide +kernel⟩
def spSame (n : Nat) : Sp := fun vs H Q _ => ∃ x y, vs = [x, y] ∧ Sm H n x y ∧ Q (.bl true) H
theorem ok_same {f : Addr} {fd : FuncData} (F : Fun K "_law_same" "_law_same" sSame f fd) (T : Bi mg) (bd : Binds K fd ["got", "due"] []) (hmg : mg "_law_same" = some (.ref f)) : ∀ n, FnOk P w K mg base CX0 (n + 1) f fd ["got", "due"] (spSame n) := by
  intro n
  induction n with
  | zero =>
    refine F.ok scSame (fun vs H Q E h => ?_) (fun cdv A outer s H vs Q E hr h => ?_)
    · obtain ⟨x, y, rfl, _⟩ := h
      rfl
    · obtain ⟨x, y, rfl, ⟨rfl, hf⟩, q⟩ := h
      refine ⟨_, (pss_cons (ps_if (pt_cmpR op_isN (pv 1) pe_non (nomark _))
      (pss_one (ps_ret (pe_cmpR op_isN (pv 0) pe_non (nomark _))))
      pss_nil)
      (pss_cons (ps_if (pt_cmpR op_isT (pv 1) pe_bl (nomark _))
      (pss_one (ps_ret (pe_cmpR op_isT (pv 0) pe_bl (nomark _))))
      pss_nil)
      (pss_cons (ps_if (pt_cmpR op_isT (pv 1) pe_bl (nomark _))
      (pss_one (ps_ret (pe_cmpR op_isT (pv 0) pe_bl (nomark _))))
      pss_nil)
      (pss_cons (ps_if (pt_val (pe_callB cr_is5 (by rfl) T.isinstance (by decide +kernel) (pa_cons (pv 1) (pa_cons (pe_bltn (v := .ty "int") (by rfl) T.int (by decide +kernel) rfl) pa_nil))))
      (pss_one (ps_ret (pe_and (pe_callB cr_is5 (by rfl) T.isinstance (by decide +kernel) (pa_cons (pv 0) (pa_cons (pe_bltn (v := .ty "int") (by rfl) T.int (by decide +kernel) rfl) pa_nil))) (pe_and (pe_not (pe_callB cr_is5 (by rfl) T.isinstance (by decide +kernel) (pa_cons (pv 0) (pa_cons (pe_bltn (v := .ty "bool") (by rfl) T.bool (by decide +kernel) rfl) pa_nil)))) (pe_one (pe_cmpR op_eq (pv 0) (pv 1) (nomark _)))))))
      pss_nil)
      (pss_cons (ps_if (pt_val (pe_callB cr_is5 (by rfl) T.isinstance (by decide +kernel) (pa_cons (pv 1) (pa_cons (pe_bltn (v := .ty "str") (by rfl) T.str (by decide +kernel) rfl) pa_nil))))
      (pss_one (ps_ret (pe_and (pe_callB cr_is5 (by rfl) T.isinstance (by decide +kernel) (pa_cons (pv 0) (pa_cons (pe_bltn (v := .ty "str") (by rfl) T.str (by decide +kernel) rfl) pa_nil))) (pe_one (pe_cmpR op_eq (pv 0) (pv 1) (nomark _))))))
      pss_nil)
      (pss_cons (ps_if (PW.pt (pw_and (pt_val (pe_callB cr_is5 (by rfl) T.isinstance (by decide +kernel) (pa_cons (pv 1) (pa_cons (pe_bltn (v := .ty "list") (by rfl) T.list (by decide +kernel) rfl) pa_nil)))) (pw_and1 (pt_not (pt_val (pe_callB cr_is5 (by rfl) T.isinstance (by decide +kernel) (pa_cons (pv 0) (pa_cons (pe_bltn (v := .ty "list") (by rfl) T.list (by decide +kernel) rfl) pa_nil))))))))
      (pss_one (ps_ret pe_bl))
      pss_nil)
      (pss_cons (ps_if (PW.pt (pw_and (pt_val (pe_callB cr_is5 (by rfl) T.isinstance (by decide +kernel) (pa_cons (pv 1) (pa_cons (pe_bltn (v := .ty "tuple") (by rfl) T.tuple (by decide +kernel) rfl) pa_nil)))) (pw_and1 (pt_not (pt_val (pe_callB cr_is5 (by rfl) T.isinstance (by decide +kernel) (pa_cons (pv 0) (pa_cons (pe_bltn (v := .ty "tuple") (by rfl) T.tuple (by decide +kernel) rfl) pa_nil))))))))
      (pss_one (ps_ret pe_bl))
      pss_nil)
      (pss_cons (ps_if (pt_cmpR op_neI (pe_callB call_len_seq (by rfl) T.len (by decide +kernel) (pa_cons (pv 0) pa_nil)) (pe_callB call_len_seq (by rfl) T.len (by decide +kernel) (pa_cons (pv 1) pa_nil)) (nomark _))
      (pss_one (ps_ret pe_bl))
      pss_nil)
      (pss_cons (ps_never)
      (pss_one (ps_ret pe_bl))))))))))), ?_⟩
      walk_at "rd"
      cases x with
      | non => walk_at "i6"; exact q
      | bl b =>
        cases b with
        | true => walk_at "i6"; exact q
        | false => walk_at "i6"; exact q
      | int i =>
        walk_at "i6"
        repeat (walk_at "i5"; walk_at "i6")
        exact eqS_of rfl q
      | str z =>
        walk_at "i6"
        repeat (walk_at "i5"; walk_at "i6")
        exact eqS_of rfl q
      | _ => cases hf
  | succ n ih =>
    refine F.ok scSame (fun vs H Q E h => ?_) (fun cdv A outer s H vs Q E hr h => ?_)
    · obtain ⟨x, y, rfl, _⟩ := h
      rfl
    · obtain ⟨x, y, rfl, hs, q⟩ := h
      refine ⟨_, (pss_cons (ps_if (pt_cmpR op_isN (pv 1) pe_non (nomark _))
      (pss_one (ps_ret (pe_cmpR op_isN (pv 0) pe_non (nomark _))))
      pss_nil)
      (pss_cons (ps_if (pt_cmpR op_isT (pv 1) pe_bl (nomark _))
      (pss_one (ps_ret (pe_cmpR op_isT (pv 0) pe_bl (nomark _))))
      pss_nil)
      (pss_cons (ps_if (pt_cmpR op_isT (pv 1) pe_bl (nomark _))
      (pss_one (ps_ret (pe_cmpR op_isT (pv 0) pe_bl (nomark _))))
      pss_nil)
      (pss_cons (ps_if (pt_val (pe_callB cr_is5 (by rfl) T.isinstance (by decide +kernel) (pa_cons (pv 1) (pa_cons (pe_bltn (v := .ty "int") (by rfl) T.int (by decide +kernel) rfl) pa_nil))))
      (pss_one (ps_ret (pe_and (pe_callB cr_is5 (by rfl) T.isinstance (by decide +kernel) (pa_cons (pv 0) (pa_cons (pe_bltn (v := .ty "int") (by rfl) T.int (by decide +kernel) rfl) pa_nil))) (pe_and (pe_not (pe_callB cr_is5 (by rfl) T.isinstance (by decide +kernel) (pa_cons (pv 0) (pa_cons (pe_bltn (v := .ty "bool") (by rfl) T.bool (by decide +kernel) rfl) pa_nil)))) (pe_one (pe_cmpR op_eq (pv 0) (pv 1) (nomark _)))))))
      pss_nil)
      (pss_cons (ps_if (pt_val (pe_callB cr_is5 (by rfl) T.isinstance (by decide +kernel) (pa_cons (pv 1) (pa_cons (pe_bltn (v := .ty "str") (by rfl) T.str (by decide +kernel) rfl) pa_nil))))
      (pss_one (ps_ret (pe_and (pe_callB cr_is5 (by rfl) T.isinstance (by decide +kernel) (pa_cons (pv 0) (pa_cons (pe_bltn (v := .ty "str") (by rfl) T.str (by decide +kernel) rfl) pa_nil))) (pe_one (pe_cmpR op_eq (pv 0) (pv 1) (nomark _))))))
      pss_nil)
      (pss_cons (ps_if (PW.pt (pw_and (pt_val (pe_callB cr_is5 (by rfl) T.isinstance (by decide +kernel) (pa_cons (pv 1) (pa_cons (pe_bltn (v := .ty "list") (by rfl) T.list (by decide +kernel) rfl) pa_nil)))) (pw_and1 (pt_not (pt_val (pe_callB cr_is5 (by rfl) T.isinstance (by decide +kernel) (pa_cons (pv 0) (pa_cons (pe_bltn (v := .ty "list") (by rfl) T.list (by decide +kernel) rfl) pa_nil))))))))
      (pss_one (ps_ret pe_bl))
      pss_nil)
      (pss_cons (ps_if (PW.pt (pw_and (pt_val (pe_callB cr_is5 (by rfl) T.isinstance (by decide +kernel) (pa_cons (pv 1) (pa_cons (pe_bltn (v := .ty "tuple") (by rfl) T.tuple (by decide +kernel) rfl) pa_nil)))) (pw_and1 (pt_not (pt_val (pe_callB cr_is5 (by rfl) T.isinstance (by decide +kernel) (pa_cons (pv 0) (pa_cons (pe_bltn (v := .ty "tuple") (by rfl) T.tuple (by decide +kernel) rfl) pa_nil))))))))
      (pss_one (ps_ret pe_bl))
      pss_nil)
      (pss_cons (ps_if (pt_cmpR op_neI (pe_callB call_len_seq (by rfl) T.len (by decide +kernel) (pa_cons (pv 0) pa_nil)) (pe_callB call_len_seq (by rfl) T.len (by decide +kernel) (pa_cons (pv 1) pa_nil)) (nomark _))
      (pss_one (ps_ret pe_bl))
      pss_nil)
      (pss_cons (ps_for PassesOwn.never rfl (pi_range1 (by rfl) T.range (pa_cons (pe_callB call_len_seq (by rfl) T.len (by decide +kernel) (pa_cons (pv 1) pa_nil)) pa_nil)) (pg_name (i := 2) scSame.nd rfl (Or.inl rfl))
      (pss_one (ps_if (pt_not (pt_val (pe_call ih hr (by rfl) hmg F.kp bd .nil pass0 (pa_cons (pe_ix ix_seq (pv 0) (pv 2) (fun _ _ => rfl)) (pa_cons (pe_ix ix_seq (pv 1) (pv 2) (fun _ _ => rfl)) pa_nil)))))
        (pss_one (ps_ret pe_bl))
        pss_nil)))
      (pss_one (ps_ret pe_bl))))))))))), ?_⟩
      walk_at "rd"
      rcases hs with ⟨rfl, hf⟩ | ⟨a, b, xs, ys, rfl, rfl, hk, pr, hl⟩
      · skip
        cases x with
        | non => walk_at "i6"; exact q
        | bl b =>
          cases b with
          | true => walk_at "i6"; exact q
          | false => walk_at "i6"; exact q
        | int i =>
          walk_at "i6"
          repeat (walk_at "i5"; walk_at "i6")
          exact eqS_of rfl q
        | str z =>
          walk_at "i6"
          repeat (walk_at "i5"; walk_at "i6")
          exact eqS_of rfl q
        | _ => cases hf
      · have el : xs.length = ys.length := pr.length
        have hx : SqL K H a xs ∨ SqT K H a xs := by
          rcases hk with ⟨ha, _⟩ | ⟨ha, _⟩
          · exact .inl (SqL.of ha)
          · exact .inr (SqT.of ha)
        have hy : SqL K H b ys ∨ SqT K H b ys := by
          rcases hk with ⟨_, ha⟩ | ⟨_, ha⟩
          · exact .inl (SqL.of ha)
          · exact .inr (SqT.of ha)
        have ix : ∀ {zs : List V} {k : Nat} {p : Addr} {v : V} {Q : VK}, (SqL K H p zs ∨ SqT K H p zs) → zs[k]? = some v → Q v H → rIx K (.ref p) (.int k) H Q := fun hz hv hq => by
          rcases hz with hz | hz
          · exact .inl ⟨_, _, _, _, rfl, rfl, hz, atI_nat hv, hq⟩
          · exact .inr (.inl ⟨_, _, _, _, rfl, rfl, hz, atI_nat hv, hq⟩)
        rcases hk with ⟨ha, hb⟩ | ⟨ha, hb⟩
        all_goals
          walk_at "i6"
          repeat (walk_at "i5"; walk_at "i6")
          refine ⟨_, rfl, _, hx, _, rfl, _, hy, ?_⟩
          rw [el, decide_eq_true rfl]
          refine iteF ?_
          obtain ⟨Pv, hPv⟩ : ∃ Pv : Nat → L2.St → Hp → Prop, Pv = (fun i σ H' => ∃ v : Option V, σ = [some (.ref a), some (.ref b), v] ∧ H' = H) := ⟨_, rfl⟩
          refine ⟨_, rfl, b, rfl, ys, hy, ys.length, rfl, by omega, by omega, for_range (lo := 0) (n := ((ys.length : Nat) : Int).toNat) Pv (by rw [hPv]; exact ⟨none, rfl, rfl⟩) ?_ ?_⟩
          · rintro i σ H' hi pv
            have nxt : ∀ v, Pv (i + 1) [some (.ref a), some (.ref b), v] H := fun v => by
              rw [hPv]
              exact ⟨v, rfl, rfl⟩
            rw [hPv] at pv
            obtain ⟨v, rfl, rfl⟩ := pv
            obtain ⟨x1, y1, g1, g2, sm⟩ := paired_get (i := i) pr (by omega)
            walk_at "rd"
            rw [Int.zero_add]
            refine ix hx g1 (ix hy g2 ⟨_, _, rfl, sm, ?_⟩)
            exact ⟨true, rfl, iteF (nxt _)⟩
          · rintro σ H' pv
            rw [hPv] at pv
            obtain ⟨v, rfl, rfl⟩ := pv
            walk_at "rd"
            exact q
end

/-! ### a set of tuples of ints, whatever their number (the table's masks: 7, 31, 127) -/
structure PsR (P : Program) (w : World) (h : Heap) (a : Addr) (L : List (Addr × List Int)) (es : Array (Int × Value)) (ep : Nat) (t : SetTable) : Prop where
  obj : ∃ o, h.get? a = some o ∧ o.ExactSet ∧ o.data = .set es ep t
  rw_ : es.toList = rowsOf P w L
  tb : TabOk t (L.map fun p => thash P w p.2)
  nod : (L.map (·.2)).Nodup
  tps : ∀ p ∈ L, IsT P w h p.2 p.1
  pln : t.plain = true
  ld : w.params.followText "set-order" = true ∨ t.led = true
  rm : L.length * 5 < t.mask * 3
section
variable {P : Program} {w : World} {A : Around} {E : Value → Shared → Prop} {s : Shared}
variable {a : Addr} {L : List (Addr × List Int)} {es : Array (Int × Value)} {ep : Nat} {t : SetTable}
theorem PsR.sz (R : PsR P w s.heap a L es ep t) : es.size = L.length := by
  have e := congrArg List.length R.rw_
  rw [Array.length_toList] at e
  rw [e]
  exact List.length_map _
theorem PsR.psz (R : PsR P w s.heap a L es ep t) : t.place.size = L.length := by
  have e := R.tb.sz
  rw [List.length_map] at e
  exact e
theorem PsR.fts (R : PsR P w s.heap a L es ep t) : t.fits es.size = true := by
  have e1 := R.psz
  have e2 := R.sz
  have e3 := R.rm
  have e4 : t.fill = t.place.size := by
    show t.place.size + t.dummies.size = t.place.size
    rw [R.tb.dm]
    rfl
  show (t.place.size == es.size && decide (t.fill ≤ t.mask)) = true
  rw [e4, e1, e2, beq_self_eq_true, Bool.true_and, decide_eq_true_eq]
  omega
theorem PsR.ent (R : PsR P w s.heap a L es ep t) {i : Nat} {p : Addr × List Int} (g : L[i]? = some p) : es[i]? = some (thash P w p.2, Value.ref p.1) := by
  have e : (rowsOf P w L)[i]? = some (thash P w p.2, Value.ref p.1) := by
    show (L.map _)[i]? = _
    rw [List.getElem?_map, g]
    rfl
  rw [← R.rw_, Array.getElem?_toList] at e
  exact e
theorem PsR.odd (R : PsR P w s.heap a L es ep t) : ¬ t.gaveWay = true := fun z => by
  have m := mask_odd R.tb.mok
  have z2 : (t.mask % 2 == 0) = true := z
  rw [m] at z2
  cases z2
/-- the c-th state of the search for the tuple k -/
abbrev stAt (P : Program) (w : World) (t : SetTable) (k : List Int) (c : Nat) : SetTable.Probe := nth t.mask (t.probeStart (thash P w k)) c
abbrev slAt (P : Program) (w : World) (t : SetTable) (k : List Int) (c : Nat) : Nat := (stAt P w t k c).j
theorem stAt_dm (k : List Int) (c : Nat) : (stAt P w t k c).dummy = none := by
  have all : ∀ (n : Nat) (p : SetTable.Probe), p.dummy = none → (nth t.mask p n).dummy = none := by
    intro n
    induction n with
    | zero => exact fun _ e => e
    | succ n ih =>
      intro p e
      show (nth t.mask (adv t.mask p) n).dummy = none
      exact ih _ (by rw [← adv_eq, advance_dummy]; exact e)
  exact all c _ rfl
theorem stAt_add (k : List Int) (c q : Nat) : nth t.mask (stAt P w t k c) q = stAt P w t k (c + q) := (nth_add t.mask c _ q).symm
theorem psearch (R : PsR P w s.heap a L es ep t) {x : Addr} {k : List Int} (hx : IsT P w s.heap k x) (hu : A.units < cLine) (ad : Bool) {N : Nat} (hN : N < 10 * SetTable.turns t.mask)
    (free : slAt P w t k N ∉ t.place.toList) (full : ∀ c, c < N → slAt P w t k c ∈ t.place.toList) {Q : SetFound → Shared → Prop}
    (yes : ∀ i, k ∈ L.map (·.2) → Q (.there (if ad then none else some i)) s) (no : k ∉ L.map (·.2) → Q (.free (slAt P w t k N) false) s) :
    ∀ (f c : Nat) (st : Option SetTable.Probe), st.getD (t.probeStart (thash P w k)) = stAt P w t k c → c ≤ N → N < f + c →
      (∀ (i : Nat) p, L[i]? = some p → p.2 = k → ∃ c', c ≤ c' ∧ c' < N ∧ t.place.toList[i]? = some (slAt P w t k c')) →
      wpAny (model P w) A (setSearchFrom a (.ref x) (thash P w k) ad f st) Q E s := by
  intro f
  induction f with
  | zero => intro c st _ h1 h2 _; omega
  | succ f ih =>
    intro c st est hc hf ahead
    obtain ⟨o, ho, hex, hd⟩ := R.obj
    rw [setSearchFrom_succ]
    refine wpAny_bind (wpAny_setState_of ho hd R.fts ?_)
    dsimp only
    refine wp_if_neg R.odd ?_
    try refine wpAny_bind (wpAny_pure ?_)
    have hashes : ∀ (i : Nat) p, L[i]? = some p → (es[i]?.map (·.1)).getD 0 = thash P w p.2 := fun i p g => by
      rw [R.ent g]
      rfl
    have spec := go_spec t R.tb.ris R.tb.dm (fun i => (es[i]?.map (·.1)).getD 0) (thash P w k) (10 * SetTable.turns t.mask) (N - c) (stAt P w t k c) (stAt_dm k c) (by omega)
      (fun q hq => by rw [stAt_add]; exact full (c + q) (by omega)) (by rw [stAt_add, Nat.add_sub_cancel' hc]; exact free)
    rw [est]
    simp only [stAt_add] at spec
    rcases spec with ⟨q, i, hq, hi, _, early, pr⟩ | ⟨early, pr⟩
    · -- an entry of this hash stands there
      have pr2 : t.probe (fun i => (es[i]?.map (·.1)).getD 0) (thash P w k) (stAt P w t k c) = _ := pr
      rw [pr2]
      dsimp only
      have il : i < L.length := by
        have e := (List.getElem?_eq_some_iff.mp hi).1
        rw [Array.length_toList, R.psz] at e
        exact e
      obtain ⟨p, gp⟩ : ∃ p, L[i]? = some p := ⟨_, List.getElem?_eq_getElem il⟩
      have mp : p ∈ L := List.mem_of_getElem? gp
      have live : t.slot (slAt P w t k (c + q)) = .live i := slot_live R.tb.ris hi
      have go : wpAny (model P w) A (searchRest a (.ref x) (thash P w k) ad f es t (slAt P w t k (c + q)) i (stAt P w t k (c + (q + 1)))) Q E s := by
        unfold searchRest
        rw [R.ent gp]
        dsimp only
        refine wpAny_bind (wpAny_holding (wpAny_eqBool_tuple hu (R.tps p mp) hx ?_))
        refine wpAny_bind (wpAny_setState_of ho hd R.fts ?_)
        dsimp only
        have later : p.2 ≠ k → wpAny (model P w) A (setSearchFrom a (.ref x) (thash P w k) ad f (some (stAt P w t k (c + (q + 1))))) Q E s := fun ne => by
          refine ih (c + (q + 1)) _ rfl (by omega) (by omega) fun i2 p2 g2 e2 => ?_
          obtain ⟨c2, b1, b2, b3⟩ := ahead i2 p2 g2 e2
          refine ⟨c2, ?_, b2, b3⟩
          refine Classical.byContradiction fun lt => ?_
          by_cases hc2 : c2 < c + q
          · refine early (c2 - c) i2 (by omega) (by rw [Nat.add_sub_cancel' b1]; exact b3) ?_
            rw [hashes i2 p2 g2, e2]
          · have e3 : c2 = c + q := by omega
            rw [e3] at b3
            have l2 := slot_live R.tb.ris b3
            rw [live] at l2
            injection l2 with l2
            rw [← l2, gp] at g2
            rw [Option.some.inj g2] at ne
            exact ne e2
        by_cases hk : p.2 = k
        · have mk : k ∈ L.map (·.2) := List.mem_map.mpr ⟨p, mp, hk⟩
          cases ad with
          | true =>
            refine wp_if_pos (by simp [hk]) ?_
            exact wpAny_pure (yes i mk)
          | false =>
            refine wp_if_neg (by simp) ?_
            try refine wpAny_bind (wpAny_pure ?_)
            rw [sameMem]
            dsimp only
            simp only [if_true, live, R.ent gp]
            refine wpAny_bind (wpAny_isSame_ref_self (wpAny_bind (wpAny_pure ?_)))
            rw [if_pos rfl]
            dsimp only
            rw [if_pos (decide_eq_true hk)]
            exact wpAny_pure (yes i mk)
        · refine wp_if_neg (by simp [hk]) ?_
          try refine wpAny_bind (wpAny_pure ?_)
          rw [sameMem]
          dsimp only
          simp only [if_true, live, R.ent gp]
          refine wpAny_bind (wpAny_isSame_ref_self (wpAny_bind (wpAny_pure ?_)))
          rw [if_pos rfl]
          dsimp only
          rw [if_neg (by rw [decide_eq_true_eq]; exact hk)]
          exact later hk
      by_cases hl : t.led = true
      · refine wp_if_neg (by rw [hl]; decide) ?_
        try refine wpAny_bind (wpAny_pure ?_)
        exact go
      · refine wp_if_pos (by simp [hl]) ?_
        refine wpAny_bind (seen_tup hx (fun y hy => ?_) ?_)
        · obtain ⟨e, he, rfl⟩ := List.mem_map.mp hy
          have he2 : e ∈ es.toList := by
            have := (Array.mem_filter.mp (Array.mem_toList_iff.mp he)).1
            exact Array.mem_toList_iff.mpr this
          rw [R.rw_] at he2
          obtain ⟨p2, m2, rfl⟩ := List.mem_map.mp he2
          exact ⟨p2.2, p2.1, rfl, R.tps p2 m2⟩
        · refine wp_if_neg Bool.false_ne_true ?_
          try refine wpAny_bind (wpAny_pure ?_)
          exact go
    · -- the empty slot
      have pr2 : t.probe (fun i => (es[i]?.map (·.1)).getD 0) (thash P w k) (stAt P w t k c) = _ := pr
      rw [pr2, Nat.add_sub_cancel' hc]
      dsimp only
      refine wpAny_pure (no fun hm => ?_)
      obtain ⟨p, mp, e⟩ := List.mem_map.mp hm
      obtain ⟨i, gp⟩ := List.getElem?_of_mem mp
      obtain ⟨c2, b1, b2, b3⟩ := ahead i p gp e
      refine early (c2 - c) i (by omega) (by rw [Nat.add_sub_cancel' b1]; exact b3) ?_
      rw [hashes i p gp, e]
/-- the search as it is asked for -/
theorem psearch0 (R : PsR P w s.heap a L es ep t) {x : Addr} {k : List Int} (hx : IsT P w s.heap k x) (hu : A.units < cLine) (ad : Bool) {Q : SetFound → Shared → Prop}
    (yes : ∀ i, k ∈ L.map (·.2) → Q (.there (if ad then none else some i)) s)
    (no : ∀ N, k ∉ L.map (·.2) → slAt P w t k N ∉ t.place.toList → (∀ c, c < N → slAt P w t k c ∈ t.place.toList) → Q (.free (slAt P w t k N) false) s) :
    wpAny (model P w) A (setSearch a (.ref x) (thash P w k) ad) Q E s := by
  have few := R.rm
  obtain ⟨N, n1, n2, n3⟩ := R.tb.first (by rw [List.length_map]; omega) (thash P w k)
  have n4 : N < 100000 := by
    have e : 10 * SetTable.turns t.mask ≤ 1420 := by
      unfold SetTable.turns
      rcases R.tb.mok with e | e | e <;> omega
    omega
  unfold setSearch
  refine psearch R hx hu ad n1 n2 n3 yes (fun z => no N z n2 n3) 100000 0 none rfl (Nat.zero_le _) (by omega) fun i p gp e => ?_
  have g1 : (L.map fun p => thash P w p.2)[i]? = some (thash P w k) := by
    rw [List.getElem?_map, gp, ← e]
    rfl
  have g2 : i < t.place.toList.length := by
    rw [Array.length_toList, R.psz]
    exact (List.getElem?_eq_some_iff.mp gp).1
  obtain ⟨c, c1, c2⟩ := R.tb.before n2 g1 (List.getElem?_eq_getElem g2)
  refine ⟨c, Nat.zero_le _, c1, ?_⟩
  rw [List.getElem?_eq_getElem g2]
  exact congrArg some c2.symm
end

section
variable {P : Program} {w : World} {A : Around} {E : Value → Shared → Prop} {s : Shared}
variable {a : Addr} {L : List (Addr × List Int)} {es : Array (Int × Value)} {ep : Nat} {t : SetTable}
theorem PsR.ty (R : PsR P w s.heap a L es ep t) : s.TypeIs (.ref a) "set" := by
  obtain ⟨o, ho, hx, _⟩ := R.obj
  exact ⟨o, ho, hx.1⟩
theorem PsR.nodict (R : PsR P w s.heap a L es ep t) : ∀ b, Value.ref a = .ref b → ∃ ob, s.heap.get? b = some ob ∧ ob.dict = none := fun b e => by
  injection e with e
  subst e
  obtain ⟨o, ho, hx, _⟩ := R.obj
  exact ⟨o, ho, hx.2.1⟩
/-- who is sought among tuples -/
theorem pfind (R : PsR P w s.heap a L es ep t) {x : Addr} {k : List Int} (hx : IsT P w s.heap k x) (hu : A.units < cLine) {Q : Option Nat → Shared → Prop}
    (h : ∀ r : Option Nat, r.isSome = decide (k ∈ L.map (·.2)) → Q r s) : wpAny (model P w) A (setFind a (.ref x) (thash P w k)) Q E s := by
  obtain ⟨o, ho, hex, hd⟩ := R.obj
  show wpAny (model P w) A (setFindIn a (.ref x) (thash P w k) (99999 + 1)) Q E s
  unfold setFindIn
  refine wpAny_bind (wpAny_setState_of ho hd R.fts ?_)
  dsimp only
  refine wp_if_neg (by simp [byScan, Value.scannable]) ?_
  try refine wpAny_bind (wpAny_pure ?_)
  refine wpAny_bind (psearch0 R hx hu false (fun i m => ?_) fun N m _ _ => ?_)
  · dsimp only
    exact wpAny_pure (h (some i) (by rw [decide_eq_true m]; rfl))
  · dsimp only
    exact wpAny_pure (h none (by rw [decide_eq_false m]; rfl))
theorem pis_in (R : PsR P w s.heap a L es ep t) {x : Addr} {k : List Int} (hx : IsT P w s.heap k x) (hu : A.units + 4 < cLine) {Q : Value → Shared → Prop}
    (h : Q (.bool (decide (k ∈ L.map (·.2)))) { s with toks := s.toks + (k.length + 1) }) : wpAny (model P w) A (compareOp .In (.ref x) (.ref a)) Q E s := by
  have ty := R.ty
  have ask : wpAny (model P w) A.in1 (Builtin.«frozenset.__contains__» ⟨[.ref a, .ref x], []⟩) (fun fin s' => ∃ v, fin = .done (.ret v) ∧ wpAny (model P w) A (truthy v) (fun c s' => wpAny (model P w) A (pure (Value.bool c)) Q E s') E s') E s := by
    simp only [Builtin.«frozenset.__contains__», Builtin.Frozenset.oneOther, Builtin.Frozenset.addrOf, Builtin.Frozenset.withSetAsKey, setContains, List.isEmpty_nil, bind_assoc]
    refine wpAny_bind (wpAny_pure ?_); try dsimp only
    refine wpAny_bind (wpAny_pure ?_); try dsimp only
    refine wpAny_bind (wpAny_tryCatch (wpAny_holding (wpAny_bind (wpAny_pyHash_tuple (by show A.units + 1 < cLine; omega) hx ?_))))
    refine wpAny_bind (pfind (s := { s with toks := s.toks + (k.length + 1) }) R hx (by show A.units + 1 < cLine; omega) fun r er => wpAny_pure ?_)
    show wpAny _ _ (ret (Value.bool r.isSome)) _ _ _
    rw [er]
    exact wpAny_pure ⟨_, rfl, wpAny_truthy_bool (wpAny_pure h)⟩
  show wpAny _ _ (contains (.ref a) (.ref x) >>= fun b => pure (Value.bool b)) Q E s
  refine wpAny_bind ?_
  unfold contains
  try with_reducible refine wpAny_holding ?_
  refine wpAny_bind (wpAny_specialOf ty F.slot_set_contains.lookup ?_)
  refine wp_if_neg (by rw [beq_builtin_none]; decide) (wpAny_bind (wpAny_callSpecialUnlessNone?_slot (name := Str.ofString "__contains__") ty F.slot_set_contains (wpAny_call_entry F.slot_set_contains ty entry_set_contains ask (F.args_set_contains_2 _ _))))
end

section
variable {P : Program} {w : World} {A : Around} {E : Value → Shared → Prop} {s : Shared}
variable {a : Addr} {L : List (Addr × List Int)} {es : Array (Int × Value)} {ep : Nat} {t : SetTable}
theorem PsR.small {h : Heap} (R : PsR P w h a L es ep t) (few : L.length < 64) : SetTR P w h a L es ep t := ⟨R.obj, R.rw_, R.tb, R.nod, R.tps, R.pln, R.ld, R.rm, few⟩
theorem PsR.of {h : Heap} (R : SetTR P w h a L es ep t) : PsR P w h a L es ep t := ⟨R.ob, R.rows, R.tab, R.nd, R.tup, R.plain, R.led, R.room⟩
/-- one more tuple -/
theorem padd (R : PsR P w s.heap a L es ep t) {x : Addr} {k : List Int} (hx : IsT P w s.heap k x) (hu : A.units < cLine) (bnd : L.length + 1 ≤ 76) {Q : Bool → Shared → Prop}
    (h : ∀ b h' L' es' ep' t', Heap.SameBut a s.heap h' → PsR P w h' a L' es' ep' t' → (k ∈ L.map (·.2) → L' = L) → (k ∉ L.map (·.2) → L'.Perm ((x, k) :: L)) → Q b { s with heap := h' }) :
    wpAny (model P w) A (setAddHashed a (.ref x) (thash P w k)) Q E s := by
  by_cases few : L.length + 1 < 64
  · exact add_at (R.small (by omega)) hx hu few fun b h' L' es' ep' t' sb R' c1 c2 => h b h' L' es' ep' t' sb (PsR.of R') c1 c2
  · obtain ⟨o, ho, hex, hd⟩ := R.obj
    have m127 : t.mask = 127 := by
      have := R.rm
      rcases R.tb.mok with e | e | e <;> omega
    unfold setAddHashed
    refine wpAny_holding ?_
    show wpAny (model P w) A (setAddHashedIn a (.ref x) (thash P w k) (99999 + 1)) Q E s
    rw [setAddHashedIn_succ]
    refine wpAny_bind (wpAny_setState_of ho hd R.fts ?_)
    dsimp only
    refine wp_if_neg (by simp [byScan, Value.scannable]) ?_
    try refine wpAny_bind (wpAny_pure ?_)
    refine wpAny_bind (psearch0 R hx hu true (fun i m => ?_) fun N m n1 n2 => ?_)
    · dsimp only
      exact wpAny_pure (h false s.heap L es ep t (Heap.SameBut.refl a s.heap) R (fun _ => rfl) fun z => absurd m z)
    · dsimp only
      refine wpAny_bind (wpAny_setState_of ho hd R.fts ?_)
      dsimp only
      obtain ⟨q1, q2, q3, q4, q5, q6, q7, q8, q9⟩ := R.tb.put n1 n2
      have e0 : way t.mask (thash P w k) N = slAt P w t k N := rfl
      rw [e0] at q1 q2 q3 q4 q5 q6 q7 q8 q9
      generalize slAt P w t k N = sl at q1 q2 q3 q4 q5 q6 q7 q8 q9 ⊢
      rw [q1]
      generalize (t.put sl).1 = t1 at q3 q4 q5 q6 q7 q8 q9 ⊢
      generalize SetTable.below t.place sl = b at q2 q3 ⊢
      have plain1 : t1.plain = true := by rw [q6]; exact R.pln
      refine wp_if_pos plain1 (wpAny_bind (hashBy_tup hx ?_))
      simp only [if_true, Bool.not_false, Bool.true_and]
      have pm : (L.take b ++ (x, k) :: L.drop b).Perm ((x, k) :: L) := put_perm L b (x, k)
      have rows : (SetTable.insertAt es b (thash P w k, Value.ref x)).toList = rowsOf P w (L.take b ++ (x, k) :: L.drop b) := by
        rw [rows_put, ← R.rw_]
        exact SetTable.toList_insertAt _ _ _
      have tabs : TabOk t1 ((L.take b ++ (x, k) :: L.drop b).map fun p => thash P w p.2) := by
        rw [List.map_append, List.map_cons, List.map_take, List.map_drop]
        exact q3
      generalize SetTable.insertAt es b (thash P w k, Value.ref x) = es1 at rows ⊢
      generalize L.take b ++ (x, k) :: L.drop b = L1 at pm rows tabs
      have len1 : L1.length = L.length + 1 := pm.length_eq
      have size1 : es1.size = L.length + 1 := by
        have e := congrArg List.length rows
        rw [Array.length_toList] at e
        rw [e, ← len1]
        exact List.length_map _
      have notFull : ¬ t1.tooFull = true := fun z => by
        have z2 : decide (t1.fill * 5 ≥ t1.mask * 3) = true := z
        rw [decide_eq_true_eq, q9, List.length_map, q4, m127] at z2
        omega
      refine wpAny_bind (wpAny_storeSet_of ho hd ?_ (by rw [size1, sizeLine_eq]; omega))
      refine wp_if_neg notFull ?_
      have sb : Heap.SameBut a s.heap (s.heap.update a (Obj.putSet es1 t1)) := Heap.SameBut.update ..
      refine wpAny_pure (h true _ L1 es1 (ep + 1) t1 sb ⟨⟨_, store_at ho hd, ⟨hex.1, hex.2.1, hex.2.2⟩, rfl⟩, rows, tabs, ?_, fun p hp => ?_, plain1, by rw [q5]; exact R.ld, by rw [len1, q4, m127]; omega⟩ (fun z => absurd z m) fun _ => pm)
      · refine (pm.map (·.2)).nodup_iff.mpr ?_
        rw [List.map_cons]
        exact List.nodup_cons.mpr ⟨m, R.nod⟩
      · rcases List.mem_cons.mp (pm.mem_iff.mp hp) with e | hp2
        · rw [e]
          exact isT_same hx ho hd sb
        · exact isT_same (R.tps p hp2) ho hd sb
end

/-! ### as rules of the layer: a set of pairs of ints -/
theorem perm_map {α β : Type} {f : α → β} {l m : List β} (h : l.Perm m) : ∀ L : List α, m = L.map f → ∃ L' : List α, List.Perm L' L ∧ l = List.map f L' := by
  induction h with
  | nil => intro L e; exact ⟨[], by rw [List.map_eq_nil_iff.mp e.symm], rfl⟩
  | cons x _ ih =>
    intro L e
    cases L with
    | nil => cases e
    | cons y L =>
      obtain ⟨e1, e2⟩ := List.cons.inj e
      obtain ⟨L', p, e3⟩ := ih L e2
      exact ⟨y :: L', p.cons y, by rw [List.map_cons, e1, e3]⟩
  | swap x y l =>
    intro L e
    match L, e with
    | y' :: x' :: L, e =>
      obtain ⟨e1, e2⟩ := List.cons.inj e
      obtain ⟨e3, e4⟩ := List.cons.inj e2
      exact ⟨x' :: y' :: L, List.Perm.swap y' x' L, by rw [List.map_cons, List.map_cons, ← e1, ← e3, ← e4]⟩
  | trans _ _ ih1 ih2 =>
    intro L e
    obtain ⟨L1, p1, e1⟩ := ih2 L e
    obtain ⟨L2, p2, e2⟩ := ih1 L1 e1
    exact ⟨L2, p2.trans p1, e2⟩
def pr2 : List Int → Pr
  | [x, y] => (x, y)
  | _ => (0, 0)
section
variable {P : Program} {w : World} {A : Around} {E : Value → Shared → Prop} {s : Shared}
variable {a : Addr} {L : List (Addr × List Int)} {es : Array (Int × Value)} {ep : Nat} {t : SetTable}
theorem IsT.pair {h : Heap} {b : Addr} {x y : Int} (q : IsT P w h [x, y] b) : Srt.IsPair h (.ref b) x y := by
  obtain ⟨o, items, n, ho, hc, hd, hi⟩ := q
  obtain ⟨its⟩ := items
  cases hi with
  | cons h1 h2 =>
    cases h2 with
    | cons h3 h4 =>
      cases h4
      obtain ⟨t1, rfl⟩ := Value.isInt_shape h1
      obtain ⟨t2, rfl⟩ := Value.isInt_shape h3
      exact ⟨b, o, t1, t2, n, rfl, ho, hc, hd⟩
/-- the pair that stands at a value -/
def kL (L : List (Addr × List Int)) (v : Value) : Pr := match v with
  | .ref b => pr2 ((L.lookup b).getD [])
  | _ => (0, 0)
theorem kL_of {h : Heap} (tps : ∀ p ∈ L, IsT P w h p.2 p.1) {q : Addr × List Int} (m : q ∈ L) : kL L (.ref q.1) = pr2 q.2 := by
  have key : ∀ L : List (Addr × List Int), (∀ p ∈ L, IsT P w h p.2 p.1) → q ∈ L → L.lookup q.1 = some q.2 := by
    intro L
    induction L with
    | nil => intro _ z; cases z
    | cons p L ih =>
      intro tps m
      obtain ⟨b, k⟩ := p
      by_cases e : q.1 = b
      · have t1 := tps _ m
        have t2 := tps (b, k) List.mem_cons_self
        rw [e] at t1
        have e2 : q.2 = k := t1.inj t2
        rw [List.lookup_cons, e, beq_self_eq_true, e2]
      · have m2 : q ∈ L := by
          rcases List.mem_cons.mp m with z | z
          · rw [z] at e
            exact absurd rfl e
          · exact z
        rw [List.lookup_cons, beq_eq_false_iff_ne.mpr e]
        exact ih (fun p hp => tps p (List.mem_cons_of_mem _ hp)) m2
  show pr2 ((L.lookup q.1).getD []) = _
  rw [key L tps m]
  rfl
/-- sorted(set) -/
theorem psorted (R : PsR P w s.heap a L es ep t) (hh : A.handled = none) (two : ∀ p ∈ L, ∃ x y, p.2 = [x, y]) (few : L.length ≤ 1000) {Q : Value → Shared → Prop}
    (h : ∀ s' p c (L' : List (Addr × List Int)), (∀ b o, s.heap.get? b = some o → s'.heap.get? b = some o) → s'.gens = s.gens → s'.os = s.os → s.heap.objs.size ≤ p → s'.heap.get? p = some (seqObj "list" (L'.map fun q => Value.ref q.1).toArray c) → L'.Perm L →
      L'.Pairwise (fun q r => ¬ lt2 (pr2 r.2) (pr2 q.2)) → Q (.ref p) s') : wpAny (model P w) A (call (.builtin "sorted") [.ref a]) Q E s := by
  obtain ⟨o, ho, hex, hd⟩ := R.obj
  have sz := R.sz
  refine Calls.call_function_entry kind_sorted plain_sorted entry_sorted (args_sorted1 _) ?_
  unfold Builtin.«sorted»; refine wpAny_bind (m := checkCount "sorted" 1 1 _) (wpAny_pure ?_)
  refine wpAny_bind (collect_set (A := A.in1) hh ⟨o, ho, hex.1, hd⟩ R.fts (by rw [sz]; unfold scanBound; omega) R.tb.ris R.ld fun s1 vs keep grow g1 o1 pm => ?_)
  have e1 : es.toList.map (·.2) = L.map fun q => Value.ref q.1 := by
    rw [R.rw_]
    show List.map _ (L.map _) = _
    rw [List.map_map]
    rfl
  rw [e1] at pm
  have lv : vs.length ≤ sizeLine := by
    rw [pm.length_eq, List.length_map, sizeLine_eq]
    omega
  refine wpAny_bind (wpAny_newList ?_ lv)
  have new : (s1.heap.push (seqObj "list" vs.toArray 0)).get? s1.heap.objs.size = some (seqObj "list" vs.toArray 0) := Heap.get?_push_size _ rfl
  have pairs : ∀ v ∈ vs, Srt.IsPair (s1.heap.push (seqObj "list" vs.toArray 0)) v (kL L v).1 (kL L v).2 := fun v hv => by
    obtain ⟨q, hq, rfl⟩ := List.mem_map.mp (pm.mem_iff.mp hv)
    rw [kL_of R.tps hq]
    obtain ⟨x, y, e2⟩ := two q hq
    have t1 := R.tps q hq
    rw [e2] at t1 ⊢
    exact Srt.IsPair.keeps (IsT.pair t1) fun b u e _ => Heap.get?_push_of_some _ (keep b u e)
  refine wpAny_bind (wpAny_holding (wpAny_call_entry slot_list_sort ⟨_, new, rfl⟩ entry_list_sort (SrtO.list_sort_ord (s := { s1 with heap := s1.heap.push (seqObj "list" vs.toArray 0) }) (SrtO.swo_lex (kL L)) new lv (fun h2 => SrtO.pairs_sortableO (by omega) pairs fun o e c => ?_) fun out so st => ⟨_, rfl, ?_⟩) (args_list_sort _)))
  · have e3 : some o = some (seqObj "list" vs.toArray 0) := e.symm.trans new
    cases e3
    exact absurd (Value.type.inj c) (by decide)
  · obtain ⟨L', p1, p2⟩ := perm_map (st.perm.trans pm) L rfl
    obtain ⟨c, hc⟩ := sortedHeap_at (vs := vs) (out := out.toArray) new
    refine wpAny_pure ⟨_, rfl, h _ s1.heap.objs.size c L' (fun b u e => ?_) g1 o1 grow ?_ p1 ?_⟩
    · have e4 := keep b u e
      have lt := Heap.lt_size e4
      show (sortedHeap (s1.heap.push (seqObj "list" vs.toArray 0)) s1.heap.objs.size vs out.toArray).get? b = some u
      rw [sortedHeap_old (Nat.ne_of_lt lt) (by rw [size_push']; exact Nat.lt_succ_of_lt lt)]
      exact Heap.get?_push_of_some _ e4
    · rw [← p2]
      exact hc
    · rw [p2] at so
      refine List.Pairwise.imp_of_mem (fun {q r} hq hr z => ?_) (List.pairwise_map.mp so)
      have z2 : SrtO.lexB (kL L (Value.ref r.1)) (kL L (Value.ref q.1)) = false := z
      rw [kL_of R.tps (p1.mem_iff.mp hq), kL_of R.tps (p1.mem_iff.mp hr)] at z2
      exact SrtO.lexB_no.mp z2
end
/-- the set at a without its tuples -/
structure Ps0 (P : Program) (w : World) (h : Heap) (a : Addr) (L : List (Addr × List Int)) : Prop where
  ex : ∃ (es : Array (Int × Value)) (ep : Nat) (t : SetTable), (∃ o, h.get? a = some o ∧ o.ExactSet ∧ o.data = .set es ep t) ∧ es.toList = rowsOf P w L ∧ TabOk t (L.map fun p => thash P w p.2) ∧ (L.map (·.2)).Nodup ∧ t.plain = true ∧ (w.params.followText "set-order" = true ∨ t.led = true) ∧ L.length * 5 < t.mask * 3
def PsO (P : Program) (w : World) (a : Addr) (L : List (Addr × List Int)) : HO := .ext fun h => Ps0 P w h a L
theorem PsR.p0 {P : Program} {w : World} {h : Heap} {a : Addr} {L : List (Addr × List Int)} {es : Array (Int × Value)} {ep : Nat} {t : SetTable} (R : PsR P w h a L es ep t) : Ps0 P w h a L := ⟨es, ep, t, R.obj, R.rw_, R.tb, R.nod, R.pln, R.ld, R.rm⟩
theorem Ps0.full {P : Program} {w : World} {h : Heap} {a : Addr} {L : List (Addr × List Int)} (R : Ps0 P w h a L) (tp : ∀ p ∈ L, IsT P w h p.2 p.1) : ∃ es ep t, PsR P w h a L es ep t := by
  obtain ⟨es, ep, t, h1, h2, h3, h4, h5, h6, h7⟩ := R.ex
  exact ⟨es, ep, t, ⟨h1, h2, h3, h4, tp, h5, h6, h7⟩⟩
theorem psO_new {P : Program} {w : World} {H : Hp} {h : Heap} {a : Addr} {L : List (Addr × List Int)} (R : Ps0 P w h a L) : ObjOk P w H h a (PsO P w a L) := by
  refine ⟨R, ?_, fun h1 h2 p k => ?_⟩
  · obtain ⟨_, _, _, ⟨o, ho, _⟩, _⟩ := R.ex
    exact ⟨o, ho⟩
  · obtain ⟨es, ep, t, ⟨o, ho, r⟩, q⟩ := Ps0.ex p
    exact ⟨es, ep, t, ⟨o, k o ho, r⟩, q⟩
section
variable {X : Cx}
theorem ps_get {pins : List (Addr × Obj)} {σ : L2.St} {H : Hp} {s : Shared} {a : Addr} {L : List (Addr × List Int)} (I : Inv X pins σ H s) (ha : H a = some (PsO X.prog X.w a L)) (tp : ∀ p ∈ L, SqT X.K H p.1 (p.2.map V.int)) : ∃ es ep t, PsR X.prog X.w s.heap a L es ep t :=
  Ps0.full (I.hok a _ ha).1 fun p hp => I.isT (tp p hp)
/-- set(), to be filled with pairs -/
def rPs0 (P : Program) (w : World) : List V → Hp → VK → Prop := fun xs H Q => xs = [] ∧ ∀ p, H p = none → Q (.ref p) (upd H p (PsO P w p []))
theorem cr_ps0 : CallR X (.type "set") (rPs0 X.prog X.w) := by
  intro pins s σ H xs us Q I r h
  obtain ⟨rfl, q⟩ := h
  cases r
  refine setR_new fun _ => ?_
  exact ⟨.ref _, upd H s.heap.objs.size (PsO X.prog X.w s.heap.objs.size []), I.laid (t' := s.toks) (fun b u e => Heap.get?_push_of_some _ e) (Nat.le_refl _) (psO_new (PsR.of (setTR_fresh (Heap.get?_push_size _ rfl))).p0), rfl, q _ (I.hok.fresh (Nat.le_refl _))⟩
/-- (a, b) in seen -/
def rPsIn (K : PySem.W.Frag) (P : Program) (w : World) : V → V → Hp → VK → Prop := fun x y H Q => ∃ b k a L, x = V.ref b ∧ y = V.ref a ∧ H a = some (PsO P w a L) ∧ (∀ p ∈ L, SqT K H p.1 (p.2.map V.int)) ∧ SqT K H b (k.map V.int) ∧ Q (.bl (decide (k ∈ L.map (·.2)))) H
theorem op_psIn (hu : X.A.units + 64 < cLine) : OpR X (compareOp .In) (rPsIn X.K X.prog X.w) := by
  intro pins s σ H x y v u Q I rx ry h
  obtain ⟨b, k, a, L, rfl, rfl, ha, tp, hb, q⟩ := h
  cases (show v = Value.ref b from rx)
  cases (show u = Value.ref a from ry)
  obtain ⟨es, ep, t, R⟩ := ps_get I ha tp
  exact pis_in R (I.isT hb) (by omega) ⟨.bl _, H, I.tok _, rfl, q⟩
/-- seen.add((a, b)) -/
def rPsAdd (K : PySem.W.Frag) (P : Program) (w : World) : V → List V → Hp → VK → Prop := fun x xs H Q => ∃ b k a L, x = V.ref a ∧ xs = [V.ref b] ∧ H a = some (PsO P w a L) ∧ (∀ p ∈ L, SqT K H p.1 (p.2.map V.int)) ∧ SqT K H b (k.map V.int) ∧ L.length + 1 ≤ 76 ∧
  ∀ L', (k ∈ L.map (·.2) → L' = L) → (k ∉ L.map (·.2) → L'.Perm ((b, k) :: L)) → Q .non (upd H a (PsO P w a L'))
theorem mt_psAdd (hu : X.A.units + 64 < cLine) : MtR X "set.add" (rPsAdd X.K X.prog X.w) := by
  intro pins s σ H x xs v us Q I rx rxs h
  obtain ⟨b, k, a, L, rfl, rfl, ha, tp, hb, bnd, q⟩ := h
  cases rx
  cases rxs with
  | cons ry rt =>
    cases rt
    cases (show _ = Value.ref b from ry)
    obtain ⟨es, ep, t, R⟩ := ps_get I ha tp
    have hx := I.isT hb
    refine wpAny_call_entry F.slot_set_add R.ty F.entry_set_add ?_ (F.args_set_add_2 _ _)
    simp only [Builtin.«set.add», Builtin.Frozenset.oneOther, Builtin.Frozenset.addrOf, setAdd, List.isEmpty_nil, bind_assoc]
    refine wpAny_bind (wpAny_pure ?_); try dsimp only
    refine wpAny_bind (wpAny_pure ?_); try dsimp only
    refine wpAny_bind (wpAny_holding (wpAny_bind (wpAny_pyHash_tuple (by show X.A.units + 1 < cLine; omega) hx ?_)))
    refine padd (s := { s with toks := s.toks + (k.length + 1) }) R hx (by show X.A.units + 1 < cLine; omega) bnd fun c h' L' es' ep' t' sb R' c1 c2 => ?_
    show wpAny _ _ (ret Value.none) _ _ _
    have he : ∃ u, h'.get? a = some u := by
      obtain ⟨o, ho, _⟩ := R'.obj
      exact ⟨o, ho⟩
    exact wpAny_pure ⟨_, rfl, .non, upd H a (PsO X.prog X.w a L'), I.write (e := a) (t' := s.toks + (k.length + 1)) (by rw [ha]; trivial) (.inl rfl) (fun b u hb hu => (sb.2 b hb).trans hu) he (psO_new R'.p0), rfl, q L' c1 c2⟩
/-- sorted(seen) -/
def rPsSort (K : PySem.W.Frag) (P : Program) (w : World) : List V → Hp → VK → Prop := fun vs H Q => ∃ a L, vs = [V.ref a] ∧ H a = some (PsO P w a L) ∧ (∀ p ∈ L, SqT K H p.1 (p.2.map V.int)) ∧ (∀ p ∈ L, ∃ x y, p.2 = [x, y]) ∧ L.length ≤ 1000 ∧
  ∀ (L' : List (Addr × List Int)) (p : Addr), L'.Perm L → (L'.map (·.2)).Nodup → L'.Pairwise (fun q r => ¬ lt2 (pr2 r.2) (pr2 q.2)) → H p = none → Q (.ref p) (upd H p (.lst (L'.map fun q => V.ref q.1)))
theorem cr_psSort (hc : X.calm = true) : CallR X (.builtin "sorted") (rPsSort X.K X.prog X.w) := by
  intro pins s σ H vs us Q I r h
  obtain ⟨a, L, rfl, ha, tp, two, few, q⟩ := h
  obtain ⟨es, ep, t, R⟩ := ps_get I ha tp
  rw [Vals.ref1 r]
  refine psorted R (I.ok.hd hc) two few fun s' p c L' keep g o hp hg pm pw => ?_
  have hn : H p = none := I.hok.fresh hp
  have ll : (L'.map fun q => V.ref q.1).length ≤ sizeLine := by
    rw [List.length_map, pm.length_eq, sizeLine_eq]
    omega
  have J : Inv X pins σ (upd H p (.lst (L'.map fun q => V.ref q.1))) { s with heap := s'.heap, gens := s'.gens, drawn := s'.drawn, toks := s'.toks } :=
    I.call (ch := []) (Un.laid keep hp hn) (I.hok.laid keep hp ⟨ll, _, c, vals_of_refs L', hg⟩) (by rw [g]; exact I.bare) (fun _ z => nomatch z)
  have e : s' = { s with heap := s'.heap, gens := s'.gens, drawn := s'.drawn, toks := s'.toks } := by
    cases s'
    cases s
    cases o
    rfl
  rw [e]
  exact ⟨.ref p, _, J, rfl, q L' p pm ((pm.map (·.2)).nodup_iff.mpr R.nod) pw hn⟩
/-- the call of the method -/
def tPsAdd (K : PySem.W.Frag) (P : Program) (w : World) (to : TE) (t : TA) : TE := fun σ H Q => to σ H fun x H1 => (∃ a L, x = V.ref a ∧ H1 a = some (PsO P w a L)) ∧ t σ H1 fun xs H2 => rPsAdd K P w x xs H2 Q
theorem ps_look {pins : List (Addr × Obj)} {σ : L2.St} {H : Hp} {s : Shared} {a : Addr} {L : List (Addr × List Int)} (I : Inv X pins σ H s) (ha : H a = some (PsO X.prog X.w a L)) : s.TypeIs (.ref a) "set" ∧ ∀ b, Value.ref a = .ref b → ∃ ob, s.heap.get? b = some ob ∧ ob.dict = none := by
  obtain ⟨_, _, _, ⟨o, ho, hx, _⟩, _⟩ := Ps0.ex (I.hok a _ ha).1
  refine ⟨⟨o, ho, hx.1⟩, fun b e => ?_⟩
  injection e with e
  subst e
  exact ⟨o, ho, hx.2.1⟩
theorem pe_psAdd {o e : Expr} {es : List Expr} {to : TE} {t : TA} {apos cpos : Pos} (hu : X.A.units + 64 < cLine) (ho : PE X o to) (ha : PA X (e :: es) t)
    (b1 : attributeBase o "add" X.env (eval o X.env) = eval o X.env := by rfl)
    (b2 : ((backTo cpos (starEach (e :: es) X.env)).all (fun x => !x.1) && (backToKw cpos (keywordEach [] X.env)).all (fun x => x.1.isSome) && decide ((e :: es).length + ([] : List Keyword).length + (if ([] : List Keyword).isEmpty then 0 else 1) < 30)) = true := by rfl)
    (b3 : (apos.endLine == cpos.line) = true := by rfl) (b4 : starEach (e :: es) X.env = (false, eval e X.env) :: starEach es X.env := by rfl) (b5 : (backTo cpos (starEach es X.env)).any (·.1) = false := by rfl) :
    PE X (.Call (.Attribute o "add" apos) (e :: es) [] cpos) (tPsAdd X.K X.prog X.w to t) := by
  refine ⟨fun pins s σ H Q I h => wpAny_Call_method_late b1 b2 b3 rfl (thn (ho.run pins s σ H _ I h) ?_)⟩
  rintro v s1 ⟨x, H1, I1, r1, ⟨a, L, rfl, hka⟩, q1⟩
  cases r1
  obtain ⟨k1, k2⟩ := ps_look I1 hka
  refine ⟨"set", "set.add", F.plainAttrs_set, F.slot_set_add, F.type_set_add, k1, k2, ?_⟩
  have run := ha.run cpos pins s1 σ H1 _ I1 q1
  rw [b4] at run ⊢
  refine Calls.callWith_builtin ?_ (Calls.evalArgs_plain (thn run ?_))
  · show (false || (backTo cpos (starEach es X.env)).any (·.1)) = false
    rw [b5]
    rfl
  · rintro us s2 ⟨vs, H2, I2, r2, q2⟩
    exact mt_psAdd hu pins s2 σ H2 (.ref a) vs (.ref a) us Q I2 rfl r2 q2
end

abbrev sHouse : Stmt := topS 7
abbrev sHinit : Stmt := inClass sHouse 2
abbrev sHcount : Stmt := inClass sHouse 3
abbrev sHdoors : Stmt := inClass sHouse 4
abbrev sHnear : Stmt := inClass sHouse 5
abbrev sHhas : Stmt := inClass sHouse 6
abbrev sRoom : Stmt := topS 8
abbrev sChk : Stmt := topS 9
/-- what the walk asks of the class House -/
structure Hs (K : PySem.W.Frag) (mg : Str → Option Value) (C : Addr) : Prop where
  cl : Cls K C
  nR : NoAttr K C "rooms"
  nD : NoAttr K C "_doors"
  nN : NoAttr K C "_near"
  mgC : mg "House" = some (.ref C)
  rd : ∃ mc u, ClX.CRead K C mc ∧ ClX.CVal K C mc "MOST_ROOMS" (.int 12) u
theorem for_enum {K : PySem.W.Frag} {a : Addr} {xs : List V} {g : TG} {tb : TS} {D : Ends} {σ : L2.St} {H : Hp} (Pv : Nat → L2.St → Hp → Prop) (h0 : Pv 0 σ H) (hl : ∀ i σ H, Pv i σ H → SqL K H a xs)
    (hs : ∀ (i : Nat) (x : V) (t : Addr) (σ : L2.St) (H : Hp), xs[i]? = some x → Pv i σ H → H t = none → g (.ref t) σ (upd H t (.tup [.int (i : Nat), x])) fun σ2 H2 => tb { D with nx := Pv (i + 1), ct := Pv (i + 1), bk := D.nx } σ2 H2) (hd : ∀ σ H, Pv xs.length σ H → D.nx σ H) :
    tFor (fun _ H R => R (Ite K a) H) g tb D σ H := by
  refine ⟨fun i m σ H => m = xs.length - i ∧ i ≤ xs.length ∧ Pv i σ H, ⟨xs.length, rfl, Nat.zero_le _, h0⟩, ?_⟩
  rintro i m σ H ⟨rfl, hi, p⟩
  have q := hl i σ H p
  by_cases lt : i < xs.length
  · refine .inr ⟨⟨xs, xs[i], q, List.getElem?_eq_getElem lt⟩, Pv (i + 1), fun σ' H' p' => ⟨xs.length - (i + 1), by omega, rfl, lt, p'⟩, ?_⟩
    rintro v H' ⟨t, x, rfl, nt, rfl, f⟩
    exact hs i x t σ H (f xs q) p nt
  · have e : i = xs.length := by omega
    subst e
    exact .inl ⟨⟨xs, q, Nat.le_refl _⟩, hd σ H p⟩
section
variable {P : Program} {w : World} {K : PySem.W.Frag} {mg : Str → Option Value} {base : Heap}
theorem scRoom : FnScope ["rooms"] ["rooms"] (defScope sRoom) := ⟨rfl, rfl, rfl, by decide +kernel, rfl, by decide +kernel, by decide +kernel⟩
def spRoom : Sp := fun vs H Q _ => ∃ r : Int, vs = [.int r] ∧ 1 ≤ r ∧ r ≤ 12 ∧ Q .non H
theorem ok_room {f C : Addr} {fd : FuncData} (F : Fun K "check_room_count" "check_room_count" sRoom f fd) (T : Hs K mg C) : FnOk P w K mg base CX0 1 f fd ["rooms"] spRoom := by
  refine F.ok scRoom (fun vs H Q E h => ?_) (fun cdv A outer s H vs Q E hr h => ?_)
  · obtain ⟨r, rfl, _⟩ := h
    rfl
  · obtain ⟨r, rfl, h1, h2, q⟩ := h
    refine ⟨_, (pss_one (ps_if (pt_not (pt_chain op_le op_le pe_int (pv 0) (ClX.pe_cval (pe_glob (v := .ref C) (by rfl) T.mgC rfl))))
      (pss_one (ps_never))
      pss_nil)), ?_⟩
    obtain ⟨mc, u, c1, c2⟩ := T.rd
    walk_at "rd"
    rw [if_pos h1]
    refine ⟨C, mc, .int 12, u, rfl, c1, c2, 12, rfl, ?_⟩
    rw [decide_eq_true h2]
    exact iteF q
theorem scChk : FnScope ["rooms", "doors", "seen", "place", "a", "b"] ["rooms", "doors"] (defScope sChk) := ⟨rfl, rfl, rfl, by decide +kernel, rfl, by decide +kernel, by decide +kernel⟩
def two (d : Pr) : List Int := [d.1, d.2]
theorem psO_ne {P : Program} {w : World} {a : Addr} {L : List (Addr × List Int)} {xs : List V} : PsO P w a L ≠ .tup xs := fun h => by
  unfold PsO at h
  cases h
theorem two_inj {d e : Pr} (h : two d = two e) : d = e := by
  unfold two at h
  obtain ⟨h1, h2⟩ := List.cons.inj h
  exact Prod.ext h1 (List.cons.inj h2).1
theorem not_taken {D : List Pr} (nd : D.Nodup) {i : Nat} {d : Pr} (g : D[i]? = some d) : d ∉ D.take i := fun z => by
  obtain ⟨j, gj⟩ := List.getElem?_of_mem z
  have lt : j < (D.take i).length := (List.getElem?_eq_some_iff.mp gj).1
  rw [List.length_take] at lt
  rw [List.getElem?_take_of_lt (by omega)] at gj
  have := nd_ix nd gj g
  omega
def spChk : Sp := fun vs H Q _ => ∃ (r : Nat) (l : Addr) (us : List V) (D : List Pr), vs = [.int r, .ref l] ∧ H l = some (.lst us) ∧ PL H us D ∧ D.Nodup ∧ (∀ d ∈ D, 0 ≤ d.1 ∧ d.1 < d.2 ∧ d.2 < r) ∧ r ≤ 12 ∧
  ∀ D' ws p H', Asc D' → (∀ d, d ∈ D' ↔ d ∈ D) → Same H H' → H p = none → H' p = some (.lst ws) → PL H' ws D' → Q (.ref p) H'
theorem ok_chk {f : Addr} {fd : FuncData} (F : Fun K "checked_doors" "checked_doors" sChk f fd) (T : Bi mg) : FnOk P w K mg base CX0 1 f fd ["rooms", "doors"] spChk := by
  refine F.ok scChk (fun vs H Q E h => ?_) (fun cdv A outer s H vs Q E hr h => ?_)
  · obtain ⟨r, l, us, D, rfl, _⟩ := h
    rfl
  · obtain ⟨r, l, us, D, rfl, hl, pl, nd, ok, hr12, q⟩ := h
    refine ⟨_, (pss_cons (ps_set (i := 2) scChk.nd rfl (Or.inl rfl) (pe_callTy0 cr_ps0 (by rfl) T.set (by decide +kernel)))
      (pss_cons (ps_for PassesOwn.never rfl (pi_enum (by rfl) T.enumerate (pa_cons (pv 1) pa_nil)) (pg_tup rfl (pgs_cons (pg_name (i := 3) scChk.nd rfl (Or.inl rfl)) (pgs_cons (pg_tup rfl (pgs_cons (pg_name (i := 4) scChk.nd rfl (Or.inl rfl)) (pgs_cons (pg_name (i := 5) scChk.nd rfl (Or.inl rfl)) pgs_nil))) pgs_nil)))
      (pss_cons (ps_if (PW.pt (pw_or (pt_not (PW.pt (pw_and (pt_chain op_le op_lt pe_int (pv 4) (pv 0)) (pw_and1 (pt_chain op_le op_lt pe_int (pv 5) (pv 0)))))) (pw_or (pt_cmpR op_eqI (pv 4) (pv 5) (nomark _)) (pw_or1 (pt_cmpR (op_psIn hr.units) (pe_tup (pa_cons (pv 4) (pa_cons (pv 5) pa_nil))) (pv 2) (by rfl))))))
        (pss_one (ps_never))
        pss_nil)
        (pss_one (ps_expr (pe_psAdd hr.units (pv 2) (pa_cons (pe_tup (pa_cons (pv 4) (pa_cons (pv 5) pa_nil))) pa_nil))))))
      (pss_one (ps_ret (pe_callB (cr_psSort rfl) (by rfl) T.sorted (by decide +kernel) (pa_cons (pv 2) pa_nil)))))), ?_⟩
    walk_at "rd"
    refine ⟨rfl, fun p np => ?_⟩
    obtain ⟨Pv, hPv⟩ : ∃ Pv : Nat → L2.St → Hp → Prop, Pv = (fun i σ H' => ∃ (L : List (Addr × List Int)) (v3 v4 v5 : Option V), σ = [some (.int r), some (.ref l), some (.ref p), v3, v4, v5] ∧ Same H H' ∧ H' p = some (PsO P w p L) ∧ (∀ q ∈ L, H' q.1 = some (.tup (q.2.map V.int))) ∧ List.Perm (L.map (·.2)) ((D.take i).map two)) := ⟨_, rfl⟩
    have hul : us.length = D.length := pl.len
    have dlen := drs_len' hr12 nd ok
    refine ⟨_, rfl, l, us, rfl, SqL.of (same_upd np l _ hl), for_enum (xs := us) Pv (by rw [hPv]; exact ⟨[], none, none, none, rfl, same_upd np, upd_same, fun q hq => (by cases hq), List.Perm.refl _⟩) (fun i σ H' pv => ?_) ?_ ?_⟩
    · rw [hPv] at pv
      obtain ⟨L, v3, v4, v5, _, sm, _⟩ := pv
      exact SqL.of (sm l _ hl)
    · rintro i v t σ H' gv pv nt
      have nxt : ∀ (L : List (Addr × List Int)) (v3 v4 v5 : Option V) (H' : Hp), Same H H' → H' p = some (PsO P w p L) → (∀ q ∈ L, H' q.1 = some (.tup (q.2.map V.int))) → List.Perm (L.map (·.2)) ((D.take (i + 1)).map two) → Pv (i + 1) [some (.int r), some (.ref l), some (.ref p), v3, v4, v5] H' := fun L v3 v4 v5 H' h1 h2 h3 h4 => by
        rw [hPv]
        exact ⟨L, v3, v4, v5, rfl, h1, h2, h3, h4⟩
      rw [hPv] at pv
      obtain ⟨L, v3, v4, v5, rfl, sm, hp, tp, pm⟩ := pv
      obtain ⟨d, gd, td, rfl, htd⟩ := pl.get gv
      have hid : i < D.length := (List.getElem?_eq_some_iff.mp gd).1
      have md : d ∈ D := List.mem_of_getElem? gd
      have okd := ok d md
      have hl1 := sm l _ hl
      have htd1 := sm td _ htd
      have ntd : td ≠ t := ne_of_none htd1 nt
      have htd2 : upd H' t (HO.tup [V.int i, V.ref td]) td = some (.tup [.int d.1, .int d.2]) := by rw [upd_ne ntd]; exact htd1
      walk_at "rd"
      refine ⟨[.int i, .ref td], SqT.of upd_same, rfl, .int i, [.ref td], rfl, .ref td, [], rfl, td, rfl, [.int d.1, .int d.2], SqT.of htd2, rfl, .int d.1, [.int d.2], rfl, .int d.2, [], rfl, rfl, rfl, d.1, rfl, ?_⟩
      rw [if_pos okd.1]
      refine ⟨d.1, rfl, ?_⟩
      rw [if_pos (show d.1 < (r : Int) by omega)]
      refine ⟨d.2, rfl, ?_⟩
      rw [if_pos (show 0 ≤ d.2 by omega)]
      refine ⟨d.2, rfl, ?_⟩
      rw [decide_eq_true okd.2.2]
      refine iteF ?_
      refine ⟨d.1, rfl, d.2, rfl, ?_⟩
      rw [if_neg (show ¬ d.1 = d.2 by omega)]
      refine ⟨by decide, fun t1 nt1 => ?_⟩
      have ne1 : t1 ≠ p := fun e => by
        rw [e, upd_ne (show p ≠ t from ne_of_none hp nt), hp] at nt1
        cases nt1
      have s1 : Same H' (upd (upd H' t (HO.tup [V.int i, V.ref td])) t1 (HO.tup [V.int d.1, V.int d.2])) := (same_upd nt).trans (same_upd nt1)
      have out : two d ∉ L.map (·.2) := fun z => by
        obtain ⟨e, he, ee⟩ := List.mem_map.mp (pm.mem_iff.mp z)
        rw [two_inj ee] at he
        exact not_taken nd gd he
      have lenL : L.length ≤ 66 := by
        have e := pm.length_eq
        rw [List.length_map, List.length_map, List.length_take] at e
        omega
      refine ⟨t1, two d, p, L, rfl, rfl, s1 p _ hp, fun q hq => SqT.of (s1 _ _ (tp q hq)), SqT.of upd_same, ?_⟩
      rw [decide_eq_false out]
      refine ⟨false, rfl, iteF ?_⟩
      generalize upd (upd H' t (HO.tup [V.int i, V.ref td])) t1 (HO.tup [V.int d.1, V.int d.2]) = H1 at s1
      have hp1 := s1 p _ hp
      refine ⟨_, rfl, ⟨p, L, rfl, hp1⟩, _, rfl, _, rfl, (by show 2 ≤ sizeLine; decide), fun t2 nt2 => ?_⟩
      have s2 : Same H1 (upd H1 t2 (HO.tup [V.int d.1, V.int d.2])) := same_upd nt2
      have hp2 := s2 p _ hp1
      refine ⟨t2, two d, p, L, rfl, rfl, hp2, fun q hq => SqT.of (s2 _ _ (s1 _ _ (tp q hq))), SqT.of upd_same, by omega, fun L' _ c2 => ?_⟩
      have pm2 := c2 out
      have keep : ∀ b xs, upd H1 t2 (HO.tup [V.int d.1, V.int d.2]) b = some (.tup xs) → upd (upd H1 t2 (HO.tup [V.int d.1, V.int d.2])) p (PsO P w p L') b = some (.tup xs) := fun b xs e => by
        rw [upd_ne]
        · exact e
        · rintro rfl
          rw [hp2] at e
          exact psO_ne (Option.some.inj e)
      refine nxt L' _ _ _ _ (same_ch ((sm.trans s1).trans s2) np) upd_same (fun q hq => ?_) ?_
      · refine keep _ _ ?_
        rcases List.mem_cons.mp (pm2.mem_iff.mp hq) with e | hq2
        · rw [e]
          exact upd_same
        · exact s2 _ _ (s1 _ _ (tp q hq2))
      · refine (pm2.map (·.2)).trans ?_
        rw [List.map_cons, List.take_add_one, gd, List.map_append]
        exact (List.Perm.cons _ pm).trans (List.perm_append_singleton _ _).symm
    · intro σ H' pv
      rw [hPv] at pv
      obtain ⟨L, v3, v4, v5, rfl, sm, hp, tp, pm⟩ := pv
      rw [hul, List.take_length] at pm
      have shape : ∀ q ∈ L, ∃ d ∈ D, q.2 = two d := fun q hq => by
        obtain ⟨d, hd, e⟩ := List.mem_map.mp (pm.mem_iff.mp (List.mem_map.mpr ⟨q, hq, rfl⟩))
        exact ⟨d, hd, e.symm⟩
      have lenL : L.length = D.length := by
        have e := pm.length_eq
        rw [List.length_map, List.length_map] at e
        exact e
      walk_at "rd"
      refine ⟨p, L, rfl, hp, fun q hq => SqT.of (tp q hq), fun q hq => ?_, by omega, fun L' t p1 n1 w1 nt => ?_⟩
      · obtain ⟨d, _, e⟩ := shape q hq
        exact ⟨d.1, d.2, e⟩
      · have hl' : ∀ q ∈ L', pr2 q.2 ∈ D ∧ H' q.1 = some (.tup [.int (pr2 q.2).1, .int (pr2 q.2).2]) := fun q hq => by
          have hq2 := p1.mem_iff.mp hq
          obtain ⟨d, hd, e⟩ := shape q hq2
          have e2 := tp q hq2
          rw [e] at e2 ⊢
          exact ⟨hd, e2⟩
        have back : ∀ q ∈ L', two (pr2 q.2) = q.2 := fun q hq => by
          obtain ⟨d, hd, e⟩ := shape q (p1.mem_iff.mp hq)
          rw [e]
          rfl
        refine q (L'.map fun q => pr2 q.2) (L'.map fun q => V.ref q.1) t _ (asc_of ?_ ?_) (fun d => ?_) (sm.trans (same_upd nt)) (sm.free nt) upd_same ?_
        · refine List.pairwise_map.mpr (List.Pairwise.imp_of_mem (fun {x y} hx hy hne e => hne ?_) (List.pairwise_map.mp n1))
          rw [← back x hx, ← back y hy, e]
        · exact List.pairwise_map.mpr w1
        · constructor
          · intro hd
            obtain ⟨q, hq, rfl⟩ := List.mem_map.mp hd
            exact (hl' q hq).1
          · intro hd
            have m1 : two d ∈ L.map (·.2) := pm.mem_iff.mpr (List.mem_map.mpr ⟨d, hd, rfl⟩)
            obtain ⟨q, hq, e⟩ := List.mem_map.mp m1
            refine List.mem_map.mpr ⟨q, p1.mem_iff.mpr hq, ?_⟩
            rw [e]
            rfl
        · have all : ∀ M : List (Addr × List Int), (∀ q ∈ M, H' q.1 = some (.tup [.int (pr2 q.2).1, .int (pr2 q.2).2])) → PL H' (M.map fun q => V.ref q.1) (M.map fun q => pr2 q.2) := by
            intro M
            induction M with
            | nil => intro _; exact Paired.nil
            | cons q M ih => intro h; exact Paired.cons ⟨q.1, rfl, h q List.mem_cons_self⟩ (ih fun z hz => h z (List.mem_cons_of_mem _ hz))
          exact (all L' fun q hq => (hl' q hq).2).kt (KT.new nt)
end

/-! ### the house as an object -/
def hf (r : Int) (l m : Addr) : List (Str × V) := putF "_near" (.ref m) (putF "_doors" (.ref l) (putF "rooms" (.int r) []))
theorem hn1 : ¬ (("rooms" : Str) = "_doors") := by decide +kernel
theorem hn2 : ¬ (("rooms" : Str) = "_near") := by decide +kernel
theorem hn3 : ¬ (("_doors" : Str) = "_near") := by decide +kernel
theorem hf_rooms (r : Int) (l m : Addr) : (hf r l m).lookup ("rooms" : Str) = some (.int r) := by
  unfold hf
  rw [lookup_putF, if_neg hn2, lookup_putF, if_neg hn1, lookup_putF, if_pos rfl]
theorem hf_doors (r : Int) (l m : Addr) : (hf r l m).lookup ("_doors" : Str) = some (.ref l) := by
  unfold hf
  rw [lookup_putF, if_neg hn3, lookup_putF, if_pos rfl]
theorem hf_near (r : Int) (l m : Addr) : (hf r l m).lookup ("_near" : Str) = some (.ref m) := by
  unfold hf
  rw [lookup_putF, if_pos rfl]
theorem hf_no (r : Int) (l m : Addr) {x : Str} (h1 : ¬ x = "_near") (h2 : ¬ x = "_doors") (h3 : ¬ x = "rooms") : (hf r l m).lookup x = none := by
  unfold hf
  rw [lookup_putF, if_neg h1, lookup_putF, if_neg h2, lookup_putF, if_neg h3]
  rfl
/-- the neighbours of room i by the doors D, in the order in which they are met -/
def nearF (i : Int) (D : List Pr) : List Int := D.filterMap fun d => if d.1 = i then some d.2 else if d.2 = i then some d.1 else none
/-- a house with these rooms and doors stands at p -/
structure HouseAt (C : Addr) (H : Hp) (p : Addr) (r : Nat) (D : List Pr) (own : List Addr) : Prop where
  ex : ∃ (dx l m : Addr) (ls : List V) (ns : List Addr), H p = some (.ins C dx (hf r l m)) ∧ H l = some (.lst ls) ∧ PL H ls D ∧ H m = some (.lst (ns.map V.ref)) ∧ ns.length = r ∧ (∀ i n, ns[i]? = some n → H n = some (.lst ((nearF (i : Nat) D).map V.int))) ∧ own = p :: l :: m :: ns
  ok : Drs r D
  r1 : 1 ≤ r
  r12 : r ≤ 12
theorem nearF_snoc (j : Int) (D : List Pr) (d : Pr) : nearF j (D ++ [d]) = nearF j D ++ (if d.1 = j then [d.2] else if d.2 = j then [d.1] else []) := by
  unfold nearF
  rw [List.filterMap_append]
  congr 1
  show List.filterMap _ [d] = _
  rw [List.filterMap_cons]
  by_cases h1 : d.1 = j
  · simp [h1]
  · by_cases h2 : d.2 = j
    · simp [h1, h2]
    · simp [h1, h2]
def mm2 (d : Pr) : Pr := (if d.2 < d.1 then d.2 else d.1, if d.2 > d.1 then d.2 else d.1)
section
variable {P : Program} {w : World} {K : PySem.W.Frag} {mg : Str → Option Value} {base : Heap}
theorem scHinit : FnScope ["self", "rooms", "doors", "a", "b", "_"] ["self", "rooms", "doors"] (defScope sHinit) := ⟨rfl, rfl, rfl, by decide +kernel, rfl, by decide +kernel, by decide +kernel⟩
def spHinit (C : Addr) : Sp := fun vs H Q _ => ∃ (p dx l : Addr) (r : Nat) (us : List V) (D E : List Pr), vs = [.ref p, .int r, .ref l] ∧ H p = some (.ins C dx []) ∧ H l = some (.lst us) ∧ PL H us D ∧ D.map mm2 = E ∧ E.Nodup ∧ (∀ d ∈ E, 0 ≤ d.1 ∧ d.1 < d.2 ∧ d.2 < r) ∧ 1 ≤ r ∧ r ≤ 12 ∧
  ∀ D' own H', (∀ d, d ∈ D' ↔ d ∈ E) → HouseAt C H' p r D' own → (∀ b o, H b = some o → b ≠ p → H' b = some o) → (∀ b ∈ own, b ≠ p → H b = none) → Q .non H'
theorem ok_hinit {f C fR fC : Addr} {fd fdR fdC : FuncData} (F : Fun K "__init__" "House.__init__" sHinit f fd) (T : Bi mg) (U : Hs K mg C) (d_check_room_count : Df P w K mg base "check_room_count" ["rooms"] 1 spRoom fR fdR)
    (d_checked_doors : Df P w K mg base "checked_doors" ["rooms", "doors"] 1 spChk fC fdC) : FnOk P w K mg base CX0 2 f fd ["self", "rooms", "doors"] (spHinit C) := by
  refine F.ok scHinit (fun vs H Q E h => ?_) (fun cdv A outer s H vs Q E hr h => ?_)
  · obtain ⟨p, dx, l, r, us, D, E, rfl, _⟩ := h
    rfl
  · obtain ⟨p, dx, l, r, us, D, E, rfl, hp, hl, pl, eE, nd, ok, hr1, hr12, q⟩ := h
    refine ⟨_, (pss_cons (ps_expr (pe_call d_check_room_count.ok (hr.mono (by decide)) (by rfl) d_check_room_count.at_ d_check_room_count.kp d_check_room_count.b .nil pass0 (pa_cons (pv 1) pa_nil)))
      (pss_cons (ps_fld (pv 0) (pv 1) rfl)
      (pss_cons (ps_fld (pv 0) (pe_call d_checked_doors.ok (hr.mono (by decide)) (by rfl) d_checked_doors.at_ d_checked_doors.kp d_checked_doors.b .nil pass0 (pa_cons (pv 1) (pa_cons (pe_lc (own := [("a", 3), ("b", 4)]) (g := gTup K 2 (gCons (gName 3) (gCons (gName 4) gNil))) (by rfl) scHinit.nd (pi_list (pv 2)) (blkOk_by (N := ["self", "rooms", "doors", "a", "b", "_"]) (sc := defScope sHinit) (by decide +kernel)) (fun _ _ _ _ _ => pg_tup rfl (pgs_cons (pg_name (i := 3) scHinit.nd rfl (Or.inl rfl)) (pgs_cons (pg_name (i := 4) scHinit.nd rfl (Or.inl rfl)) pgs_nil))) (fun _ _ _ _ _ => pts_nil) (fun _ _ _ _ _ => (pe_tup (pa_cons (pe_callB (call_min2 rfl) (by rfl) T.min (by decide +kernel) (pa_cons (pv 3) (pa_cons (pv 4) pa_nil))) (pa_cons (pe_callB (call_max2 rfl) (by rfl) T.max (by decide +kernel) (pa_cons (pv 3) (pa_cons (pv 4) pa_nil))) pa_nil))))) pa_nil))) rfl)
      (pss_cons (ps_fld (pv 0) (pe_lc (own := [("_", 5)]) (by rfl) scHinit.nd (pi_range1 (by rfl) T.range (pa_cons (pv 1) pa_nil)) (blkOk_by (N := ["self", "rooms", "doors", "a", "b", "_"]) (sc := defScope sHinit) (by decide +kernel)) (fun _ _ _ _ _ => pg_name (i := 5) scHinit.nd rfl (Or.inl rfl)) (fun _ _ _ _ _ => pts_nil) (fun _ _ _ _ _ => (pe_lst pa_nil))) rfl)
      (pss_one (ps_for PassesOwn.never rfl (pi_list (pe_fld (pv 0) rfl)) (pg_tup rfl (pgs_cons (pg_name (i := 3) scHinit.nd rfl (Or.inl rfl)) (pgs_cons (pg_name (i := 4) scHinit.nd rfl (Or.inl rfl)) pgs_nil)))
      (pss_cons (ps_expr (pe_bm PySem.F.plainAttrs_list PySem.F.slot_list_append PySem.F.type_list_append mt_append (pe_ix ix_list (pe_fld (pv 0) rfl) (pv 3) (fun _ _ => rfl)) (pa_cons (pv 4) pa_nil)))
        (pss_one (ps_expr (pe_bm PySem.F.plainAttrs_list PySem.F.slot_list_append PySem.F.type_list_append mt_append (pe_ix ix_list (pe_fld (pv 0) rfl) (pv 4) (fun _ _ => rfl)) (pa_cons (pv 3) pa_nil))))))))))), ?_⟩
    walk_at "rd"
    refine ⟨r, rfl, by omega, by omega, ?_⟩
    have npl : l ≠ p := ne_of hl hp (by intro z; cases z)
    refine ⟨C, dx, [], hp, U.cl, U.nR, (by show 0 < 1000; decide), ?_⟩
    have hl1 : upd H p (HO.ins C dx (putF "rooms" (V.int r) [])) l = some (.lst us) := by rw [upd_ne npl]; exact hl
    have pl1 : PL (upd H p (HO.ins C dx (putF "rooms" (V.int r) []))) us D := pl.kt (KT.ch hp (fun _ z => by cases z))
    have hp1 : upd H p (HO.ins C dx (putF "rooms" (V.int r) [])) p = some (HO.ins C dx (putF "rooms" (V.int r) [])) := upd_same
    have old1 : ∀ b o, H b = some o → b ≠ p → upd H p (HO.ins C dx (putF "rooms" (V.int r) [])) b = some o := fun b o e h => by rw [upd_ne h]; exact e
    have free1 : ∀ b, upd H p (HO.ins C dx (putF "rooms" (V.int r) [])) b = none → H b = none ∧ b ≠ p := fun b e => by
      have h : b ≠ p := fun z => by
        rw [z, upd_same] at e
        cases e
      rw [upd_ne h] at e
      exact ⟨e, h⟩
    generalize upd H p (HO.ins C dx (putF "rooms" (V.int r) [])) = H1 at hl1 pl1 hp1 old1 free1
    have dlen : D.length ≤ 66 := by
      have e := drs_len' hr12 nd ok
      rw [← eE, List.length_map] at e
      exact e
    have ul : us.length = D.length := pl.len
    -- [(min(a, b), max(a, b)) for a, b in doors]
    refine ⟨_, rfl, l, rfl, ⟨_, SqL.of hl1⟩, fun c nc => ?_⟩
    obtain ⟨Pv, hPv⟩ : ∃ Pv : Nat → Hp → Prop, Pv = (fun i H' => ∃ ws, Same H1 H' ∧ H' c = some (.lst ws) ∧ PL H' ws ((D.take i).map mm2)) := ⟨_, rfl⟩
    refine lc_list (K := K) (a := l) (xs := us) Pv (by rw [hPv]; exact ⟨[], same_upd nc, upd_same, PL.nil0 _⟩) (fun i H' _ pv => by rw [hPv] at pv; obtain ⟨_, sm, _⟩ := pv; exact SqL.of (sm _ _ hl1)) (fun i v H' gv pv => ?_) (fun H' pv => ?_)
    · have nxt : ∀ ws H', Same H1 H' → H' c = some (.lst ws) → PL H' ws ((D.take (i + 1)).map mm2) → Pv (i + 1) H' := fun ws H' h1 h2 h3 => by
        rw [hPv]
        exact ⟨ws, h1, h2, h3⟩
      rw [hPv] at pv
      obtain ⟨ws, sm, hc, pw⟩ := pv
      obtain ⟨d, gd, td, rfl, htd⟩ := pl1.get gv
      have hid : i < D.length := (List.getElem?_eq_some_iff.mp gd).1
      have htd1 := sm _ _ htd
      have lw : ws.length ≤ 66 := by
        rw [pw.len, List.length_map, List.length_take]
        omega
      simp only [wipe]
      walk_at "rd"
      refine ⟨_, SqT.of htd1, rfl, _, _, rfl, _, _, rfl, rfl, ?_⟩
      walk_at "rd"
      refine ⟨(by show 2 ≤ sizeLine; decide), fun t nt => ?_⟩
      have nct : c ≠ t := ne_of_none hc nt
      refine ⟨ws, by rw [upd_ne nct]; exact hc, len_big (by omega), nxt (ws ++ [.ref t]) _ (same_ch (sm.trans (same_upd nt)) nc) upd_same ?_⟩
      rw [List.take_add_one, gd, List.map_append]
      refine PL.snoc ((pw.kt (KT.new nt)).kt (KT.lst (by rw [upd_ne nct]; exact hc))) ⟨t, rfl, ?_⟩
      rw [upd_ne nct.symm, upd_same]
      rfl
    · rw [hPv] at pv
      obtain ⟨ws, s2, hc, pw⟩ := pv
      rw [ul, List.take_length, eE] at pw
      -- checked_doors
      refine ⟨r, c, ws, E, rfl, hc, pw, nd, ok, hr12, fun D' ls q0 H2 asc mem s3 nq hq pq => ?_⟩
      have s13 : Same H1 H2 := s2.trans s3
      have hp2 := s13 _ _ hp1
      have nqp : q0 ≠ p := ne_of hq hp2 (by intro z; cases z)
      refine ⟨C, dx, _, hp2, U.cl, U.nD, (by show 1 < 1000; decide), ?_⟩
      have hq3 : upd H2 p (HO.ins C dx (putF "_doors" (V.ref q0) (putF "rooms" (V.int r) []))) q0 = some (.lst ls) := by rw [upd_ne nqp]; exact hq
      have hp3 : upd H2 p (HO.ins C dx (putF "_doors" (V.ref q0) (putF "rooms" (V.int r) []))) p = some (HO.ins C dx (putF "_doors" (V.ref q0) (putF "rooms" (V.int r) []))) := upd_same
      have pq3 : PL (upd H2 p (HO.ins C dx (putF "_doors" (V.ref q0) (putF "rooms" (V.int r) [])))) ls D' := pq.kt (KT.ch hp2 (fun _ z => by cases z))
      have old3 : ∀ b o, H b = some o → b ≠ p → upd H2 p (HO.ins C dx (putF "_doors" (V.ref q0) (putF "rooms" (V.int r) []))) b = some o := fun b o e h => by
        rw [upd_ne h]
        exact s13 _ _ (old1 b o e h)
      have free3 : ∀ b, upd H2 p (HO.ins C dx (putF "_doors" (V.ref q0) (putF "rooms" (V.int r) []))) b = none → H b = none ∧ b ≠ p := fun b e => by
        have h : b ≠ p := fun z => by
          rw [z, upd_same] at e
          cases e
        rw [upd_ne h] at e
        exact free1 b (s13.free e)
      have fq : H q0 = none := (free1 q0 (s2.free nq)).1
      generalize upd H2 p (HO.ins C dx (putF "_doors" (V.ref q0) (putF "rooms" (V.int r) []))) = H3 at hq3 hp3 pq3 old3 free3
      -- [[] for _ in range(rooms)]
      refine ⟨_, rfl, r, rfl, by omega, by omega, fun m nm => ?_⟩
      obtain ⟨Pv, hPv⟩ : ∃ Pv : Nat → Hp → Prop, Pv = (fun i H' => ∃ ns : List Addr, Same H3 H' ∧ H' m = some (.lst (ns.map V.ref)) ∧ ns.length = i ∧ ns.Nodup ∧ (∀ n ∈ ns, H' n = some (.lst []) ∧ H3 n = none ∧ n ≠ m)) := ⟨_, rfl⟩
      refine lc_range (lo := 0) (n := ((r : Nat) : Int).toNat) Pv (by rw [hPv]; exact ⟨[], same_upd nm, upd_same, rfl, List.nodup_nil, fun n hn => by cases hn⟩) (fun i H' hi pv => ?_) (fun H' pv => ?_)
      · have nxt : ∀ (ns : List Addr) H', Same H3 H' → H' m = some (.lst (ns.map V.ref)) → ns.length = i + 1 → ns.Nodup → (∀ n ∈ ns, H' n = some (.lst []) ∧ H3 n = none ∧ n ≠ m) → Pv (i + 1) H' := fun ns H' h1 h2 h3 h4 h5 => by
          rw [hPv]
          exact ⟨ns, h1, h2, h3, h4, h5⟩
        rw [hPv] at pv
        obtain ⟨ns, sm, hm, ln, nn, hn⟩ := pv
        simp only [wipe]
        walk_at "rd"
        refine ⟨by decide, fun e ne => ?_⟩
        have nem : m ≠ e := ne_of_none hm ne
        refine ⟨ns.map V.ref, by rw [upd_ne nem]; exact hm, len_big (by rw [List.length_map]; omega), nxt (ns ++ [e]) _ (same_ch (sm.trans (same_upd ne)) nm) (by rw [upd_same, List.map_append]; rfl) (by rw [List.length_append, ln]; rfl) ?_ fun n hn2 => ?_⟩
        · refine List.nodup_append.mpr ⟨nn, by simp, fun a ha b hb => ?_⟩
          rw [List.mem_singleton.mp hb]
          exact ne_of_none (hn a ha).1 ne
        · rcases List.mem_append.mp hn2 with h | h
          · obtain ⟨h1, h2, h3⟩ := hn n h
            refine ⟨?_, h2, h3⟩
            rw [upd_ne h3, upd_ne (ne_of_none h1 ne)]
            exact h1
          · rw [List.mem_singleton.mp h]
            refine ⟨?_, sm.free ne, nem.symm⟩
            rw [upd_ne nem.symm, upd_same]
      · rw [hPv] at pv
        obtain ⟨ns, s4, hm, ln, nn, hn⟩ := pv
        have hp4 := s4 _ _ hp3
        have nmp : m ≠ p := (ne_of_none hp3 nm).symm
        refine ⟨C, dx, _, hp4, U.cl, U.nN, (by show 2 < 1000; decide), ?_⟩
        have ehf : putF "_near" (V.ref m) (putF "_doors" (V.ref q0) (putF "rooms" (V.int r) [])) = hf r q0 m := rfl
        rw [ehf]
        have npn : ∀ n ∈ ns, n ≠ p := fun n h => (ne_of_none hp3 (hn n h).2.1).symm
        have nqn : ∀ n ∈ ns, n ≠ q0 := fun n h => (ne_of_none hq3 (hn n h).2.1).symm
        have hp5 : upd H' p (HO.ins C dx (hf r q0 m)) p = some (HO.ins C dx (hf r q0 m)) := upd_same
        have hq5 : upd H' p (HO.ins C dx (hf r q0 m)) q0 = some (.lst ls) := by rw [upd_ne nqp]; exact s4 _ _ hq3
        have hm5 : upd H' p (HO.ins C dx (hf r q0 m)) m = some (.lst (ns.map V.ref)) := by rw [upd_ne nmp]; exact hm
        have hn5 : ∀ n ∈ ns, upd H' p (HO.ins C dx (hf r q0 m)) n = some (.lst []) := fun n h => by rw [upd_ne (npn n h)]; exact (hn n h).1
        have pq5 : PL (upd H' p (HO.ins C dx (hf r q0 m))) ls D' := (pq3.kt (KT.same s4)).kt (KT.ch hp4 (fun _ z => by cases z))
        have old5 : ∀ b o, H b = some o → b ≠ p → upd H' p (HO.ins C dx (hf r q0 m)) b = some o := fun b o e h => by
          rw [upd_ne h]
          exact s4 _ _ (old3 b o e h)
        have fm : H m = none := (free3 m nm).1
        have fn : ∀ n ∈ ns, H n = none := fun n h => (free3 n (hn n h).2.1).1
        have nmn : ∀ n ∈ ns, n ≠ m := fun n h => (hn n h).2.2
        generalize upd H' p (HO.ins C dx (hf r q0 m)) = H5 at hp5 hq5 hm5 hn5 pq5 old5
        have drs : Drs r D' := ⟨asc, fun d hd => ok d ((mem d).mp hd)⟩
        have dl : D'.length ≤ 66 := drs.len hr12
        have ll : ls.length = D'.length := pq.len
        -- the rooms' neighbours
        obtain ⟨Pw, hPw⟩ : ∃ Pw : Nat → L2.St → Hp → Prop, Pw = (fun i σ H' => ∃ v3 v4 : Option V, σ = [some (.ref p), some (.int r), some (.ref l), v3, v4, none] ∧ (∀ b o, H5 b = some o → b ∉ ns → H' b = some o) ∧ (∀ (j : Nat) n, ns[j]? = some n → H' n = some (.lst ((nearF (j : Nat) (D'.take i)).map V.int)))) := ⟨_, rfl⟩
        refine ⟨_, rfl, p, C, dx, _, .ref q0, rfl, hp5, U.cl, U.nD, hf_doors _ _ _, q0, rfl, ⟨_, SqL.of hq5⟩, for_list (K := K) (a := q0) (xs := ls) Pw (by rw [hPw]; exact ⟨none, none, rfl, fun b o e _ => e, fun j n g => hn5 n (List.mem_of_getElem? g)⟩) (fun i σ H' _ pv => ?_) (fun i v σ H' gv pv => ?_) (fun σ H' pv => ?_)⟩
        · rw [hPw] at pv
          obtain ⟨_, _, _, k1, _⟩ := pv
          exact SqL.of (k1 _ _ hq5 fun z => nqn _ z rfl)
        · have nxt : ∀ v3 v4 H', (∀ b o, H5 b = some o → b ∉ ns → H' b = some o) → (∀ (j : Nat) n, ns[j]? = some n → H' n = some (.lst ((nearF (j : Nat) (D'.take (i + 1))).map V.int))) → Pw (i + 1) [some (.ref p), some (.int r), some (.ref l), v3, v4, none] H' := fun v3 v4 H' h1 h2 => by
            rw [hPw]
            exact ⟨v3, v4, rfl, h1, h2⟩
          rw [hPw] at pv
          obtain ⟨v3, v4, rfl, k1, k2⟩ := pv
          obtain ⟨d, gd, td, rfl, htd⟩ := pq5.get gv
          have okd := drs.ok d (List.mem_of_getElem? gd)
          have htd1 : H' td = some (.tup [.int d.1, .int d.2]) := k1 _ _ htd fun z => by
            have e := hn5 td z
            rw [htd] at e
            cases e
          obtain ⟨ja, eja⟩ : ∃ ja : Nat, d.1 = ja := ⟨d.1.toNat, by omega⟩
          obtain ⟨jb, ejb⟩ : ∃ jb : Nat, d.2 = jb := ⟨d.2.toNat, by omega⟩
          obtain ⟨na, gna⟩ : ∃ n, ns[ja]? = some n := ⟨_, List.getElem?_eq_getElem (by omega)⟩
          obtain ⟨nb, gnb⟩ : ∃ n, ns[jb]? = some n := ⟨_, List.getElem?_eq_getElem (by omega)⟩
          have nab : na ≠ nb := fun z => by
            rw [← z] at gnb
            have := nd_ix nn gna gnb
            omega
          have mna := List.mem_of_getElem? gna
          have mnb := List.mem_of_getElem? gnb
          have hp6 := k1 _ _ hp5 fun z => npn _ z rfl
          have hm6 := k1 _ _ hm5 fun z => nmn _ z rfl
          have short : ∀ j : Int, (nearF j (D'.take i)).length ≤ 66 := fun j => by
            have := List.length_filterMap_le (fun d : Pr => if d.1 = j then some d.2 else if d.2 = j then some d.1 else none) (D'.take i)
            rw [List.length_take] at this
            show (List.filterMap _ _).length ≤ 66
            omega
          have ga := k2 ja na gna
          have gb := k2 jb nb gnb
          walk_at "rd"
          refine ⟨_, SqT.of htd1, rfl, _, _, rfl, _, _, rfl, rfl, ?_⟩
          walk_at "rd"
          have npa : p ≠ na := fun z => npn na mna z.symm
          have nma : m ≠ na := fun z => nmn na mna z.symm
          have big : ∀ j : Int, ((nearF j (D'.take i)).map V.int).length < sizeLine := fun j => len_big (by rw [List.length_map]; have := short j; omega)
          refine ⟨C, dx, _, hp6, U.cl, U.nN, .ref m, hf_near _ _ _, m, rfl, _, SqL.of hm6, .ref na, at_of (j := ja) eja (by rw [List.getElem?_map, gna]; rfl), .inl ⟨rfl, _, SqL.of ga⟩, na, rfl, _, ga, big _, ?_⟩
          refine ⟨C, dx, _, by rw [upd_ne npa]; exact hp6, U.cl, U.nN, .ref m, hf_near _ _ _, m, rfl, _, SqL.of (by rw [upd_ne nma]; exact hm6), .ref nb, at_of (j := jb) ejb (by rw [List.getElem?_map, gnb]; rfl), ?_⟩
          have gb2 : upd H' na (HO.lst ((nearF (ja : Nat) (D'.take i)).map V.int ++ [V.int d.2])) nb = some (.lst ((nearF (jb : Nat) (D'.take i)).map V.int)) := by rw [upd_ne nab.symm]; exact gb
          refine ⟨.inl ⟨rfl, _, SqL.of gb2⟩, nb, rfl, _, gb2, big _, ?_⟩
          refine nxt _ _ _ (fun b o e h => ?_) (fun j n gn => ?_)
          · rw [upd_ne (show b ≠ nb from fun z => h (by rw [z]; exact mnb)), upd_ne (show b ≠ na from fun z => h (by rw [z]; exact mna))]
            exact k1 b o e h
          · rw [List.take_add_one, gd]
            show _ = some (HO.lst ((nearF (j : Nat) (D'.take i ++ [d])).map V.int))
            rw [nearF_snoc]
            by_cases e1 : n = nb
            · subst e1
              have ej := nd_ix nn gn gnb
              subst ej
              rw [upd_same, if_neg (by omega), if_pos ejb, List.map_append, eja]
              rfl
            · rw [upd_ne e1]
              by_cases e2 : n = na
              · subst e2
                have ej := nd_ix nn gn gna
                subst ej
                rw [upd_same, if_pos eja, List.map_append]
                rfl
              · have j1 : ¬ d.1 = (j : Int) := fun z => e2 (by
                  have ej : j = ja := by omega
                  rw [ej, gna] at gn
                  exact (Option.some.inj gn).symm)
                have j2 : ¬ d.2 = (j : Int) := fun z => e1 (by
                  have ej : j = jb := by omega
                  rw [ej, gnb] at gn
                  exact (Option.some.inj gn).symm)
                rw [upd_ne e2, if_neg j1, if_neg j2, List.append_nil]
                exact k2 j n gn
        · rw [hPw] at pv
          obtain ⟨v3, v4, rfl, k1, k2⟩ := pv
          rw [ll, List.take_length] at k2
          refine q D' (p :: q0 :: m :: ns) H' mem ⟨⟨dx, q0, m, ls, ns, k1 _ _ hp5 fun z => npn _ z rfl, k1 _ _ hq5 fun z => nqn _ z rfl, ?_, k1 _ _ hm5 fun z => nmn _ z rfl, by omega, k2, rfl⟩, drs, hr1, hr12⟩ (fun b o e h => ?_) fun b hb h => ?_
          · refine Paired.mapP pq5 fun v d ⟨t, e, ht⟩ => ⟨t, e, k1 _ _ ht fun z => ?_⟩
            have e2 := hn5 t z
            rw [ht] at e2
            cases e2
          · refine k1 _ _ (old5 b o e h) fun z => ?_
            rw [fn b z] at e
            cases e
          · rcases List.mem_cons.mp hb with z | hb
            · exact absurd z h
            · rcases List.mem_cons.mp hb with z | hb
              · rw [z]; exact fq
              · rcases List.mem_cons.mp hb with z | hb
                · rw [z]; exact fm
                · exact fn b hb
end

theorem HouseAt.keep {C : Addr} {H H' : Hp} {p : Addr} {r : Nat} {D : List Pr} {own : List Addr} (h : HouseAt C H p r D own) (k : ∀ b o, b ∈ own → H b = some o → H' b = some o) (kt : KT H H') : HouseAt C H' p r D own := by
  obtain ⟨dx, l, m, ls, ns, h1, h2, h3, h4, h5, h6, rfl⟩ := h.ex
  refine ⟨⟨dx, l, m, ls, ns, k _ _ List.mem_cons_self h1, k _ _ (by simp) h2, h3.kt kt, k _ _ (by simp) h4, h5, fun i n g => k _ _ (by have := List.mem_of_getElem? g; simp [this]) (h6 i n g), rfl⟩, h.ok, h.r1, h.r12⟩
theorem HouseAt.same {C : Addr} {H H' : Hp} {p : Addr} {r : Nat} {D : List Pr} {own : List Addr} (h : HouseAt C H p r D own) (s : Same H H') : HouseAt C H' p r D own := h.keep (fun b o _ e => s b o e) (KT.same s)
theorem HouseAt.stands {C : Addr} {H : Hp} {p : Addr} {r : Nat} {D : List Pr} {own : List Addr} (h : HouseAt C H p r D own) : ∀ b ∈ own, ∃ o, H b = some o := by
  obtain ⟨dx, l, m, ls, ns, h1, h2, h3, h4, h5, h6, rfl⟩ := h.ex
  intro b hb
  rcases List.mem_cons.mp hb with z | hb
  · exact ⟨_, by rw [z]; exact h1⟩
  · rcases List.mem_cons.mp hb with z | hb
    · exact ⟨_, by rw [z]; exact h2⟩
    · rcases List.mem_cons.mp hb with z | hb
      · exact ⟨_, by rw [z]; exact h4⟩
      · obtain ⟨i, g⟩ := List.getElem?_of_mem hb
        exact ⟨_, h6 i b g⟩
section
variable {P : Program} {w : World} {K : PySem.W.Frag} {mg : Str → Option Value} {base : Heap}
theorem scHdoors : FnScope ["self"] ["self"] (defScope sHdoors) := ⟨rfl, rfl, rfl, by decide +kernel, rfl, by decide +kernel, by decide +kernel⟩
def spHdoors (C : Addr) : Sp := fun vs H Q _ => ∃ (p : Addr) (r : Nat) (D : List Pr) (own : List Addr), vs = [.ref p] ∧ HouseAt C H p r D own ∧ ∀ ls q, PL H ls D → H q = none → Q (.ref q) (upd H q (.lst ls))
theorem ok_hdoors {f C : Addr} {fd : FuncData} (F : Fun K "doors" "House.doors" sHdoors f fd) (T : Bi mg) (U : Hs K mg C) : FnOk P w K mg base CX0 1 f fd ["self"] (spHdoors C) := by
  refine F.ok scHdoors (fun vs H Q E h => ?_) (fun cdv A outer s H vs Q E hr h => ?_)
  · obtain ⟨p, r, D, own, rfl, _⟩ := h
    rfl
  · obtain ⟨p, r, D, own, rfl, hh, q⟩ := h
    obtain ⟨dx, l, m, ls, ns, h1, h2, h3, h4, h5, h6, rfl⟩ := hh.ex
    refine ⟨_, (pss_one (ps_ret (pe_callTy call_list_of (by rfl) T.list (by decide +kernel) (pa_cons (pe_fld (pv 0) rfl) pa_nil)))), ?_⟩
    walk_at "rd"
    exact ⟨C, dx, _, h1, U.cl, U.nD, .ref l, hf_doors _ _ _, l, rfl, _, .inl (SqL.of h2), fun t nt => q ls t h3 nt⟩
theorem scHnear : FnScope ["self", "room"] ["self", "room"] (defScope sHnear) := ⟨rfl, rfl, rfl, by decide +kernel, rfl, by decide +kernel, by decide +kernel⟩
def spHnear (C : Addr) : Sp := fun vs H Q _ => ∃ (p : Addr) (r : Nat) (D : List Pr) (own : List Addr) (i : Nat), vs = [.ref p, .int i] ∧ HouseAt C H p r D own ∧ i < r ∧ ∀ q, H q = none → Q (.ref q) (upd H q (.lst ((nearF (i : Nat) D).map V.int)))
theorem ok_hnear {f C : Addr} {fd : FuncData} (F : Fun K "neighbours" "House.neighbours" sHnear f fd) (T : Bi mg) (U : Hs K mg C) : FnOk P w K mg base CX0 1 f fd ["self", "room"] (spHnear C) := by
  refine F.ok scHnear (fun vs H Q E h => ?_) (fun cdv A outer s H vs Q E hr h => ?_)
  · obtain ⟨p, r, D, own, i, rfl, _⟩ := h
    rfl
  · obtain ⟨p, r, D, own, i, rfl, hh, hi, q⟩ := h
    obtain ⟨dx, l, m, ls, ns, h1, h2, h3, h4, h5, h6, rfl⟩ := hh.ex
    obtain ⟨n, gn⟩ : ∃ n, ns[i]? = some n := ⟨_, List.getElem?_eq_getElem (by omega)⟩
    refine ⟨_, (pss_one (ps_ret (pe_callTy call_list_of (by rfl) T.list (by decide +kernel) (pa_cons (pe_ix ix_list (pe_fld (pv 0) rfl) (pv 1) (fun _ _ => rfl)) pa_nil)))), ?_⟩
    walk_at "rd"
    refine ⟨C, dx, _, h1, U.cl, U.nN, .ref m, hf_near _ _ _, m, rfl, _, SqL.of h4, .ref n, atI_nat (by rw [List.getElem?_map, gn]; rfl), n, rfl, _, .inl (SqL.of (h6 i n gn)), fun t nt => q t nt⟩
end

/-! ### a bound method as a value, and its call -/
def tBnd (C : Addr) (m : Str) (g : Addr) (ta : TE) : TE := fun σ H Q => ta σ H fun x H1 => ∃ a dx fs, x = .ref a ∧ H1 a = some (.ins C dx fs) ∧ fs.lookup m = none ∧ ∀ q, H1 q = none → Q (.ref q) (upd H1 q (.met g a))
theorem pe_bnd {X : Cx} {C g : Addr} {m : Str} {e : Expr} {ta : TE} {pos : Pos} (he : PE X e ta) (c : Cls X.K C) (k : BMeth X.K C m g) (hb : attributeBase e m X.env (eval e X.env) = eval e X.env := by rfl) : PE X (.Attribute e m pos) (tBnd C m g ta) := by
  refine ⟨fun pins s σ H Q I h => ?_⟩
  refine attr_of hb (thn (he.run pins s σ H _ I h) fun u s1 ⟨x, H1, I1, rx, a, dx, fs, ex, ea, l, q⟩ => ?_)
  subst ex
  obtain rfl : u = Value.ref a := rx
  exact getbound_ok I1 ea c k l fun p s2 hp I2 => ⟨.ref p, _, I2, rfl, q p hp⟩
/-- f(e, ..), the i-th slot a bound method of the def at g -/
def tCallM (i : Nat) (g : Addr) (sp : Sp) (E : XK) (t : TA) : TE := fun σ H Q => ∃ q a, σ[i]? = some (some (.ref q)) ∧ t σ H fun vs H1 => H1 q = some (.met g a) ∧ sp (.ref a :: vs) H1 Q E
theorem pe_callM {X : Cx} {CX : CXT} {k i : Nat} {g : Addr} {sp : Sp} {E : XK} {x : Str} {p pos : Pos} {e : Expr} {es : List Expr} {t : TA} (F : FnR X.prog X.w X.K X.mg X.base CX k g sp) (hr : Room k X.A) (hN : X.N[i]? = some x) (hv : L2.Vis X.env.scope x) (hf : PySem.W.fnIn X.K g = true) (hx : Passes CX X E) (ha : PA X (e :: es) t)
    (hdb : (x == ("__debug__" : Str)) = false := by decide) (hcd : (x == ("__classdict__" : Str)) = false := by decide)
    (he : starEach (e :: es) X.env = (false, eval e X.env) :: starEach es X.env := by rfl) (hpl : (backTo pos (starEach es X.env)).any (·.1) = false := by rfl) : PE X (.Call (.Name x p) (e :: es) [] pos) (tCallM i g sp E t) := by
  refine ⟨fun pins s σ H Q I h => ?_⟩
  obtain ⟨q, a, hs, ht⟩ := h
  refine wpAny_Call_Name_kw (thn ((pe_var (pos := p) hN hv hdb hcd).run pins s σ H (fun v H1 => v = .ref q ∧ H1 = H) I ⟨.ref q, hs, rfl, rfl⟩) fun u s1 ⟨v, H1, I1, r1, q1⟩ => ?_)
  obtain ⟨rfl, rfl⟩ := q1
  cases r1
  have h2 : wpAny (model X.prog X.w) X.A (spliced (backTo pos (starEach (e :: es) X.env))) (fun us s2 => PySem.W.MethP X.K q g (.ref a) s2.heap ∧ wpAny (model X.prog X.w) X.A (call (.ref q) ([] ++ us)) (EP X pins σ Q) X.xe s2) X.xe s1 :=
    thn (ha.run pos pins s1 σ _ _ I1 ht) fun us s2 ⟨vs, H2, I2, r, hm, hsp⟩ => ⟨met_P I2 hm, wpAny_call (call_met I2 hm (run_fnR (us := Value.ref a :: us) (vs := V.ref a :: vs) F hr hx I2 (.cons rfl r) hsp))⟩
  rw [he] at h2 ⊢
  exact PySem.W.callWith_of (P := PySem.W.MethP X.K q g (.ref a)) (by show ((false || (backTo pos (starEach es X.env)).any (·.1)) || false) = false; rw [hpl]; rfl) (PySem.W.keeps_M hf) (PySem.Calls.evalArgs_plain h2)

/-! ### sorted of a tuple of ints -/
def rSortTup (K : PySem.W.Frag) : List V → Hp → VK → Prop := fun vs H Q => ∃ (a : Addr) (ns : List Int), vs = [V.ref a] ∧ (SqL K H a (ns.map V.int) ∨ SqT K H a (ns.map V.int)) ∧ ns.length < 64 ∧
  ∀ (ns' : List Int) (p : Addr), ns'.Perm ns → ns'.Pairwise (· ≤ ·) → H p = none → Q (.ref p) (upd H p (.lst (ns'.map V.int)))
theorem cr_sortTup {X : Cx} : CallR X (.builtin "sorted") (rSortTup X.K) := by
  intro pins s σ H vs us Q I r h
  obtain ⟨a, ns, rfl, hs, h64, q⟩ := h
  rcases hs with hs | hs
  · exact cr_sorted pins s σ H _ us Q I r ⟨a, ns, rfl, hs, h64, q⟩
  obtain ⟨its, rv, ⟨o, ho, hc, n, hd⟩, hz⟩ := I.tuple hs
  rw [Vals.ref1 r]
  have hi := rv.ints
  have il : its.length = ns.length := hi.length
  refine Calls.call_function_entry kind_sorted plain_sorted entry_sorted (args_sorted1 _) ?_
  unfold Builtin.«sorted»
  refine wpAny_bind (m := checkCount "sorted" 1 1 _) (wpAny_pure ?_)
  refine wpAny_bind (wpAny_collect_seq a (.inr rfl) ho hc hd (fun h' hk => ?_) (by rw [List.size_toArray, il]; exact small64 h64))
  rw [show its.toArray.toList = its by simp]
  have I1 : Inv X pins σ H { s with heap := h' } := I.kept (t' := s.toks) hk
  refine wpAny_bind (wpAny_newList ?_ (by rw [il]; exact small64 h64))
  have new : (h'.push (seqObj "list" its.toArray 0)).get? h'.objs.size = some (seqObj "list" its.toArray 0) := Heap.get?_push_size _ rfl
  refine wpAny_bind (wpAny_holding (wpAny_call_entry slot_list_sort ⟨_, new, rfl⟩ entry_list_sort (list_sort_tree (s := { s with heap := h'.push (seqObj "list" its.toArray 0) }) new hi (by rw [il]; exact h64) fun out ns' a1 a2 a3 => ⟨_, rfl, ?_⟩) (args_list_sort _)))
  obtain ⟨ep, he⟩ := sortedHeap_at (vs := its) (out := out) new
  have hlen : (ns'.map V.int).length ≤ sizeLine := by rw [List.length_map, a2.length_eq]; exact small64 h64
  refine wpAny_pure ⟨_, rfl, .ref h'.objs.size, upd H h'.objs.size (.lst (ns'.map V.int)), I1.laid (t' := s.toks) (fun b u e => ?_) (Nat.le_refl _) ⟨hlen, out.toList, ep, vals_of_ints a1, he⟩, rfl, q ns' _ a2 a3 (I1.hok.fresh (Nat.le_refl _))⟩
  have lt := Heap.lt_size e
  show (sortedHeap (h'.push (seqObj "list" its.toArray 0)) h'.objs.size its out).get? b = some u
  rw [sortedHeap_old (Nat.ne_of_lt lt) (by rw [size_push']; exact Nat.lt_succ_of_lt lt)]
  exact Heap.get?_push_of_some _ e

/-! ### pieces of a house -/
def Adj (D : List Pr) (a b : Int) : Prop := (a, b) ∈ D ∨ (b, a) ∈ D
theorem mem_nearF {D : List Pr} {a b : Int} (ok : ∀ d ∈ D, d.1 < d.2) : b ∈ nearF a D ↔ Adj D a b := by
  unfold nearF Adj
  rw [List.mem_filterMap]
  constructor
  · rintro ⟨d, hd, e⟩
    by_cases h1 : d.1 = a
    · rw [if_pos h1] at e
      have e := Option.some.inj e
      subst h1
      subst e
      exact .inl hd
    · rw [if_neg h1] at e
      by_cases h2 : d.2 = a
      · rw [if_pos h2] at e
        have e := Option.some.inj e
        subst h2
        subst e
        exact .inr hd
      · rw [if_neg h2] at e
        cases e
  · rintro (h | h)
    · exact ⟨_, h, if_pos rfl⟩
    · have := ok _ h
      refine ⟨_, h, ?_⟩
      rw [if_neg (by simp only at this ⊢; omega), if_pos rfl]
inductive Rch (D : List Pr) (R : List Int) (s : Int) : Int → Prop
  | base : s ∈ R → Rch D R s s
  | step {a b : Int} : Rch D R s a → Adj D a b → b ∈ R → Rch D R s b
theorem Rch.mem {D : List Pr} {R : List Int} {s x : Int} (h : Rch D R s x) : x ∈ R := by
  cases h with
  | base h => exact h
  | step _ _ h => exact h
theorem Rch.start {D : List Pr} {R : List Int} {s x : Int} (h : Rch D R s x) : s ∈ R := by
  induction h with
  | base h => exact h
  | step _ _ _ ih => exact ih
theorem Rch.trans {D : List Pr} {R : List Int} {s x y : Int} (h : Rch D R s x) (k : Rch D R x y) : Rch D R s y := by
  induction k with
  | base _ => exact h
  | step _ a b ih => exact ih.step a b
theorem Rch.symm {D : List Pr} {R : List Int} {s x : Int} (h : Rch D R s x) : Rch D R x s := by
  induction h with
  | base h => exact .base h
  | step k a b ih => exact Rch.trans (.step (.base b) a.symm k.mem) ih
theorem Rch.mono {D : List Pr} {R R' : List Int} {s x : Int} (h : Rch D R s x) (m : ∀ x, x ∈ R → x ∈ R') : Rch D R' s x := by
  induction h with
  | base h => exact .base (m _ h)
  | step _ a b ih => exact ih.step a (m _ b)
theorem pw_uniq {α : Type} {r : α → α → Prop} (asy : ∀ a b, r a b → r b a → False) : ∀ {D E : List α}, D.Pairwise r → E.Pairwise r → (∀ p, p ∈ D ↔ p ∈ E) → D = E
  | [], [], _, _, _ => rfl
  | [], q :: E, _, _, h => by
    have := (h q).mpr List.mem_cons_self
    cases this
  | p :: D, [], _, _, h => by
    have := (h p).mp List.mem_cons_self
    cases this
  | p :: D, q :: E, hD, hE, h => by
    obtain ⟨a1, a2⟩ := List.pairwise_cons.mp hD
    obtain ⟨b1, b2⟩ := List.pairwise_cons.mp hE
    have e : p = q := by
      rcases List.mem_cons.mp ((h p).mp List.mem_cons_self) with e | hp
      · exact e
      · rcases List.mem_cons.mp ((h q).mpr List.mem_cons_self) with e | hq
        · exact e.symm
        · exact (asy _ _ (b1 p hp) (a1 q hq)).elim
    subst e
    rw [pw_uniq asy a2 b2 fun z => ?_]
    constructor
    · intro hz
      rcases List.mem_cons.mp ((h z).mp (List.mem_cons_of_mem _ hz)) with e | m
      · subst e
        exact (asy _ _ (a1 z hz) (a1 z hz)).elim
      · exact m
    · intro hz
      rcases List.mem_cons.mp ((h z).mpr (List.mem_cons_of_mem _ hz)) with e | m
      · subst e
        exact (asy _ _ (b1 z hz) (b1 z hz)).elim
      · exact m
def Up (ys : List Int) : Prop := ys.Pairwise (· < ·)
theorem up_uniq {ys zs : List Int} (h1 : Up ys) (h2 : Up zs) (h : ∀ x, x ∈ ys ↔ x ∈ zs) : ys = zs := pw_uniq (fun a b h1 h2 => by omega) h1 h2 h
def hdI : List Int → Int
  | [] => 0
  | x :: _ => x
theorem hdI_mem {ys : List Int} {x : Int} (h : x ∈ ys) : hdI ys ∈ ys := by
  cases ys with
  | nil => cases h
  | cons y ys => exact List.mem_cons_self
theorem hdI_le {ys : List Int} {x : Int} (u : Up ys) (h : x ∈ ys) : hdI ys ≤ x := by
  cases ys with
  | nil => cases h
  | cons y ys =>
    rcases List.mem_cons.mp h with e | m
    · rw [e]; exact Int.le_refl _
    · exact Int.le_of_lt ((List.pairwise_cons.mp u).1 x m)
/-- the piece of s among the rooms R -/
def Pc (D : List Pr) (R : List Int) (s : Int) (ys : List Int) : Prop := Up ys ∧ ∀ x, x ∈ ys ↔ Rch D R s x
/-- all pieces of the rooms R, by their least rooms -/
structure Pcs (D : List Pr) (R : List Int) (P : List (List Int)) : Prop where
  pc : ∀ ys ∈ P, ∃ s ∈ R, Pc D R s ys
  cov : ∀ s ∈ R, ∃ ys ∈ P, s ∈ ys
  asc : P.Pairwise fun a b => hdI a < hdI b
theorem Pc.of {D : List Pr} {R : List Int} {s t : Int} {ys : List Int} (h : Pc D R s ys) (m : t ∈ ys) : Pc D R t ys :=
  ⟨h.1, fun x => ⟨fun hx => (((h.2 t).mp m).symm).trans ((h.2 x).mp hx), fun hx => (h.2 x).mpr (((h.2 t).mp m).trans hx)⟩⟩
theorem Pc.congr {D : List Pr} {R R' : List Int} {s : Int} {ys : List Int} (h : Pc D R s ys) (e : ∀ x, x ∈ R ↔ x ∈ R') : Pc D R' s ys :=
  ⟨h.1, fun x => (h.2 x).trans ⟨fun z => z.mono fun x => (e x).mp, fun z => z.mono fun x => (e x).mpr⟩⟩
theorem Pc.uniq {D : List Pr} {R : List Int} {s : Int} {ys zs : List Int} (h : Pc D R s ys) (k : Pc D R s zs) : ys = zs := up_uniq h.1 k.1 fun x => (h.2 x).trans (k.2 x).symm
theorem Pc.self {D : List Pr} {R : List Int} {s : Int} {ys : List Int} (h : Pc D R s ys) (m : s ∈ R) : s ∈ ys := (h.2 s).mpr (.base m)
theorem Pcs.sub {D : List Pr} {R R' : List Int} {P P' : List (List Int)} (h : Pcs D R P) (k : Pcs D R' P') (e : ∀ x, x ∈ R ↔ x ∈ R') {ys : List Int} (m : ys ∈ P) : ys ∈ P' := by
  obtain ⟨s, hs, hc⟩ := h.pc ys m
  obtain ⟨zs, hz, sz⟩ := k.cov s ((e s).mp hs)
  obtain ⟨t, ht, hk⟩ := k.pc zs hz
  rw [(hc.congr e).uniq (hk.of sz)]
  exact hz
theorem Pcs.uniq {D : List Pr} {R R' : List Int} {P P' : List (List Int)} (h : Pcs D R P) (k : Pcs D R' P') (e : ∀ x, x ∈ R ↔ x ∈ R') : P = P' :=
  pw_uniq (fun a b h1 h2 => by omega) h.asc k.asc fun ys => ⟨fun m => h.sub k e m, fun m => k.sub h (fun x => (e x).symm) m⟩
theorem Pcs.nil (D : List Pr) : Pcs D [] [] := ⟨fun ys m => (by cases m), fun s m => (by cases m), List.Pairwise.nil⟩
/-- a piece is one piece -/
theorem Pc.one {D : List Pr} {R R' : List Int} {s : Int} {ys : List Int} (h : Pc D R s ys) (m : s ∈ R) (e : ∀ x, x ∈ R' ↔ x ∈ ys) : Pcs D R' [ys] := by
  have key : ∀ x, Rch D R s x → Rch D R' s x := fun x k => by
    induction k with
    | base k => exact .base ((e s).mpr (h.self m))
    | step k a b ih => exact ih.step a ((e _).mpr ((h.2 _).mpr (k.step a b)))
  refine ⟨fun zs hz => ?_, fun t ht => ⟨ys, List.mem_cons_self, (e t).mp ht⟩, List.pairwise_singleton _ _⟩
  rw [List.mem_singleton.mp hz]
  exact ⟨s, (e s).mpr (h.self m), h.1, fun x => ⟨fun hx => key x ((h.2 x).mp hx), fun hx => (e x).mp hx.mem⟩⟩
/-- two pieces are not one -/
theorem Pc.two {D : List Pr} {R R' : List Int} {s t : Int} {ys zs : List Int} {P : List (List Int)} (h : Pc D R s ys) (k : Pc D R t zs) (hs : s ∈ R) (ht : t ∈ R) (ne : ys ≠ zs) (e : ∀ x, x ∈ R' ↔ x ∈ ys ∨ x ∈ zs) (p : Pcs D R' P) : P.length ≠ 1 := by
  intro z
  obtain ⟨c, rfl⟩ : ∃ c, P = [c] := by
    cases P with
    | nil => cases z
    | cons c P =>
      cases P with
      | nil => exact ⟨c, rfl⟩
      | cons d P => exact absurd z (by rw [List.length_cons, List.length_cons]; omega)
  obtain ⟨c1, m1, s1⟩ := p.cov s ((e s).mpr (.inl (h.self hs)))
  obtain ⟨c2, m2, t2⟩ := p.cov t ((e t).mpr (.inr (k.self ht)))
  rw [List.mem_singleton.mp m1] at s1
  rw [List.mem_singleton.mp m2] at t2
  obtain ⟨u, hu, hc⟩ := p.pc c List.mem_cons_self
  have st : Rch D R' s t := (((hc.2 s).mp s1).symm).trans ((hc.2 t).mp t2)
  have st2 : Rch D R s t := st.mono fun x hx => by
    rcases (e x).mp hx with m | m
    · exact ((h.2 x).mp m).mem
    · exact ((k.2 x).mp m).mem
  exact ne ((h.of ((h.2 t).mpr st2)).uniq k)
/-! the program's way -/
structure PInv (D : List Pr) (R : List Int) (P : List (List Int)) (Lf : List Int) : Prop where
  pc : ∀ ys ∈ P, ∃ s ∈ R, Pc D R s ys
  lf : ∀ x, x ∈ Lf ↔ x ∈ R ∧ ∀ ys ∈ P, x ∉ ys
  asc : P.Pairwise fun a b => hdI a < hdI b
  lo : ∀ ys ∈ P, ∀ x ∈ Lf, hdI ys < x
  up : Lf.Pairwise (· ≤ ·)
theorem PInv.start {D : List Pr} {R Lf : List Int} (m : ∀ x, x ∈ Lf ↔ x ∈ R) (u : Lf.Pairwise (· ≤ ·)) : PInv D R [] Lf :=
  ⟨fun ys h => (by cases h), fun x => ⟨fun h => ⟨(m x).mp h, fun ys z => (by cases z)⟩, fun h => (m x).mpr h.1⟩, List.Pairwise.nil, fun ys h => (by cases h), u⟩
theorem PInv.done {D : List Pr} {R : List Int} {P : List (List Int)} (h : PInv D R P []) : Pcs D R P :=
  ⟨h.pc, fun s hs => Classical.byContradiction fun z => List.not_mem_nil ((h.lf s).mpr ⟨hs, fun ys hy m => z ⟨ys, hy, m⟩⟩), h.asc⟩
theorem PInv.rch {D : List Pr} {R : List Int} {P : List (List Int)} {Lf : List Int} (h : PInv D R P Lf) {s x : Int} : Rch D Lf s x ↔ s ∈ Lf ∧ Rch D R s x := by
  constructor
  · exact fun k => ⟨k.start, k.mono fun x hx => ((h.lf x).mp hx).1⟩
  · rintro ⟨m, k⟩
    induction k with
    | base _ => exact .base m
    | step k a b ih =>
      rename_i a' b'
      refine ih.step a ((h.lf _).mpr ⟨b, fun ys hy z => ?_⟩)
      obtain ⟨t, ht, hc⟩ := h.pc ys hy
      exact ((h.lf _).mp ih.mem).2 ys hy ((hc.2 _).mpr (((hc.2 _).mp z).step a.symm k.mem))
theorem PInv.step {D : List Pr} {R : List Int} {P : List (List Int)} {l0 : Int} {Lf ys : List Int} (h : PInv D R P (l0 :: Lf)) (k : Pc D (l0 :: Lf) l0 ys) : PInv D R (P ++ [ys]) ((l0 :: Lf).filter fun x => decide (x ∉ ys)) := by
  have m0 : l0 ∈ l0 :: Lf := List.mem_cons_self
  have r0 := ((h.lf l0).mp m0).1
  have kR : Pc D R l0 ys := ⟨k.1, fun x => (k.2 x).trans (h.rch.trans ⟨fun z => z.2, fun z => ⟨m0, z⟩⟩)⟩
  have hd : hdI ys = l0 := by
    have a1 := hdI_le k.1 (k.self m0)
    have a2 := ((k.2 _).mp (hdI_mem (k.self m0))).mem
    rcases List.mem_cons.mp a2 with e | e
    · exact e
    · have := (List.pairwise_cons.mp h.up).1 _ e
      omega
  refine ⟨fun zs hz => ?_, fun x => ?_, ?_, fun zs hz x hx => ?_, h.up.filter _⟩
  · rcases List.mem_append.mp hz with m | m
    · exact h.pc zs m
    · rw [List.mem_singleton.mp m]
      exact ⟨l0, r0, kR⟩
  · rw [List.mem_filter, h.lf x]
    constructor
    · rintro ⟨⟨h1, h2⟩, h3⟩
      refine ⟨h1, fun zs hz => ?_⟩
      rcases List.mem_append.mp hz with m | m
      · exact h2 zs m
      · rw [List.mem_singleton.mp m]
        exact of_decide_eq_true h3
    · rintro ⟨h1, h2⟩
      exact ⟨⟨h1, fun zs hz => h2 zs (List.mem_append_left _ hz)⟩, decide_eq_true (h2 ys (List.mem_append_right _ List.mem_cons_self))⟩
  · refine List.pairwise_append.mpr ⟨h.asc, List.pairwise_singleton _ _, fun a ha b hb => ?_⟩
    rw [List.mem_singleton.mp hb, hd]
    exact h.lo a ha l0 m0
  · obtain ⟨hx1, hx2⟩ := List.mem_filter.mp hx
    rcases List.mem_append.mp hz with m | m
    · exact h.lo zs m x hx1
    · rw [List.mem_singleton.mp m, hd]
      rcases List.mem_cons.mp hx1 with e | e
      · exact absurd (k.self m0) (by rw [← e]; exact of_decide_eq_true hx2)
      · have := (List.pairwise_cons.mp h.up).1 _ e
        have ne : x ≠ l0 := fun z => of_decide_eq_true hx2 (by rw [z]; exact k.self m0)
        omega
/-! the law's way -/
structure LInv (D : List Pr) (R S : List Int) (j : Nat) (P : List (List Int)) (dn : List Int) : Prop where
  pc : ∀ ys ∈ P, ∃ s ∈ R, Pc D R s ys
  dnm : ∀ x, x ∈ dn ↔ ∃ ys ∈ P, x ∈ ys
  asc : P.Pairwise fun a b => hdI a < hdI b
  seen : ∀ x ∈ S.take j, x ∈ dn
  hds : ∀ ys ∈ P, hdI ys ∈ S.take j
theorem LInv.start (D : List Pr) (R S : List Int) : LInv D R S 0 [] [] :=
  ⟨fun ys h => (by cases h), fun x => ⟨fun h => (by cases h), fun ⟨ys, h, _⟩ => (by cases h)⟩, List.Pairwise.nil, fun x h => (by rw [List.take_zero] at h; cases h), fun ys h => (by cases h)⟩
theorem LInv.skip {D : List Pr} {R S : List Int} {j : Nat} {P : List (List Int)} {dn : List Int} {x : Int} (h : LInv D R S j P dn) (g : S[j]? = some x) (m : x ∈ dn) : LInv D R S (j + 1) P dn := by
  refine ⟨h.pc, h.dnm, h.asc, fun y hy => ?_, fun ys hy => ?_⟩
  · rw [List.take_add_one, g] at hy
    rcases List.mem_append.mp hy with z | z
    · exact h.seen y z
    · rw [show y = x from List.mem_singleton.mp z]
      exact m
  · rw [List.take_add_one]
    exact List.mem_append_left _ (h.hds ys hy)
theorem LInv.step {D : List Pr} {R S : List Int} {j : Nat} {P : List (List Int)} {dn ys : List Int} {x : Int} (h : LInv D R S j P dn) (g : S[j]? = some x) (sm : ∀ x, x ∈ S ↔ x ∈ R) (su : S.Pairwise (· ≤ ·)) (m : x ∉ dn) (k : Pc D R x ys) : LInv D R S (j + 1) (P ++ [ys]) (dn ++ ys) := by
  have xR : x ∈ R := (sm x).mp (List.mem_of_getElem? g)
  have hj : j < S.length := (List.getElem?_eq_some_iff.mp g).1
  have split : S = S.take j ++ x :: S.drop (j + 1) := by
    have e := (List.take_append_drop j S).symm
    rw [List.drop_eq_getElem_cons hj] at e
    rw [List.getElem?_eq_getElem hj] at g
    rw [Option.some.inj g] at e
    exact e
  have su2 := su
  rw [split] at su2
  obtain ⟨_, sb, sc⟩ := List.pairwise_append.mp su2
  have hd : hdI ys = x := by
    have a1 := hdI_le k.1 (k.self xR)
    have a2 := (k.2 _).mp (hdI_mem (k.self xR))
    have a3 := (sm _).mpr a2.mem
    rw [split] at a3
    rcases List.mem_append.mp a3 with e | e
    · obtain ⟨zs, hz, mz⟩ := (h.dnm _).mp (h.seen _ e)
      obtain ⟨t, ht, hc⟩ := h.pc zs hz
      exact absurd ((h.dnm x).mpr ⟨zs, hz, (hc.2 x).mpr (((hc.2 _).mp mz).trans a2.symm)⟩) m
    · rcases List.mem_cons.mp e with e | e
      · exact e
      · have := (List.pairwise_cons.mp sb).1 _ e
        omega
  refine ⟨fun zs hz => ?_, fun y => ?_, ?_, fun y hy => ?_, fun zs hz => ?_⟩
  · rcases List.mem_append.mp hz with q | q
    · exact h.pc zs q
    · rw [List.mem_singleton.mp q]
      exact ⟨x, xR, k⟩
  · rw [List.mem_append, h.dnm y]
    constructor
    · rintro (⟨zs, hz, mz⟩ | z)
      · exact ⟨zs, List.mem_append_left _ hz, mz⟩
      · exact ⟨ys, List.mem_append_right _ List.mem_cons_self, z⟩
    · rintro ⟨zs, hz, mz⟩
      rcases List.mem_append.mp hz with q | q
      · exact .inl ⟨zs, q, mz⟩
      · rw [List.mem_singleton.mp q] at mz
        exact .inr mz
  · refine List.pairwise_append.mpr ⟨h.asc, List.pairwise_singleton _ _, fun a ha b hb => ?_⟩
    rw [List.mem_singleton.mp hb, hd]
    have m1 := h.hds a ha
    have le := sc _ m1 x List.mem_cons_self
    have ne : hdI a ≠ x := fun z => m (by rw [← z]; exact h.seen _ m1)
    omega
  · rw [List.take_add_one, g] at hy
    rcases List.mem_append.mp hy with z | z
    · exact List.mem_append_left _ (h.seen y z)
    · rw [show y = x from List.mem_singleton.mp z]
      exact List.mem_append_right _ (k.self xR)
  · rw [List.take_add_one, g]
    rcases List.mem_append.mp hz with q | q
    · exact List.mem_append_left _ (h.hds zs q)
    · rw [List.mem_singleton.mp q, hd]
      exact List.mem_append_right _ (by simp)
theorem LInv.fin {D : List Pr} {R S : List Int} {P : List (List Int)} {dn : List Int} (h : LInv D R S S.length P dn) (sm : ∀ x, x ∈ S ↔ x ∈ R) : Pcs D R P :=
  ⟨h.pc, fun s hs => (h.dnm s).mp (h.seen s (by rw [List.take_length]; exact (sm s).mpr hs)), h.asc⟩
/-! reaching by rounds -/
structure FInv (D : List Pr) (R : List Int) (s : Int) (F : List Int) : Prop where
  nd : F.Nodup
  rc : ∀ x ∈ F, Rch D R s x
  st : s ∈ R → s ∈ F
def Clo (D : List Pr) (R F : List Int) : Prop := ∀ a ∈ F, ∀ b ∈ R, Adj D a b → b ∈ F
theorem FInv.all {D : List Pr} {R F : List Int} {s : Int} (h : FInv D R s F) (c : Clo D R F) (x : Int) : x ∈ F ↔ Rch D R s x := by
  refine ⟨h.rc x, fun k => ?_⟩
  induction k with
  | base m => exact h.st m
  | step _ a b ih => exact c _ ih _ b a
theorem FInv.add {D : List Pr} {R F : List Int} {s a b : Int} (h : FInv D R s F) (ha : a ∈ F) (hb : b ∈ R) (ab : Adj D a b) (n : b ∉ F) : FInv D R s (F ++ [b]) := by
  refine ⟨?_, fun x hx => ?_, fun m => List.mem_append_left _ (h.st m)⟩
  · refine List.nodup_append.mpr ⟨h.nd, by simp, fun x hx y hy z => ?_⟩
    rw [List.mem_singleton.mp hy] at z
    exact n (by rw [← z]; exact hx)
  · rcases List.mem_append.mp hx with z | z
    · exact h.rc x z
    · rw [List.mem_singleton.mp z]
      exact (h.rc a ha).step ab hb

abbrev sFp : Stmt := topS 0
abbrev sRea : Stmt := topS 0
abbrev sPcs : Stmt := topS 0
theorem u1 {u : Nat} (h : u + 64 < cLine) : u + 1 < cLine := by omega
theorem ints_len {r : Nat} {l : List Int} (nd : l.Nodup) (h : ∀ x ∈ l, 0 ≤ x ∧ x < r) : l.length ≤ r := by
  have h1 : (l.map Int.toNat).Nodup := by
    refine List.pairwise_map.mpr (List.Pairwise.imp_of_mem (fun {x y} hx hy ne e => ?_) nd)
    have b1 := h x hx
    have b2 := h y hy
    omega
  have h2 := nat_nodup_len _ (List.range r) h1 fun c hc => by
    obtain ⟨x, hx, rfl⟩ := List.mem_map.mp hc
    have := h x hx
    exact List.mem_range.mpr (by omega)
  rw [List.length_map, List.length_range] at h2
  exact h2
theorem inI (j : Int) (l : List Int) : inV (.int j) (l.map V.int) = decide (j ∈ l) := by
  induction l with
  | nil => rfl
  | cons x l ih =>
    have e : inV (.int j) ((x :: l).map V.int) = (eqV (.int x) (.int j) || inV (.int j) (l.map V.int)) := rfl
    rw [e, ih]
    have e2 : eqV (.int x) (.int j) = decide (x = j) := by
      unfold eqV
      by_cases h : x = j
      · subst h
        simp
      · simp [h]
    rw [e2]
    by_cases h : j = x
    · subst h
      simp
    · have h' : ¬ x = j := fun z => h z.symm
      simp [h, h']
theorem flI (l : List Int) : (l.map V.int).all flatV = true := by
  rw [List.all_eq_true]
  intro v hv
  obtain ⟨x, _, rfl⟩ := List.mem_map.mp hv
  rfl
theorem same_sqT {K : PySem.W.Frag} {H H' : Hp} {a : Addr} {xs : List V} (e : Same H H') (h : SqT K H a xs) : SqT K H' a xs := by
  rcases h with (h | ⟨o, h⟩) | h
  · exact .inl (.inl (e _ _ h))
  · exact .inl (.inr ⟨o, e _ _ h⟩)
  · exact .inr h
/-- what the dict of first_paths holds: keys, and tuples that are not too long -/
structure Dk (H : Hp) (d : Addr) (kvs : List (Key × V)) (ks : List Int) : Prop where
  at_ : H d = some (.dK kvs)
  ke : kvs.map (·.1) = ks.map Sum.inl
  vl : ∀ kv ∈ kvs, ∃ t xs, kv.2 = V.ref t ∧ H t = some (.tup xs) ∧ (xs.length ≤ kvs.length ∧ xs ≠ [])
theorem Dk.len {H : Hp} {d : Addr} {kvs : List (Key × V)} {ks : List Int} (h : Dk H d kvs ks) : kvs.length = ks.length := by
  have := congrArg List.length h.ke
  rw [List.length_map, List.length_map] at this
  exact this
theorem Dk.mem {H : Hp} {d : Addr} {kvs : List (Key × V)} {ks : List Int} (h : Dk H d kvs ks) (x : Int) : (valV kvs (Sum.inl x : Key)).isSome = true ↔ x ∈ ks := by
  constructor
  · intro e
    obtain ⟨v, e⟩ := Option.isSome_iff_exists.mp e
    have m := valV_in e
    rw [h.ke] at m
    obtain ⟨y, hy, e2⟩ := List.mem_map.mp m
    rw [← Sum.inl.inj e2]
    exact hy
  · intro m
    cases e : valV kvs (Sum.inl x : Key) with
    | some v => rfl
    | none =>
      have n := valV_not e
      rw [h.ke] at n
      exact absurd (List.mem_map.mpr ⟨x, m, rfl⟩) n
theorem Dk.same {H H' : Hp} {d : Addr} {kvs : List (Key × V)} {ks : List Int} (h : Dk H d kvs ks) (s : Same H H') : Dk H' d kvs ks := ⟨s _ _ h.at_, h.ke, fun kv hkv => by
  obtain ⟨t, xs, e1, e2, e3⟩ := h.vl kv hkv
  exact ⟨t, xs, e1, s _ _ e2, e3⟩⟩
theorem Dk.ch {H : Hp} {d wt : Addr} {us vs : List V} {kvs : List (Key × V)} {ks : List Int} (h : Dk H d kvs ks) (ne : d ≠ wt) (hw : H wt = some (.lst us)) : Dk (upd H wt (.lst vs)) d kvs ks := ⟨by rw [upd_ne ne]; exact h.at_, h.ke, fun kv hkv => by
  obtain ⟨t, xs, e1, e2, e3⟩ := h.vl kv hkv
  exact ⟨t, xs, e1, by rw [upd_ne (ne_of e2 hw (by intro z; cases z))]; exact e2, e3⟩⟩
theorem Dk.put {H : Hp} {d t : Addr} {b : Int} {xs : List V} {kvs : List (Key × V)} {ks : List Int} (h : Dk H d kvs ks) (n : valV kvs (Sum.inl b : Key) = none) (ht : H t = some (.tup xs)) (hx : xs.length ≤ kvs.length + 1) (hz : xs ≠ []) : Dk (upd H d (.dK (putK kvs (Sum.inl b) (.ref t)))) d (putK kvs (Sum.inl b) (.ref t)) (ks ++ [b]) := by
  have e := putK_new (V.ref t) n
  refine ⟨upd_same, by rw [e, List.map_append, List.map_append, h.ke]; rfl, fun kv hkv => ?_⟩
  rw [e] at hkv ⊢
  rcases List.mem_append.mp hkv with m | m
  · obtain ⟨u, ys, e1, e2, e3⟩ := h.vl kv m
    exact ⟨u, ys, e1, by rw [upd_ne (ne_of e2 h.at_ (by intro z; cases z))]; exact e2, by rw [List.length_append]; exact ⟨by omega, e3.2⟩⟩
  · rw [List.mem_singleton.mp m]
    exact ⟨t, xs, rfl, by rw [upd_ne (ne_of ht h.at_ (by intro z; cases z))]; exact ht, by rw [List.length_append]; exact ⟨hx, hz⟩⟩
theorem valV_mem {kvs : List (Key × V)} {k : Key} {v : V} (e : valV kvs k = some v) : ∃ kv ∈ kvs, kv.2 = v := by
  induction kvs with
  | nil => rw [valV_nil] at e; cases e
  | cons p r ih =>
    by_cases c : p.1 = k
    · rw [valV_pos c] at e
      exact ⟨p, List.mem_cons_self, Option.some.inj e⟩
    · rw [valV_neg c] at e
      obtain ⟨kv, m, e⟩ := ih e
      exact ⟨kv, List.mem_cons_of_mem _ m, e⟩
theorem for_iterW {wi : TI} {g : TG} {tb : TS} {D : Ends} {σ : L2.St} {H : Hp} (h : wi σ H fun J H1 => tFor (fun _ H R => R J H) g tb D σ H1) : tFor wi g tb D σ H := h
def SeqI (K : PySem.W.Frag) (H : Hp) (o : Addr) (R : List Int) : Prop := SqL K H o (R.map V.int) ∨ SqT K H o (R.map V.int)
section
variable {P : Program} {w : World} {K : PySem.W.Frag} {mg : Str → Option Value} {base : Heap}
end

theorem up_of {ys ks : List Int} (p : ys.Perm ks) (nd : ks.Nodup) (s : ys.Pairwise (· ≤ ·)) : Up ys := by
  have n2 : ys.Nodup := p.nodup_iff.mpr nd
  unfold Up
  refine List.Pairwise.imp (fun {a b} (h : a ≤ b ∧ a ≠ b) => by omega) (List.Pairwise.and s n2)
/-- tuples of ints in the heap -/
def IsR (H : Hp) (v : V) (ys : List Int) : Prop := ∃ t, v = .ref t ∧ H t = some (.tup (ys.map V.int))
def RL (H : Hp) (vs : List V) (L : List (List Int)) : Prop := Paired (IsR H) vs L
theorem IsR.same {H H' : Hp} {v : V} {d : List Int} (h : IsR H v d) (k : KT H H') : IsR H' v d := by
  obtain ⟨t, e, h⟩ := h
  exact ⟨t, e, k _ _ h⟩
theorem RL.kt {H H' : Hp} {vs : List V} {D : List (List Int)} (h : RL H vs D) (k : KT H H') : RL H' vs D := Paired.mapP h fun _ _ q => q.same k
theorem RL.len {H : Hp} {vs : List V} {D : List (List Int)} (h : RL H vs D) : vs.length = D.length := Paired.length h
theorem RL.nil0 (H : Hp) : RL H [] [] := Paired.nil
theorem RL.snoc {H : Hp} {vs : List V} {D : List (List Int)} {v : V} {d : List Int} (h : RL H vs D) (q : IsR H v d) : RL H (vs ++ [v]) (D ++ [d]) := Paired.snoc h q
theorem lget {α β : Type} {F : α → β → Prop} : ∀ {vs : List α} {D : List β} {i : Nat} {v : α}, Paired F vs D → vs[i]? = some v → ∃ d, D[i]? = some d ∧ F v d
  | _, _, _, _, Paired.nil, e => by simp at e
  | _, _, 0, v, .cons r _, e => by
    have e2 := Option.some.inj e
    subst e2
    exact ⟨_, rfl, r⟩
  | _, _, i + 1, v, .cons _ t, e => lget (i := i) t e
theorem lget2 {α β : Type} {F : α → β → Prop} : ∀ {vs : List α} {D : List β} {i : Nat} {d : β}, Paired F vs D → D[i]? = some d → ∃ v, vs[i]? = some v ∧ F v d
  | _, _, _, _, Paired.nil, e => by simp at e
  | _, _, 0, v, .cons r _, e => by
    have e2 := Option.some.inj e
    subst e2
    exact ⟨_, rfl, r⟩
  | _, _, i + 1, v, .cons _ t, e => lget2 (i := i) t e
section
variable {P : Program} {w : World} {K : PySem.W.Frag} {mg : Str → Option Value} {base : Heap}
def spRea (K : PySem.W.Frag) (C : Addr) : Sp := fun vs H Q _ => ∃ (p o : Addr) (s : Int) (R : List Int) (r : Nat) (D : List Pr) (own : List Addr), vs = [.ref p, .int s, .ref o] ∧ HouseAt C H p r D own ∧ SeqI K H o R ∧ (∀ x ∈ R, 0 ≤ x ∧ x < r) ∧
  ∀ (ys : List Int) (t : Addr) (H' : Hp), Pc D R s ys → Same H H' → H t = none → H' t = some (.tup (ys.map V.int)) → Q (.ref t) H'
theorem SeqI.same {K : PySem.W.Frag} {H H' : Hp} {o : Addr} {R : List Int} (h : SeqI K H o R) (s : Same H H') : SeqI K H' o R := by
  rcases h with h | h
  · exact .inl (s.seq h)
  · exact .inr (same_sqT s h)
def spPcs (K : PySem.W.Frag) (C : Addr) : Sp := fun vs H Q _ => ∃ (p o : Addr) (R : List Int) (r : Nat) (D : List Pr) (own : List Addr), vs = [.ref p, .ref o] ∧ HouseAt C H p r D own ∧ SeqI K H o R ∧ R.length < 64 ∧ (∀ x ∈ R, 0 ≤ x ∧ x < r) ∧
  ∀ (L : List (List Int)) (us : List V) (t : Addr) (H' : Hp), Pcs D R L → Same H H' → H t = none → H' t = some (.lst us) → RL H' us L → Q (.ref t) H'
end

local macro_rules | `(tactic| walk_at "rg") => `(tactic| try simp only [cxK, cxK2, cxP, cxW, L2.start, List.length_cons, List.length_nil, List.replicate_succ, List.replicate_zero, List.map_cons, List.map_nil, List.cons_append, List.nil_append, gName, gNil, gCons, gTup, gSub, List.getElem?_cons_zero, List.getElem?_cons_succ, Option.some.injEq, List.cons.injEq, V.int.injEq, V.ref.injEq, V.bl.injEq, V.str.injEq, exists_eq_left', exists_eq_left, exists_eq_right, exists_eq_right', true_and, and_true, and_assoc, exists_and_left, exists_and_right, List.set_cons_zero, List.set_cons_succ, List.append_nil, reduceCtorEq, false_and, and_false, exists_false, or_false, false_or, decide_eq_true_eq, Nat.reduceAdd, Nat.reduceSub])
abbrev sLre : Stmt := topS 33
abbrev sLpc : Stmt := topS 38
theorem int_sub_len {l m : List Int} (nd : l.Nodup) (h : ∀ x ∈ l, x ∈ m) (p : ∀ x ∈ m, 0 ≤ x) : l.length ≤ m.length := by
  have h1 : (l.map Int.toNat).Nodup := by
    refine List.pairwise_map.mpr (List.Pairwise.imp_of_mem (fun {x y} hx hy ne e => ?_) nd)
    have b1 := p x (h x hx)
    have b2 := p y (h y hy)
    omega
  have h2 := nat_nodup_len _ (m.map Int.toNat) h1 fun c hc => by
    obtain ⟨x, hx, rfl⟩ := List.mem_map.mp hc
    exact List.mem_map.mpr ⟨x, h x hx, rfl⟩
  rw [List.length_map, List.length_map] at h2
  exact h2
theorem FInv.full {D : List Pr} {R F : List Int} {s : Int} (h : FInv D R s F) (p : ∀ x ∈ R, 0 ≤ x) (l : R.length ≤ F.length) : Clo D R F := fun a ha b hb ab => Classical.byContradiction fun n => by
  have h2 := h.add ha hb ab n
  have := int_sub_len h2.nd (fun x hx => (h2.rc x hx).mem) p
  rw [List.length_append] at this
  have e : F.length + 1 ≤ R.length := this
  omega
/-- the doors so far lead nowhere new -/
def Cl1 (R F : List Int) (E : List Pr) : Prop := ∀ d ∈ E, (d.1 ∈ F → d.2 ∈ R → d.2 ∈ F) ∧ (d.2 ∈ F → d.1 ∈ R → d.1 ∈ F)
theorem Cl1.clo {D : List Pr} {R F : List Int} (h : Cl1 R F D) : Clo D R F := fun a ha b hb ab => by
  rcases ab with m | m
  · exact (h _ m).1 ha hb
  · exact (h _ m).2 ha hb
theorem half {K : PySem.W.Frag} {i j : Nat} {x y : Int} {fnd o : Addr} {Fc R : List Int} {D : Ends} {σ : L2.St} {H : Hp} (g1 : σ[i]? = some (some (.int x))) (g2 : σ[j]? = some (some (.int y))) (g3 : σ[3]? = some (some (.ref fnd))) (g4 : σ[2]? = some (some (.ref o))) (hf : H fnd = some (.lst (Fc.map V.int))) (ho : SeqI K H o R) (hl : Fc.length ≤ 1000)
    (no : ¬ (x ∈ Fc ∧ y ∈ R ∧ y ∉ Fc) → D.nx σ H) (yes : x ∈ Fc → y ∈ R → y ∉ Fc → D.nx σ (upd H fnd (.lst ((Fc ++ [y]).map V.int)))) :
    tIfS (tAnd (tTest (tOp (rIn K false) (tVar i) (tVar 3))) (tAnd (tTest (tOp (rIn K false) (tVar j) (tVar 2))) (tTest (tOp (rIn K true) (tVar j) (tVar 3))))) (tDrop (tBM K "list" rAppend (tVar 3) (tCons (tVar j) tNil))) tNext D σ H := by
  refine ⟨_, g1, _, g3, fnd, _, rfl, .inl (SqL.of hf), rfl, flI _, ?_⟩
  rw [inI]
  refine ⟨_, rfl, ?_⟩
  by_cases h1 : x ∈ Fc
  · rw [decide_eq_true h1]
    refine iteT ⟨_, g2, _, g4, o, _, rfl, ho, rfl, flI _, ?_⟩
    rw [inI]
    refine ⟨_, rfl, ?_⟩
    by_cases h2 : y ∈ R
    · rw [decide_eq_true h2]
      refine iteT ⟨_, g2, _, g3, fnd, _, rfl, .inl (SqL.of hf), rfl, flI _, ?_⟩
      rw [inI]
      refine ⟨_, rfl, ?_⟩
      by_cases h3 : y ∈ Fc
      · rw [decide_eq_true h3]
        exact iteF (no fun z => z.2.2 h3)
      · rw [decide_eq_false h3]
        refine iteT ⟨_, g3, .inl ⟨rfl, _, SqL.of hf⟩, _, g2, ?_⟩
        walk_at "rd"
        refine ⟨_, hf, len_big (by rw [List.length_map]; omega), ?_⟩
        have q := yes h1 h2 h3
        rw [List.map_append] at q
        exact q
    · rw [decide_eq_false h2]
      exact iteF (no fun z => h2 z.2.1)
  · rw [decide_eq_false h1]
    exact iteF (no fun z => h1 z.1)
section
variable {P : Program} {w : World} {K : PySem.W.Frag} {mg : Str → Option Value} {base : Heap}
theorem scLre : FnScope ["doors", "start", "inside", "found", "k", "before", "a", "b"] ["doors", "start", "inside"] (defScope sLre) := ⟨rfl, rfl, rfl, by decide +kernel, rfl, by decide +kernel, by decide +kernel⟩
def spLre (K : PySem.W.Frag) : Sp := fun vs H Q _ => ∃ (l o : Addr) (s : Int) (us : List V) (D : List Pr) (R : List Int), vs = [.ref l, .int s, .ref o] ∧ H l = some (.lst us) ∧ PL H us D ∧ SeqI K H o R ∧ R.length < 64 ∧ (∀ x ∈ R, 0 ≤ x) ∧
  ∀ (ys : List Int) (t : Addr) (H' : Hp), Pc D R s ys → Same H H' → H t = none → H' t = some (.lst (ys.map V.int)) → Q (.ref t) H'
theorem ok_lre {f : Addr} {fd : FuncData} (F : Fun K "_law_reach" "_law_reach" sLre f fd) (T : Bi mg) : FnOk P w K mg base CX0 1 f fd ["doors", "start", "inside"] (spLre K) := by
  refine F.ok scLre (fun vs H Q E h => ?_) (fun cdv A outer s0 H vs Q E hr h => ?_)
  · obtain ⟨l, o, s, us, D, R, rfl, _⟩ := h
    rfl
  · obtain ⟨l, o, s, us, D, R, rfl, hl, pl, ho, h64, hR, ret⟩ := h
    refine ⟨_, (pss_cons (ps_set (i := 3) scLre.nd rfl (Or.inl rfl) (pe_lst pa_nil))
      (pss_cons (ps_if (pt_cmpR op_in_seq (pv 1) (pv 2) (by rfl))
      (pss_one (ps_expr (pe_bm PySem.F.plainAttrs_list PySem.F.slot_list_append PySem.F.type_list_append mt_append (pv 3) (pa_cons (pv 1) pa_nil))))
      pss_nil)
      (pss_cons (ps_for PassesOwn.never rfl (pi_range1 (by rfl) T.range (pa_cons (pe_callB call_len_seq (by rfl) T.len (by decide +kernel) (pa_cons (pv 2) pa_nil)) pa_nil)) (pg_name (i := 4) scLre.nd rfl (Or.inl rfl))
      (pss_cons (ps_set (i := 5) scLre.nd rfl (Or.inl rfl) (pe_callB call_len_seq (by rfl) T.len (by decide +kernel) (pa_cons (pv 3) pa_nil)))
        (pss_cons (ps_for PassesOwn.never rfl (pi_list (pv 0)) (pg_tup rfl (pgs_cons (pg_name (i := 6) scLre.nd rfl (Or.inl rfl)) (pgs_cons (pg_name (i := 7) scLre.nd rfl (Or.inl rfl)) pgs_nil)))
        (pss_cons (ps_if (PW.pt (pw_and (pt_cmpR op_in_seq (pv 6) (pv 3) (by rfl)) (pw_and (pt_cmpR op_in_seq (pv 7) (pv 2) (by rfl)) (pw_and1 (pt_cmpR op_notIn_seq (pv 7) (pv 3) (by rfl))))))
          (pss_one (ps_expr (pe_bm PySem.F.plainAttrs_list PySem.F.slot_list_append PySem.F.type_list_append mt_append (pv 3) (pa_cons (pv 7) pa_nil))))
          pss_nil)
          (pss_one (ps_if (PW.pt (pw_and (pt_cmpR op_in_seq (pv 7) (pv 3) (by rfl)) (pw_and (pt_cmpR op_in_seq (pv 6) (pv 2) (by rfl)) (pw_and1 (pt_cmpR op_notIn_seq (pv 6) (pv 3) (by rfl))))))
          (pss_one (ps_expr (pe_bm PySem.F.plainAttrs_list PySem.F.slot_list_append PySem.F.type_list_append mt_append (pv 3) (pa_cons (pv 6) pa_nil))))
          pss_nil))))
        (pss_one (ps_if (pt_cmpR op_eqI (pe_callB call_len_seq (by rfl) T.len (by decide +kernel) (pa_cons (pv 3) pa_nil)) (pv 5) (nomark _))
        (pss_one (ps_break))
        pss_nil)))))
      (pss_one (ps_ret (pe_callB cr_sorted (by rfl) T.sorted (by decide +kernel) (pa_cons (pv 3) pa_nil))))))), ?_⟩
    walk_at "rd"
    refine ⟨Nat.zero_le _, fun fnd nf => ?_⟩
    have s1 : Same H (upd H fnd (HO.lst [])) := same_upd nf
    refine ⟨o, _, rfl, ho.same s1, rfl, flI _, ?_⟩
    rw [inI]
    refine ⟨_, rfl, ?_⟩
    by_cases m : s ∈ R
    rw [decide_eq_true m]
    refine iteT ?_
    walk_at "rd"
    refine ⟨.inl ⟨rfl, _, SqL.of upd_same⟩, [], upd_same, by decide, ?_⟩
    have s2 : Same H (upd (upd H fnd (HO.lst [])) fnd (HO.lst ([] ++ [V.int s]))) := same_ch s1 nf
    have pk : ∃ F0 : List Int, upd (upd H fnd (HO.lst [])) fnd (HO.lst ([] ++ [V.int s])) fnd = some (.lst (F0.map V.int)) ∧ FInv D R s F0 :=
      ⟨[s], upd_same, (by simp), fun x hx => (by rw [List.mem_singleton.mp hx]; exact .base m), fun _ => List.mem_cons_self⟩
    generalize upd (upd H fnd (HO.lst [])) fnd (HO.lst ([] ++ [V.int s])) = H1 at s2 pk
    rotate_left
    rw [decide_eq_false m]
    refine iteF ?_
    have s2 := s1
    have pk : ∃ F0 : List Int, upd H fnd (HO.lst []) fnd = some (.lst (F0.map V.int)) ∧ FInv D R s F0 := ⟨[], upd_same, List.nodup_nil, fun x hx => (by cases hx), fun z => absurd z m⟩
    generalize upd H fnd (HO.lst []) = H1 at s1 s2 pk
    all_goals
      clear s1
      obtain ⟨F0, hF0, fi0⟩ := pk
      have ul : us.length = D.length := pl.len
      have flen : ∀ F : List Int, FInv D R s F → F.length ≤ R.length := fun F fi => int_sub_len fi.nd (fun x hx => (fi.rc x hx).mem) hR
      refine for_iterW ?_
      walk_at "rd"
      obtain ⟨Pv, hPv⟩ : ∃ Pv : Nat → L2.St → Hp → Prop, Pv = (fun i σ H' => ∃ (F : List Int) (v4 v5 v6 v7 : Option V), σ = [some (.ref l), some (.int s), some (.ref o), some (.ref fnd), v4, v5, v6, v7] ∧ Same H H' ∧ H' fnd = some (.lst (F.map V.int)) ∧ FInv D R s F ∧ i ≤ F.length) := ⟨_, rfl⟩
      refine ⟨R.map V.int, ho.same s2, by rw [List.length_map]; omega, by rw [List.length_map]; omega, for_range (lo := 0) (n := (((R.map V.int).length : Nat) : Int).toNat) Pv (by rw [hPv]; exact ⟨F0, none, none, none, none, rfl, s2, hF0, fi0, Nat.zero_le _⟩) (fun i σ H2 hi pv => ?body) (fun σ H2 pv => ?done)⟩
      case done =>
        rw [hPv] at pv
        obtain ⟨F, v4, v5, v6, v7, rfl, sm, hF, fi, le⟩ := pv
        rw [List.length_map, Int.toNat_natCast] at le
        have clo := fi.full hR le
        have fl := flen F fi
        walk_at "rd"
        refine ⟨_, F, rfl, SqL.of hF, by omega, fun ys t pm so nt => ?_⟩
        exact ret ys t _ ⟨up_of pm fi.nd so, fun x => pm.mem_iff.trans (fi.all clo x)⟩ (sm.trans (same_upd nt)) (sm.free nt) upd_same
      case body =>
        rw [hPv] at pv
        obtain ⟨F, v4, v5, v6, v7, rfl, sm, hF, fi, le⟩ := pv
        have hl2 := sm _ _ hl
        have pl2 := pl.kt (KT.same sm)
        walk_at "rg"
        refine ⟨_, rfl, fnd, rfl, F.map V.int, .inl (SqL.of hF), ?_⟩
        walk_at "rg"
        refine for_iterW ?_
        obtain ⟨Pw, hPw⟩ : ∃ Pw : Nat → L2.St → Hp → Prop, Pw = (fun j σ H' => ∃ (G : List Int) (v6 v7 : Option V), σ = [some (.ref l), some (.int s), some (.ref o), some (.ref fnd), some (.int (0 + (i : Int))), some (.int ((F.map V.int).length : Nat)), v6, v7] ∧ Same H H' ∧ H' fnd = some (.lst ((F ++ G).map V.int)) ∧ FInv D R s (F ++ G) ∧ (G = [] → Cl1 R F (D.take j))) := ⟨_, rfl⟩
        refine ⟨_, rfl, l, rfl, ⟨_, SqL.of hl2⟩, for_list (K := K) (a := l) (xs := us) Pw (by rw [hPw]; exact ⟨[], v6, v7, rfl, sm, by rw [List.append_nil]; exact hF, by rw [List.append_nil]; exact fi, fun _ d hd => by rw [List.take_zero] at hd; cases hd⟩) (fun j σ H' _ pv => by rw [hPw] at pv; obtain ⟨_, _, _, _, s5, _⟩ := pv; exact SqL.of (s5 _ _ hl)) (fun j v σ H3 gv pv => ?inner) (fun σ H3 pv => ?after)⟩
        case after =>
          rw [hPw] at pv
          obtain ⟨G, v6, v7, rfl, s5, hG, fi5, cl5⟩ := pv
          rw [ul, List.take_length] at cl5
          have fl := flen _ fi5
          rw [List.length_append] at fl
          walk_at "rd"
          refine ⟨_, .inl (SqL.of hG), ?_⟩
          rw [List.length_map, List.length_map, List.length_append]
          cases G with
          | nil =>
            rw [List.append_nil] at hG fi5
            refine ite2 (fun _ => ?_) (fun z => (by simp at z))
            refine ⟨_, F, rfl, SqL.of hG, by omega, fun ys t pm so nt => ?_⟩
            exact ret ys t _ ⟨up_of pm fi5.nd so, fun x => pm.mem_iff.trans (fi5.all (cl5 rfl).clo x)⟩ (s5.trans (same_upd nt)) (s5.free nt) upd_same
          | cons g0 G =>
            refine ite2 (fun z => absurd z (by rw [List.length_cons]; omega)) (fun _ => ?_)
            rw [hPv]
            exact ⟨F ++ g0 :: G, _, _, _, _, rfl, s5, hG, fi5, by rw [List.length_append, List.length_cons]; omega⟩
        case inner =>
          have nxt : ∀ (G : List Int) (v6 v7 : Option V) (H' : Hp), Same H H' → H' fnd = some (.lst ((F ++ G).map V.int)) → FInv D R s (F ++ G) → (G = [] → Cl1 R F (D.take (j + 1))) → Pw (j + 1) [some (.ref l), some (.int s), some (.ref o), some (.ref fnd), some (.int (0 + (i : Int))), some (.int ((F.map V.int).length : Nat)), v6, v7] H' := fun G v6 v7 H' h1 h2 h3 h4 => by
            rw [hPw]
            exact ⟨G, v6, v7, rfl, h1, h2, h3, h4⟩
          rw [hPw] at pv
          obtain ⟨G, v6, v7, rfl, s5, hG, fi5, cl5⟩ := pv
          obtain ⟨d, gd, td, rfl, htd⟩ := lget pl gv
          have fl := flen _ fi5
          have dD : d ∈ D := List.mem_of_getElem? gd
          have tk : D.take (j + 1) = D.take j ++ [d] := by rw [List.take_add_one, gd]; rfl
          rw [tk] at nxt
          walk_at "rg"
          refine ⟨_, SqT.of (s5 _ _ htd), rfl, _, _, rfl, _, _, rfl, rfl, ?_⟩
          walk_at "rg"
          refine half (R := R) rfl rfl rfl rfl hG (ho.same s5) (by omega) (fun n1 => ?_) (fun a1 b1 c1 => ?_)
          · refine half (R := R) rfl rfl rfl rfl hG (ho.same s5) (by omega) (fun n2 => ?_) (fun a2 b2 c2 => ?_)
            · refine nxt G _ _ H3 s5 hG fi5 fun e => ?_
              subst e
              rw [List.append_nil] at n1 n2
              intro c hc
              rcases List.mem_append.mp hc with z | z
              · exact cl5 rfl c z
              · rw [List.mem_singleton.mp z]
                exact ⟨fun h1 h2 => Classical.byContradiction fun h3 => n1 ⟨h1, h2, h3⟩, fun h1 h2 => Classical.byContradiction fun h3 => n2 ⟨h1, h2, h3⟩⟩
            · rw [List.append_assoc]
              refine nxt (G ++ [d.1]) _ _ _ (same_ch s5 nf) (by rw [upd_same]) ?_ (fun e => absurd e (by simp))
              rw [← List.append_assoc]
              exact fi5.add a2 b2 (.inr dD) c2
          · have fi6 := fi5.add a1 b1 (.inl dD) c1
            have fl6 := flen _ fi6
            have s6 := same_ch (o := HO.lst ((F ++ G ++ [d.2]).map V.int)) s5 nf
            have hG6 : upd H3 fnd (HO.lst ((F ++ G ++ [d.2]).map V.int)) fnd = some (.lst ((F ++ G ++ [d.2]).map V.int)) := upd_same
            generalize upd H3 fnd (HO.lst ((F ++ G ++ [d.2]).map V.int)) = H6 at s6 hG6
            refine half (R := R) rfl rfl rfl rfl hG6 (ho.same s6) (by omega) (fun n2 => ?_) (fun a2 b2 c2 => ?_)
            · refine nxt (G ++ [d.2]) _ _ H6 s6 (by rw [← List.append_assoc]; exact hG6) (by rw [← List.append_assoc]; exact fi6) (fun e => absurd e (by simp))
            · rw [List.append_assoc, List.append_assoc]
              refine nxt (G ++ ([d.2] ++ [d.1])) _ _ _ (same_ch s6 nf) (by rw [upd_same]) ?_ (fun e => absurd e (by simp))
              rw [← List.append_assoc, ← List.append_assoc]
              exact fi6.add a2 b2 (.inr dD) c2
theorem scLpc : FnScope ["doors", "rooms", "found", "done", "room", "piece"] ["doors", "rooms"] (defScope sLpc) := ⟨rfl, rfl, rfl, by decide +kernel, rfl, by decide +kernel, by decide +kernel⟩
def spLpc (K : PySem.W.Frag) : Sp := fun vs H Q _ => ∃ (l o : Addr) (us : List V) (D : List Pr) (R : List Int), vs = [.ref l, .ref o] ∧ H l = some (.lst us) ∧ PL H us D ∧ SeqI K H o R ∧ R.length < 64 ∧ (∀ x ∈ R, 0 ≤ x) ∧
  ∀ (L : List (List Int)) (ws : List V) (t : Addr) (H' : Hp), Pcs D R L → Same H H' → H t = none → H' t = some (.lst ws) → RL H' ws L → Q (.ref t) H'
theorem ok_lpc {f fR : Addr} {fd fdR : FuncData} (F : Fun K "_law_pieces" "_law_pieces" sLpc f fd) (T : Bi mg) (d__law_reach : Df P w K mg base "_law_reach" ["doors", "start", "inside"] 1 (spLre K) fR fdR) : FnOk P w K mg base CX0 2 f fd ["doors", "rooms"] (spLpc K) := by
  refine F.ok scLpc (fun vs H Q E h => ?_) (fun cdv A outer s0 H vs Q E hr h => ?_)
  · obtain ⟨l, o, us, D, R, rfl, _⟩ := h
    rfl
  · obtain ⟨l, o, us, D, R, rfl, hl, pl, ho, h64, hR, ret⟩ := h
    refine ⟨_, (pss_cons (ps_set (i := 2) scLpc.nd rfl (Or.inl rfl) (pe_lst pa_nil))
      (pss_cons (ps_set (i := 3) scLpc.nd rfl (Or.inl rfl) (pe_lst pa_nil))
      (pss_cons (ps_for PassesOwn.never rfl (pi_list (pe_callB cr_sortTup (by rfl) T.sorted (by decide +kernel) (pa_cons (pv 1) pa_nil))) (pg_name (i := 4) scLpc.nd rfl (Or.inl rfl))
      (pss_one (ps_if (pt_cmpR op_notIn_seq (pv 4) (pv 3) (by rfl))
        (pss_cons (ps_set (i := 5) scLpc.nd rfl (Or.inl rfl) (pe_call d__law_reach.ok (hr.mono (by decide)) (by rfl) d__law_reach.at_ d__law_reach.kp d__law_reach.b .nil pass0 (pa_cons (pv 0) (pa_cons (pv 4) (pa_cons (pv 1) pa_nil)))))
          (pss_cons (ps_expr (pe_bm PySem.F.plainAttrs_list PySem.F.slot_list_extend PySem.F.type_list_extend mt_extend (pv 3) (pa_cons (pv 5) pa_nil)))
          (pss_one (ps_expr (pe_bm PySem.F.plainAttrs_list PySem.F.slot_list_append PySem.F.type_list_append mt_append (pv 2) (pa_cons (pe_callTy call_tuple_of (by rfl) T.tuple (by decide +kernel) (pa_cons (pv 5) pa_nil)) pa_nil))))))
        pss_nil)))
      (pss_one (ps_ret (pv 2)))))), ?_⟩
    walk_at "rd"
    refine ⟨Nat.zero_le _, fun fnd nf => ⟨Nat.zero_le _, fun dn nd => ?_⟩⟩
    have s1 : Same H (upd (upd H fnd (HO.lst [])) dn (HO.lst [])) := (same_upd nf).trans (same_upd nd)
    have hf1 : upd (upd H fnd (HO.lst [])) dn (HO.lst []) fnd = some (.lst []) := same_upd nd _ _ upd_same
    have hd1 : upd (upd H fnd (HO.lst [])) dn (HO.lst []) dn = some (.lst []) := upd_same
    have nd0 : H dn = none := (same_upd nf).free nd
    have nfd : fnd ≠ dn := ne_of_none upd_same nd
    generalize upd (upd H fnd (HO.lst [])) dn (HO.lst []) = H1 at s1 hf1 hd1
    refine for_iterW ?_
    walk_at "rd"
    refine ⟨o, R, rfl, ho.same s1, h64, fun S lf0 pS sS nl0 => ?_⟩
    have s2 := s1.trans (same_upd (o := HO.lst (S.map V.int)) nl0)
    have hf2 : upd H1 lf0 (HO.lst (S.map V.int)) fnd = some (.lst []) := same_upd nl0 _ _ hf1
    have hd2 : upd H1 lf0 (HO.lst (S.map V.int)) dn = some (.lst []) := same_upd nl0 _ _ hd1
    have hS2 : upd H1 lf0 (HO.lst (S.map V.int)) lf0 = some (.lst (S.map V.int)) := upd_same
    have nlf : fnd ≠ lf0 := ne_of_none hf1 nl0
    have nld : dn ≠ lf0 := ne_of_none hd1 nl0
    generalize upd H1 lf0 (HO.lst (S.map V.int)) = H2 at s2 hf2 hd2 hS2
    have sl : S.length < 64 := by rw [pS.length_eq]; exact h64
    have smm : ∀ x, x ∈ S ↔ x ∈ R := fun x => pS.mem_iff
    obtain ⟨Pv, hPv⟩ : ∃ Pv : Nat → L2.St → Hp → Prop, Pv = (fun j σ H' => ∃ (L : List (List Int)) (ws : List V) (dd : List Int) (v4 v5 : Option V), σ = [some (.ref l), some (.ref o), some (.ref fnd), some (.ref dn), v4, v5] ∧ Same H H' ∧ H' fnd = some (.lst ws) ∧ RL H' ws L ∧ H' dn = some (.lst (dd.map V.int)) ∧ H' lf0 = some (.lst (S.map V.int)) ∧ LInv D R S j L dd ∧ L.length ≤ j ∧ dd.length ≤ 64 * j) := ⟨_, rfl⟩
    refine ⟨lf0, rfl, ⟨_, SqL.of hS2⟩, for_list (K := K) (a := lf0) (xs := S.map V.int) Pv (by rw [hPv]; exact ⟨[], [], [], none, none, rfl, s2, hf2, RL.nil0 _, hd2, hS2, LInv.start D R S, Nat.le_refl _, Nat.zero_le _⟩) (fun j σ H' _ pv => by rw [hPv] at pv; obtain ⟨_, _, _, _, _, _, _, _, _, _, hS, _⟩ := pv; exact SqL.of hS) (fun j v σ H3 gv pv => ?body) (fun σ H3 pv => ?done)⟩
    case done =>
      rw [hPv] at pv
      obtain ⟨L, ws, dd, v4, v5, rfl, sm, hf, rl, hd, hS, li, _, _⟩ := pv
      rw [List.length_map] at li
      walk_at "rd"
      exact ret L ws fnd H3 (li.fin smm) sm nf hf rl
    case body =>
      have nxt : ∀ (L : List (List Int)) (ws : List V) (dd : List Int) (v4 v5 : Option V) (H' : Hp), Same H H' → H' fnd = some (.lst ws) → RL H' ws L → H' dn = some (.lst (dd.map V.int)) → H' lf0 = some (.lst (S.map V.int)) → LInv D R S (j + 1) L dd → L.length ≤ j + 1 → dd.length ≤ 64 * (j + 1) → Pv (j + 1) [some (.ref l), some (.ref o), some (.ref fnd), some (.ref dn), v4, v5] H' := fun L ws dd v4 v5 H' h1 h2 h3 h4 h5 h6 h7 h8 => by
        rw [hPv]
        exact ⟨L, ws, dd, v4, v5, rfl, h1, h2, h3, h4, h5, h6, h7, h8⟩
      rw [hPv] at pv
      obtain ⟨L, ws, dd, v4, v5, rfl, sm, hf, rl, hd, hS, li, ll, dl⟩ := pv
      rw [List.getElem?_map] at gv
      cases gd : S[j]? with
      | none => rw [gd] at gv; cases gv
      | some x =>
        rw [gd] at gv
        have ev := Option.some.inj gv
        subst ev
        have hj : j < S.length := (List.getElem?_eq_some_iff.mp gd).1
        walk_at "rd"
        refine ⟨dn, _, rfl, .inl (SqL.of hd), rfl, flI _, ?_⟩
        rw [inI]
        refine ⟨_, rfl, ?_⟩
        by_cases m : x ∈ dd
        · rw [decide_eq_true m]
          refine iteF ?_
          exact nxt L ws dd _ _ H3 sm hf rl hd hS (li.skip gd m) (by omega) (by omega)
        · rw [decide_eq_false m]
          refine iteT ?_
          refine ⟨l, o, x, us, D, R, rfl, sm _ _ hl, pl.kt (KT.same sm), ho.same sm, h64, hR, fun ys t H4 pc s4 nt ht => ?_⟩
          walk_at "rd"
          have yl : ys.length ≤ R.length := int_sub_len (List.Pairwise.imp (fun h => by omega) pc.1) (fun y hy => ((pc.2 y).mp hy).mem) hR
          have hd4 := s4 _ _ hd
          have hf4 := s4 _ _ hf
          have hS4 := s4 _ _ hS
          have rl4 := rl.kt (KT.same s4)
          have s04 := sm.trans s4
          have tdn : t ≠ dn := (ne_of_none hd nt).symm
          have nd0' := nd0
          refine ⟨.inl ⟨rfl, _, SqL.of hd4⟩, _, hd4, _, ht, Nat.le_of_lt (len_big (by rw [List.length_map, List.length_map]; omega)), ?_⟩
          have s5 := same_ch (o := HO.lst (dd.map V.int ++ ys.map V.int)) s04 nd0
          have hf5 : upd H4 dn (HO.lst (dd.map V.int ++ ys.map V.int)) fnd = some (.lst ws) := by rw [upd_ne nfd]; exact hf4
          have ht5 : upd H4 dn (HO.lst (dd.map V.int ++ ys.map V.int)) t = some (.lst (ys.map V.int)) := by rw [upd_ne tdn]; exact ht
          have hS5 : upd H4 dn (HO.lst (dd.map V.int ++ ys.map V.int)) lf0 = some (.lst (S.map V.int)) := by rw [upd_ne nld.symm]; exact hS4
          have hd5 : upd H4 dn (HO.lst (dd.map V.int ++ ys.map V.int)) dn = some (.lst ((dd ++ ys).map V.int)) := by rw [upd_same, List.map_append]
          have rl5 : RL (upd H4 dn (HO.lst (dd.map V.int ++ ys.map V.int))) ws L := rl4.kt (KT.lst hd4)
          generalize upd H4 dn (HO.lst (dd.map V.int ++ ys.map V.int)) = H5 at s5 hf5 ht5 hS5 hd5 rl5
          refine ⟨.inl ⟨rfl, _, SqL.of hf5⟩, _, .inl ⟨SqL.of ht5, fun t2 nt2 => ?_⟩⟩
          have s6 := s5.trans (same_upd (o := HO.tup (ys.map V.int)) nt2)
          have hf6 : upd H5 t2 (HO.tup (ys.map V.int)) fnd = some (.lst ws) := same_upd nt2 _ _ hf5
          have ht6 : upd H5 t2 (HO.tup (ys.map V.int)) t2 = some (.tup (ys.map V.int)) := upd_same
          refine ⟨ws, hf6, len_big (by rw [rl.len]; omega), nxt (L ++ [ys]) (ws ++ [.ref t2]) (dd ++ ys) _ _ _ (same_ch s6 nf) upd_same ?_ ?_ ?_ (li.step gd smm sS m pc) (by rw [List.length_append]; show L.length + 1 ≤ j + 1; omega) (by rw [List.length_append]; omega)⟩
          · exact RL.snoc ((rl5.kt (KT.new nt2)).kt (KT.lst hf6)) ⟨t2, rfl, by rw [upd_ne (ne_of ht6 hf6 (by intro z; cases z))]; exact ht6⟩
          · rw [upd_ne nfd.symm]
            exact same_upd nt2 _ _ hd5
          · rw [upd_ne nlf.symm]
            exact same_upd nt2 _ _ hS5
end

/-! ### t[::-1] of a tuple -/
section
variable {prog : Program} {w : World} {A : Around} {E : Value → Shared → Prop} {s : Shared}
theorem sliceApplied_rev {sl : Addr} {vl vu vs : Value} {n : Nat} {Q : Int × Int × Nat → Shared → Prop} (hs : s.heap.IsSliceOf sl vl vu vs) (pl : IsPart vl none) (pu : IsPart vu none) (ps : IsPart vs (some (-1)))
    (h : Q ((n : Int) - 1, -1, n) s) : wpAny (model prog w) A (Builtin.Slice.sliceApplied (.ref sl) (pure (n : Int))) Q E s := by
  obtain ⟨os, hos, hcs, hds⟩ := id hs
  unfold Builtin.Slice.sliceApplied Builtin.Slice.sliceFields
  refine wpAny_bind (wpAny_bind (wpAny_field hos hds (x := vl) rfl (wpAny_bind (wpAny_field hos hds (x := vu) rfl (wpAny_bind (wpAny_field hos hds (x := vs) rfl (wpAny_pure ?_)))))))
  refine wpAny_bind (HT.slicePart_ ps ?_)
  show wpAny _ _ (if ((-1 : Int) == 0) = true then _ else _) _ _ s
  rw [if_neg (by decide)]
  refine wpAny_bind (HT.slicePart_ pl (wpAny_bind (HT.slicePart_ pu (wpAny_bind (wpAny_pure ?_)))))
  show wpAny _ _ (match Builtin.Slice.sliceAdjust none none (-1) (n : Int) with | (lo, hi) => pure (lo, (-1 : Int), Builtin.Slice.slicePlaces lo hi (-1))) _ _ s
  show wpAny _ _ (pure ((n : Int) - 1, (-1 : Int), Builtin.Slice.slicePlaces ((n : Int) - 1) (-1) (-1))) _ _ s
  have e : Builtin.Slice.slicePlaces ((n : Int) - 1) (-1) (-1) = n := by
    unfold Builtin.Slice.slicePlaces
    rw [if_neg (by decide)]
    by_cases z : n = 0
    · subst z
      rfl
    · rw [if_pos (by omega)]
      have : ((n : Int) - 1 - -1 - 1) / (- -1) + 1 = n := by
        rw [show (- -1 : Int) = 1 from rfl, Int.ediv_one]
        omega
      rw [this]
      exact Int.toNat_natCast n
  rw [e]
  exact wpAny_pure h
theorem pick_rev (xs : Array Value) : ((List.range xs.size).filterMap fun (k : Nat) => xs[(((xs.size : Int) - 1) + (k : Int) * -1).toNat]?).toArray = xs.toList.reverse.toArray := by
  have e : (fun (k : Nat) => xs[(((xs.size : Int) - 1) + (k : Int) * -1).toNat]?) = fun k => xs[xs.size - 1 - k]? := by
    funext k
    have : (((xs.size : Int) - 1) + (k : Int) * -1).toNat = xs.size - 1 - k := by omega
    rw [this]
  rw [e]
  have e2 : ((List.range xs.size).filterMap fun k => xs[xs.size - 1 - k]?) = ((List.range xs.size).map fun k => xs.size - 1 - k).filterMap (xs[·]?) := by
    rw [List.filterMap_map]
    rfl
  rw [e2, PySem.W.krv_range, List.filterMap_reverse, PySem.W.krv_all]
theorem getItem_tuple_rev {t sl : Addr} {items : Array Value} {vl vu vs : Value} {Q : Value → Shared → Prop} (ht : IsTup s.heap t items) (hs : s.heap.IsSliceOf sl vl vu vs) (pl : IsPart vl none) (pu : IsPart vu none) (ps : IsPart vs (some (-1)))
    (h : Q (.ref s.heap.objs.size) { s with heap := s.heap.push { cls := .type "tuple", data := .seq items.toList.reverse.toArray } })
    (hsz : items.size ≤ sizeLine) : wpAny (model prog w) A (getItem (.ref t) (.ref sl)) Q E s := by
  have htake : sizeOk (.seq items.toList.reverse.toArray) := by
    show items.toList.reverse.toArray.size ≤ sizeLine
    rw [List.size_toArray, List.length_reverse, Array.length_toList]
    exact hsz
  obtain ⟨os, hos, hcs, hds⟩ := id hs
  have hTs : s.TypeIs (.ref sl) "slice" := ⟨os, hos, hcs⟩
  unfold getItem
  try with_reducible refine wpAny_holding ?_
  first | refine wpAny_bind (wpAny_pure ?_) | skip
  refine wpAny_bind (wpAny_sequenceKey ht.typeIs (by decide) ?_)
  refine wpAny_bind (wpAny_callSpecial?_slot (name := Str.ofString "__getitem__") ht.typeIs PyProof.Rows.slot_tuple_getitem
    (wpAny_call_entry PyProof.Rows.slot_tuple_getitem ht.typeIs entry_tuple_getitem ?_ (args_tuple_getitem _ _)))
  show wpAny _ _ (Builtin.Tuple.tupleItemsOf (.ref t) >>= _) _ _ s
  refine wpAny_bind (tupleItemsOf_ ht ?_)
  refine wpAny_bind (wpAny_typeOf hTs ?_)
  rw [if_pos (by decide)]
  refine wpAny_bind (sliceApplied_rev hs pl pu ps ?_)
  have hno : ¬ ((((items.size : Int) - 1) == 0 && (-1 : Int) == 1 && items.size == items.size) = true) := by
    intro q
    rw [Bool.and_eq_true, Bool.and_eq_true] at q
    exact absurd q.1.2 (by decide)
  show wpAny _ _ (if (((items.size : Int) - 1) == 0 && (-1 : Int) == 1 && items.size == items.size) = true then _ else _) _ _ s
  rw [if_neg hno, pick_rev]
  first
    | exact wpAny_bind (m := Builtin.Tuple.tupleExact _) (wpAny_newObj_type (wpAny_pure ⟨_, rfl, wpAny_pure h⟩) htake)
    | exact wpAny_bind (m := Builtin.Tuple.tupleExact _) (wpAny_newObj_type (wpAny_bind (wpAny_pure (wpAny_pure ⟨_, rfl, wpAny_pure h⟩))) htake)
    | exact wpAny_bind (wpAny_bind (m := Builtin.Tuple.tupleExact _) (wpAny_newObj_type (wpAny_pure (wpAny_pure ⟨_, rfl, wpAny_pure h⟩)) htake))
    | exact wpAny_bind (wpAny_bind (m := Builtin.Tuple.tupleExact _) (wpAny_newObj_type (wpAny_pure ⟨_, rfl, wpAny_pure h⟩) htake))
end
section
variable {X : Cx}
def tRevT (K : PySem.W.Frag) (te : TE) : TE := fun σ H Q => te σ H fun x H1 => ∃ a xs, x = .ref a ∧ SqT K H1 a xs ∧ ∀ p, H1 p = none → Q (.ref p) (upd H1 p (.tup xs.reverse))
theorem pe_revT {e : Expr} {te : TE} {k : Nat} {p1 p2 p3 pos : Pos} (he : PE X e te) : PE X (.Subscript e (.Slice none none (some (.UnaryOp .USub (.Constant (.int 1) k p1) p2)) p3) pos) (tRevT X.K te) := by
  refine ⟨fun pins s σ H Q I h => ?_⟩
  refine Subscript_ (thn (he.run pins s σ H _ I h) fun v s1 ⟨x, H1, I1, r1, q1⟩ => ?_)
  obtain ⟨a, xs, ex, hx, q⟩ := q1
  subst ex
  cases r1
  have hst : PO X (some (.UnaryOp .USub (.Constant (.int 1) k p1) p2)) (tPart (tUn (rU fun i => .int (-i)) (tC (.int 1)))) := po_some (pe_un un_neg pe_int)
  refine wpAny_Slice (thn (po_none.run pins s1 σ H1 (fun o H2 => o = none ∧ H2 = H1) I1 ⟨rfl, rfl⟩) fun vl s2 ⟨l, H2, I2, pl, el, e2⟩ => ?_)
  subst el e2
  refine thn (po_none.run pins s2 σ H2 (fun o H3 => o = none ∧ H3 = H2) I2 ⟨rfl, rfl⟩) fun vu s3 ⟨u, H3, I3, pu, eu, e3⟩ => ?_
  subst eu e3
  refine thn (hst.run pins s3 σ H3 (fun o H4 => o = some (-1) ∧ H4 = H3) I3 ⟨1, rfl, -1, rfl, rfl, rfl⟩) fun vs s4 ⟨o, H4, I4, ps, eo, e4⟩ => ?_
  subst eo e4
  have I5 : Inv X pins σ H4 { s4 with heap := s4.heap.push { cls := .type "slice", data := .fields #[vl, vu, vs] } } := I4.kept (t' := s4.toks) fun b ob q => Heap.get?_push_of_some _ q
  obtain ⟨its, r, ht, hz⟩ := I5.tuple hx
  have hlen := r.length
  show wpAny (model X.prog X.w) X.A (subscriptTail e (.Slice none none (some (.UnaryOp .USub (.Constant (.int 1) k p1) p2)) p3) (.ref a) (.ref s4.heap.objs.size)) (EP X pins σ Q) X.xe { s4 with heap := s4.heap.push { cls := .type "slice", data := .fields #[vl, vu, vs] } }
  refine tail_any (ops := [.ref a, .ref s4.heap.objs.size]) ht.typeIs (PyProof.Rows.slot_tuple_getitem.lookup) ?_ (by with_unfolding_all rfl)
  refine getItem_tuple_rev ht (Heap.IsSliceOf.new _ vl vu vs) pl pu ps ?_ (by rw [List.size_toArray]; omega)
  refine ⟨.ref _, _, I5.laid (t' := s4.toks) (o := .tup xs.reverse) (fun b ob q => Heap.get?_push_of_some _ q) (Nat.le_refl _) ?_, rfl, q _ (I5.hok.fresh (Nat.le_refl _))⟩
  exact ⟨by rw [List.length_reverse]; exact hz, _, by simpa using r.reverse, IsTup.new _ _⟩
end

/-! ### logs in the heap -/
abbrev Cl := Int × Str
def IsC (H : Hp) (v : V) (c : Cl) : Prop := ∃ t, v = .ref t ∧ H t = some (.tup [.int c.1, .str c.2])
def LG (H : Hp) (vs : List V) (L : List Cl) : Prop := Paired (IsC H) vs L
theorem IsC.kt {H H' : Hp} {v : V} {d : Cl} (h : IsC H v d) (k : KT H H') : IsC H' v d := by
  obtain ⟨t, e, h⟩ := h
  exact ⟨t, e, k _ _ h⟩
theorem LG.kt {H H' : Hp} {vs : List V} {D : List Cl} (h : LG H vs D) (k : KT H H') : LG H' vs D := Paired.mapP h fun _ _ q => q.kt k
theorem LG.len {H : Hp} {vs : List V} {D : List Cl} (h : LG H vs D) : vs.length = D.length := Paired.length h
theorem LG.nil0 (H : Hp) : LG H [] [] := Paired.nil
theorem LG.snoc {H : Hp} {vs : List V} {D : List Cl} {v : V} {d : Cl} (h : LG H vs D) (q : IsC H v d) : LG H (vs ++ [v]) (D ++ [d]) := Paired.snoc h q
theorem pget {α β : Type} {F : α → β → Prop} : ∀ {vs : List α} {D : List β} {i : Nat} {v : α}, Paired F vs D → vs[i]? = some v → ∃ d, D[i]? = some d ∧ F v d
  | _, _, _, _, Paired.nil, e => by simp at e
  | _, _, 0, v, .cons r _, e => by
    have e2 := Option.some.inj e
    subst e2
    exact ⟨_, rfl, r⟩
  | _, _, i + 1, v, .cons _ t, e => pget (i := i) t e
theorem pget2 {α β : Type} {F : α → β → Prop} : ∀ {vs : List α} {D : List β} {i : Nat} {d : β}, Paired F vs D → D[i]? = some d → ∃ v, vs[i]? = some v ∧ F v d
  | _, _, _, _, Paired.nil, e => by simp at e
  | _, _, 0, v, .cons r _, e => by
    have e2 := Option.some.inj e
    subst e2
    exact ⟨_, rfl, r⟩
  | _, _, i + 1, v, .cons _ t, e => pget2 (i := i) t e
theorem prev {α β : Type} {F : α → β → Prop} {vs : List α} {D : List β} (h : Paired F vs D) : Paired F vs.reverse D.reverse := by
  induction h with
  | nil => exact Paired.nil
  | cons r _ ih =>
    rw [List.reverse_cons, List.reverse_cons]
    exact Paired.snoc ih r
theorem inV_ints (j : Int) (l : List Int) : inV (.int j) (l.map V.int) = decide (j ∈ l) := by
  induction l with
  | nil => rfl
  | cons x l ih =>
    have e : inV (.int j) ((x :: l).map V.int) = (eqV (.int x) (.int j) || inV (.int j) (l.map V.int)) := rfl
    rw [e, ih]
    have e2 : eqV (.int x) (.int j) = decide (x = j) := by
      unfold eqV
      by_cases h : x = j
      · subst h
        simp
      · simp [h]
    rw [e2]
    by_cases h : j = x
    · subst h
      simp
    · have h' : ¬ x = j := fun z => h z.symm
      simp [h, h']
theorem flat_ints (l : List Int) : (l.map V.int).all flatV = true := by
  rw [List.all_eq_true]
  intro v hv
  obtain ⟨x, _, rfl⟩ := List.mem_map.mp hv
  rfl
/-- the last calls of a log -/
theorem rep1 {α : Type} (n : Nat) (x : α) : (List.replicate n [x]).flatten = List.replicate n x := by
  induction n with
  | zero => rfl
  | succ n ih =>
    rw [List.replicate_succ, List.flatten_cons, List.replicate_succ, ih]
    rfl
def lastF : List Cl → List Cl
  | [] => []
  | c :: S => if c.1 ∈ S.map (·.1) then lastF S else c :: lastF S
theorem lastF_len (L : List Cl) : (lastF L).length ≤ L.length := by
  induction L with
  | nil => exact Nat.le_refl _
  | cons c S ih =>
    show (if c.1 ∈ S.map (·.1) then lastF S else c :: lastF S).length ≤ S.length + 1
    split
    · omega
    · rw [List.length_cons]
      omega
theorem drop_step {L : List Cl} {i : Nat} {c : Cl} (hi : i < L.length) (g : L[L.length - 1 - i]? = some c) : L.drop (L.length - (i + 1)) = c :: L.drop (L.length - i) := by
  have h : L.length - (i + 1) < L.length := by omega
  rw [List.drop_eq_getElem_cons h]
  have e1 : L.length - (i + 1) + 1 = L.length - i := by omega
  have e2 : L.length - (i + 1) = L.length - 1 - i := by omega
  rw [e1]
  congr 1
  rw [← e2, List.getElem?_eq_getElem h] at g
  exact Option.some.inj g
def inS (S : List Cl) : Int → Bool := fun k => decide (k ∈ S.map (·.1))
theorem inS_same {S : List Cl} {c : Cl} (h : c.1 ∈ S.map (·.1)) : inS (c :: S) = inS S := by
  funext k
  unfold inS
  by_cases e : k ∈ S.map (·.1)
  · rw [decide_eq_true e, List.map_cons, decide_eq_true (List.mem_cons_of_mem _ e)]
  · rw [decide_eq_false e, List.map_cons, decide_eq_false]
    intro z
    rcases List.mem_cons.mp z with z | z
    · exact e (by rw [z]; exact h)
    · exact e z
theorem inS_more {S : List Cl} {c : Cl} : (fun j => inS S j || decide (j = c.1)) = inS (c :: S) := by
  funext k
  unfold inS
  rw [List.map_cons]
  by_cases e1 : k = c.1
  · subst e1
    simp
  · by_cases e2 : k ∈ S.map (·.1)
    · rw [decide_eq_true e2, decide_eq_true (List.mem_cons_of_mem _ e2), Bool.true_or]
    · rw [decide_eq_false e2, decide_eq_false e1, decide_eq_false, Bool.or_false]
      intro z
      rcases List.mem_cons.mp z with z | z
      · exact e1 z
      · exact e2 z
theorem atI01 {a b : V} : atI [a, b] 0 = some a ∧ atI [a, b] 1 = some b := ⟨rfl, rfl⟩
abbrev sLast : Stmt := topS 2
abbrev sOrd : Stmt := topS 0
abbrev sWds : Stmt := topS 0
abbrev sLci : Stmt := topS 0
abbrev sTopR : Stmt := topS 0
abbrev sWof : Stmt := topS 0
abbrev sLof : Stmt := topS 0
section
variable {P : Program} {w : World} {K : PySem.W.Frag} {mg : Str → Option Value} {base : Heap}
theorem scLast : FnScope ["log", "called", "backwards", "room", "word"] ["log"] (defScope sLast) := ⟨rfl, rfl, rfl, by decide +kernel, rfl, by decide +kernel, by decide +kernel⟩
def spLast : Sp := fun vs H Q _ => ∃ (l : Addr) (us : List V) (L : List Cl), vs = [.ref l] ∧ H l = some (.lst us) ∧ LG H us L ∧ L.length ≤ 1000 ∧
  ∀ ws p H', Same H H' → H p = none → H' p = some (.lst ws) → LG H' ws (lastF L) → Q (.ref p) H'
theorem ok_last {f : Addr} {fd : FuncData} (F : Fun K "last_calls" "last_calls" sLast f fd) (T : Bi mg) (mrev : mg "reversed" = none) : FnOk P w K mg base CX0 1 f fd ["log"] spLast := by
  refine F.ok scLast (fun vs H Q E h => ?_) (fun cdv A outer s H vs Q E hr h => ?_)
  · obtain ⟨l, us, L, rfl, _⟩ := h
    rfl
  · obtain ⟨l, us, L, rfl, hl, lg, ln, q⟩ := h
    refine ⟨_, (pss_cons (ps_set (i := 1) scLast.nd rfl (Or.inl rfl) (pe_callTy0 cr_set0 (by rfl) T.set (by decide +kernel)))
      (pss_cons (ps_set (i := 2) scLast.nd rfl (Or.inl rfl) (pe_lst pa_nil))
      (pss_cons (ps_for PassesOwn.never rfl (pi_reversed (by rfl) mrev (pa_cons (pv 0) pa_nil)) (pg_tup rfl (pgs_cons (pg_name (i := 3) scLast.nd rfl (Or.inl rfl)) (pgs_cons (pg_name (i := 4) scLast.nd rfl (Or.inl rfl)) pgs_nil)))
      (pss_one (ps_if (pt_cmpR or_snotin (pv 3) (pv 1) (by rfl))
        (pss_cons (ps_expr (pe_sadd (pv 1) (pa_cons (pv 3) pa_nil)))
          (pss_one (ps_expr (pe_bm PySem.F.plainAttrs_list PySem.F.slot_list_append PySem.F.type_list_append mt_append (pv 2) (pa_cons (pe_tup (pa_cons (pv 3) (pa_cons (pv 4) pa_nil))) pa_nil)))))
        pss_nil)))
      (pss_one (ps_ret (pe_revL (pv 2))))))), ?_⟩
    walk_at "rd"
    refine ⟨rfl, fun a na => ⟨Nat.zero_le _, fun b nb => ?_⟩⟩
    have ul : us.length = L.length := lg.len
    have nab : a ≠ b := fun z => by
      rw [← z, upd_same] at nb
      cases nb
    have fb : H b = none := by
      rw [upd_ne nab.symm] at nb
      exact nb
    obtain ⟨Pv, hPv⟩ : ∃ Pv : Nat → L2.St → Hp → Prop, Pv = (fun i σ H' => ∃ (n : Nat) (ws : List V) (v3 v4 : Option V), σ = [some (.ref l), some (.ref a), some (.ref b), v3, v4] ∧ Same H H' ∧ H' a = some (SetO w a (inS (L.drop (L.length - i))) n) ∧ n ≤ i ∧ H' b = some (.lst ws) ∧ LG H' ws (lastF (L.drop (L.length - i))).reverse) := ⟨_, rfl⟩
    have e0 : L.drop (L.length - 0) = [] := List.drop_eq_nil_of_le (by omega)
    refine ⟨_, rfl, l, us, rfl, SqL.of ((same_upd na).trans (same_upd nb) _ _ hl), RT.for_Itv Pv (by rw [hPv]; exact ⟨0, [], none, none, rfl, (same_upd na).trans (same_upd nb), by rw [e0, upd_ne nab, upd_same]; rfl, Nat.le_refl _, upd_same, by rw [e0]; exact LG.nil0 _⟩) (fun i σ H' pv => by rw [hPv] at pv; obtain ⟨_, _, _, _, _, sm, _⟩ := pv; exact SqL.of (sm _ _ hl)) (fun i v σ H' hi gv pv => ?_) (fun σ H' pv => ?_)⟩
    · have nxt : ∀ n ws v3 v4 H', Same H H' → H' a = some (SetO w a (inS (L.drop (L.length - (i + 1)))) n) → n ≤ i + 1 → H' b = some (.lst ws) → LG H' ws (lastF (L.drop (L.length - (i + 1)))).reverse → Pv (i + 1) [some (.ref l), some (.ref a), some (.ref b), v3, v4] H' := fun n ws v3 v4 H' h1 h2 h3 h4 h5 => by
        rw [hPv]
        exact ⟨n, ws, v3, v4, rfl, h1, h2, h3, h4, h5⟩
      rw [hPv] at pv
      obtain ⟨n, ws, v3, v4, rfl, sm, ha, hn, hb, lw⟩ := pv
      rw [ul] at gv hi
      obtain ⟨c, gc, tc, rfl, htc⟩ := pget lg gv
      have st := drop_step hi gc
      rw [st] at nxt
      have htc1 := sm _ _ htc
      have wl : ws.length ≤ 1000 := by
        rw [lw.len, List.length_reverse]
        have := lastF_len (L.drop (L.length - i))
        rw [List.length_drop] at this
        omega
      walk_at "rd"
      refine ⟨_, SqT.of htc1, rfl, _, _, rfl, _, _, rfl, rfl, ?_⟩
      walk_at "rd"
      refine ⟨c.1, a, _, n, rfl, rfl, ha, ?_⟩
      refine ⟨_, rfl, ?_⟩
      by_cases hm : c.1 ∈ (L.drop (L.length - i)).map (·.1)
      · have e : (!inS (L.drop (L.length - i)) c.1) = false := by
          unfold inS
          rw [decide_eq_true hm]
          rfl
        rw [e]
        refine iteF (nxt n ws _ _ _ sm (by rw [inS_same hm]; exact ha) (by omega) hb ?_)
        show LG H' ws (if c.1 ∈ (L.drop (L.length - i)).map (·.1) then lastF (L.drop (L.length - i)) else c :: lastF (L.drop (L.length - i))).reverse
        rw [if_pos hm]
        exact lw
      · have e : (!inS (L.drop (L.length - i)) c.1) = true := by
          unfold inS
          rw [decide_eq_false hm]
          rfl
        rw [e]
        refine iteT ?_
        have s0 : Same H' H' := Same.refl _
        refine ⟨_, rfl, ⟨a, _, n, rfl, ha⟩, _, rfl, a, c.1, _, n, rfl, rfl, ha, (by show n + 1 < 4096; omega), ?_⟩
        have e2 : inS (L.drop (L.length - i)) c.1 = false := by
          unfold inS
          exact decide_eq_false hm
        rw [inS_more, e2]
        have fa : H a = none := na
        have hb2 : upd H' a (SetO w a (inS (c :: L.drop (L.length - i))) (if false = true then n else n + 1)) b = some (.lst ws) := by rw [upd_ne nab.symm]; exact hb
        have ha2 : upd H' a (SetO w a (inS (c :: L.drop (L.length - i))) (if false = true then n else n + 1)) a = some (SetO w a (inS (c :: L.drop (L.length - i))) (n + 1)) := upd_same
        have sm2 : Same H (upd H' a (SetO w a (inS (c :: L.drop (L.length - i))) (if false = true then n else n + 1))) := same_ch sm fa
        have kt2 : KT H' (upd H' a (SetO w a (inS (c :: L.drop (L.length - i))) (if false = true then n else n + 1))) := KT.ch ha (fun xs z => by unfold SetO at z; cases z)
        generalize upd H' a (SetO w a (inS (c :: L.drop (L.length - i))) (if false = true then n else n + 1)) = H2 at hb2 ha2 sm2 kt2
        walk_at "rd"
        refine ⟨.inl ⟨rfl, _, SqL.of hb2⟩, (by show 2 ≤ sizeLine; decide), fun t nt => ?_⟩
        have nbt : b ≠ t := ne_of_none hb2 nt
        refine ⟨ws, by rw [upd_ne nbt]; exact hb2, len_big (by omega), nxt (n + 1) (ws ++ [.ref t]) _ _ _ (same_ch (sm2.trans (same_upd nt)) fb) ?_ (by omega) upd_same ?_⟩
        · rw [upd_ne nab, upd_ne (ne_of_none ha2 nt)]
          exact ha2
        · show LG _ _ (if c.1 ∈ (L.drop (L.length - i)).map (·.1) then lastF (L.drop (L.length - i)) else c :: lastF (L.drop (L.length - i))).reverse
          rw [if_neg hm, List.reverse_cons]
          refine LG.snoc (((lw.kt kt2).kt (KT.new nt)).kt (KT.lst (by rw [upd_ne nbt]; exact hb2))) ⟨t, rfl, ?_⟩
          rw [upd_ne nbt.symm, upd_same]
    · rw [hPv] at pv
      obtain ⟨n, ws, v3, v4, rfl, sm, ha, hn, hb, lw⟩ := pv
      rw [ul, Nat.sub_self, List.drop_zero] at lw
      refine ⟨_, rfl, b, ws, rfl, SqL.of hb, fun p np => ?_⟩
      refine q ws.reverse p _ (sm.trans (same_upd np)) (sm.free np) upd_same ?_
      have := prev (lw.kt (KT.new (o := HO.lst ws.reverse) np))
      rw [List.reverse_reverse] at this
      exact this
def spOrd : Sp := fun vs H Q _ => ∃ (l : Addr) (us : List V) (L : List Cl), vs = [.ref l] ∧ H l = some (.lst us) ∧ LG H us L ∧ L.length ≤ 1000 ∧
  ∀ p H', Same H H' → H p = none → H' p = some (.tup ((lastF L).map fun c => V.int c.1)) → Q (.ref p) H'
/-- the last word of each of r rooms -/
def wordsF (r : Nat) (L : List Cl) : List V := L.foldl (fun W c => W.set c.1.toNat (.str c.2)) (List.replicate r .non)
theorem wordsF_len (r : Nat) (L : List Cl) : (wordsF r L).length = r := by
  have key : ∀ (L : List Cl) (W : List V), (L.foldl (fun W c => W.set c.1.toNat (.str c.2)) W).length = W.length := by
    intro L
    induction L with
    | nil => intro W; rfl
    | cons c L ih =>
      intro W
      show (L.foldl _ (W.set c.1.toNat (.str c.2))).length = _
      rw [ih, List.length_set]
  unfold wordsF
  rw [key, List.length_replicate]
def InR (r : Nat) (L : List Cl) : Prop := ∀ c ∈ L, 0 ≤ c.1 ∧ c.1 < r
theorem wordsF_step {r : Nat} {L : List Cl} {j : Nat} {c : Cl} (g : L[j]? = some c) : wordsF r (L.take (j + 1)) = (wordsF r (L.take j)).set c.1.toNat (.str c.2) := by
  unfold wordsF
  rw [List.take_add_one, g, List.foldl_append]
  rfl
def spWds (C : Addr) : Sp := fun vs H Q _ => ∃ (p l : Addr) (us : List V) (L : List Cl) (r : Nat) (D : List Pr) (own : List Addr), vs = [.ref p, .ref l] ∧ HouseAt C H p r D own ∧ H l = some (.lst us) ∧ LG H us L ∧ InR r L ∧
  ∀ q H', Same H H' → H q = none → H' q = some (.lst (wordsF r L)) → Q (.ref q) H'
/-- the last call in any of the rooms -/
def lastIn (R : List Int) (L : List Cl) : Option Cl := L.reverse.find? fun c => decide (c.1 ∈ R)
def spLci (K : PySem.W.Frag) : Sp := fun vs H Q _ => ∃ (l o : Addr) (us : List V) (L : List Cl) (R : List Int), vs = [.ref l, .ref o] ∧ H l = some (.lst us) ∧ LG H us L ∧ (SqL K H o (R.map V.int) ∨ SqT K H o (R.map V.int)) ∧ (lastIn R L = none → Q .non H) ∧ (∀ t c, lastIn R L = some c → H t = some (.tup [.int c.1, .str c.2]) → Q (.ref t) H)
def optR (o : Option Cl) : V := match o with
  | none => .non
  | some c => .int c.1
def optW (o : Option Cl) : V := match o with
  | none => .non
  | some c => .str c.2
def spTopR (K : PySem.W.Frag) (g : Option Cl → V) : Sp := fun vs H Q _ => ∃ (l o : Addr) (us : List V) (L : List Cl) (R : List Int), vs = [.ref l, .ref o] ∧ H l = some (.lst us) ∧ LG H us L ∧ (SqL K H o (R.map V.int) ∨ SqT K H o (R.map V.int)) ∧ Q (g (lastIn R L)) H
theorem lastIn_at {H : Hp} {us : List V} {L : List Cl} {R : List Int} {c : Cl} (lg : LG H us L) (h : lastIn R L = some c) : ∃ t, H t = some (.tup [.int c.1, .str c.2]) := by
  unfold lastIn at h
  have m := List.mem_of_find?_eq_some h
  obtain ⟨i, g⟩ := List.getElem?_of_mem (List.mem_reverse.mp m)
  obtain ⟨v, _, t, _, e⟩ := pget2 lg g
  exact ⟨t, e⟩
def spLof (K : PySem.W.Frag) : Sp := fun vs H Q _ => ∃ (l o : Addr) (W : List V) (L : List Cl), vs = [.ref l, .ref o] ∧ H l = some (.lst W) ∧ H o = some (.tup (L.map fun c => V.int c.1)) ∧ L.length ≤ 1000 ∧ (∀ c ∈ L, 0 ≤ c.1 ∧ W[c.1.toNat]? = some (.str c.2)) ∧
  ∀ ws p H', Same H H' → H p = none → H' p = some (.lst ws) → LG H' ws L → Q (.ref p) H'
end
abbrev sLtop : Stmt := topS 0
abbrev sLwof : Stmt := topS 0
abbrev sLlast : Stmt := topS 32
abbrev sSpell : Stmt := topS 0
abbrev sPool : Stmt := topS 24
abbrev sSize : Stmt := topS 0
abbrev sDrawn : Stmt := topS 0
abbrev sChosen : Stmt := topS 0
theorem lastIn_step {R : List Int} {L : List Cl} {i : Nat} {c : Cl} (g : L[i]? = some c) : lastIn R (L.take (i + 1)) = if c.1 ∈ R then some c else lastIn R (L.take i) := by
  rw [List.take_add_one, g]
  unfold lastIn
  show List.find? _ (L.take i ++ [c]).reverse = _
  rw [List.reverse_append]
  show List.find? _ (c :: (L.take i).reverse) = _
  by_cases e : c.1 ∈ R
  · rw [List.find?_cons_of_pos (by simp [e]), if_pos e]
  · rw [List.find?_cons_of_neg (by simp [e]), if_neg e]
theorem cut_drop (xs : List V) (k : Nat) : cutV xs (some ((k : Nat) : Int)) none = xs.drop k := by
  unfold cutV
  rw [show HT.sIx xs.length 0 (some ((k : Nat) : Int)) = min k xs.length from HT.sIx_nat xs.length 0 k, HT.sIx_none]
  by_cases h : k ≤ xs.length
  · rw [Nat.min_eq_left h]
    refine List.take_of_length_le ?_
    rw [List.length_drop]
    exact Nat.le_refl _
  · rw [Nat.min_eq_right (by omega), List.drop_length, List.drop_eq_nil_of_le (by omega)]
    exact List.take_nil
theorem for_iter {wi : TI} {g : TG} {tb : TS} {D : Ends} {σ : L2.St} {H : Hp} (h : wi σ H fun J H1 => tFor (fun _ H R => R J H) g tb D σ H1) : tFor wi g tb D σ H := h
section
variable {P : Program} {w : World} {K : PySem.W.Frag} {mg : Str → Option Value} {base : Heap}
theorem scLlast : FnScope ["log", "last", "k", "later", "call"] ["log"] (defScope sLlast) := ⟨rfl, rfl, rfl, by decide +kernel, rfl, by decide +kernel, by decide +kernel⟩
theorem ok_llast {f : Addr} {fd : FuncData} (F : Fun K "_law_last" "_law_last" sLlast f fd) (T : Bi mg) : FnOk P w K mg base CX0 1 f fd ["log"] spLast := by
  refine F.ok scLlast (fun vs H Q E h => ?_) (fun cdv A outer s H vs Q E hr h => ?_)
  · obtain ⟨l, us, L, rfl, _⟩ := h
    rfl
  · obtain ⟨l, us, L, rfl, hl, lg, ln, q⟩ := h
    have ul : us.length = L.length := lg.len
    refine ⟨_, (pss_cons (ps_set (i := 1) scLlast.nd rfl (Or.inl rfl) (pe_lst pa_nil))
      (pss_cons (ps_for PassesOwn.never rfl (pi_range1 (by rfl) T.range (pa_cons (pe_callB call_len_seq (by rfl) T.len (by decide +kernel) (pa_cons (pv 0) pa_nil)) pa_nil)) (pg_name (i := 2) scLlast.nd rfl (Or.inr rfl))
      (pss_cons (ps_setLc (i := 3) (own := [("call", 4)]) (tt := tTest (tOp (rI0 fun i j => .bl (decide (i = j))) (tOp (rIxT K) (tVar 4) (tC (.int 0))) (tOp (rIxT K) (tOp (rIxL K) (tVar 0) (tVar 2)) (tC (.int 0))))) (by rfl) scLlast.nd rfl rfl (sw_true rfl rfl rfl (by decide +kernel)) (pi_list (pe_slice sl_list (pv 0) (po_some (pe_op op_add (pv 2) pe_int)) po_none)) (blkOk_by (N := ["log", "last", "k", "later", "call"]) (sc := defScope sLlast) (by decide +kernel)) (fun _ _ _ _ _ => pg_name (i := 4) scLlast.nd rfl (Or.inl rfl)) (fun _ _ _ _ _ => (pts_one (pt_cmpR op_eqI (pe_ix ix_tup (pv 4) pe_int (fun _ _ => rfl)) (pe_ix ix_tup (pe_ix ix_list (pv 0) (pv 2) (fun _ _ => rfl)) pe_int (fun _ _ => rfl)) (nomark _)))) (fun _ _ _ _ _ => (pv 4)))
        (pss_one (ps_if (pt_cmpR op_eqI (pe_callB call_len_seq (by rfl) T.len (by decide +kernel) (pa_cons (pv 3) pa_nil)) pe_int (nomark _))
        (pss_one (ps_expr (pe_bm PySem.F.plainAttrs_list PySem.F.slot_list_append PySem.F.type_list_append mt_append (pv 1) (pa_cons (pe_ix ix_list (pv 0) (pv 2) (fun _ _ => rfl)) pa_nil))))
        pss_nil))))
      (pss_one (ps_ret (pv 1))))), ?_⟩
    walk_at "rd"
    refine ⟨by decide, fun b nb => ?_⟩
    obtain ⟨Pv, hPv⟩ : ∃ Pv : Nat → L2.St → Hp → Prop, Pv = (fun i σ H' => ∃ (ws : List V) (A : List Cl) (v2 v3 : Option V), σ = [some (.ref l), some (.ref b), v2, v3, none] ∧ Same H H' ∧ H' b = some (.lst ws) ∧ LG H' ws A ∧ A ++ lastF (L.drop i) = lastF L) := ⟨_, rfl⟩
    refine ⟨_, rfl, l, rfl, us, .inl (SqL.of (same_upd nb _ _ hl)), us.length, rfl, by omega, by omega, for_range (lo := 0) (n := ((us.length : Nat) : Int).toNat) Pv (by rw [hPv]; exact ⟨[], [], none, none, rfl, same_upd nb, upd_same, LG.nil0 _, rfl⟩) (fun i σ H' hi pv => ?_) (fun σ H' pv => ?_)⟩
    · have nxt : ∀ ws A v2 v3 H', Same H H' → H' b = some (.lst ws) → LG H' ws A → A ++ lastF (L.drop (i + 1)) = lastF L → Pv (i + 1) [some (.ref l), some (.ref b), v2, v3, none] H' := fun ws A v2 v3 H' h1 h2 h3 h4 => by
        rw [hPv]
        exact ⟨ws, A, v2, v3, rfl, h1, h2, h3, h4⟩
      rw [hPv] at pv
      obtain ⟨ws, A, v2, v3, rfl, sm, hb, lw, eA⟩ := pv
      have hiL : i < L.length := by omega
      obtain ⟨c, gc⟩ : ∃ c, L[i]? = some c := ⟨_, List.getElem?_eq_getElem hiL⟩
      obtain ⟨v, gv, tc, rfl, htc⟩ := pget2 lg gc
      have hl' := sm _ _ hl
      have ed : L.drop i = c :: L.drop (i + 1) := by
        rw [List.drop_eq_getElem_cons hiL]
        congr 1
        rw [List.getElem?_eq_getElem hiL] at gc
        exact Option.some.inj gc
      have wl : ws.length ≤ 1000 := by
        have e1 := congrArg List.length eA
        have e2 := lastF_len L
        rw [List.length_append] at e1
        rw [lw.len]
        omega
      walk_at "rd"
      refine ⟨_, rfl, _, rfl, 0 + (i : Int), 1, rfl, rfl, 0 + (i : Int) + 1, rfl, l, us, rfl, SqL.of hl', fun e ne => ?_⟩
      have ek : 0 + (i : Int) + 1 = ((i + 1 : Nat) : Int) := by omega
      rw [ek, cut_drop]
      have s2 := sm.trans (same_upd (o := HO.lst (us.drop (i + 1))) ne)
      have he : upd H' e (HO.lst (us.drop (i + 1))) e = some (.lst (us.drop (i + 1))) := upd_same
      have hb2 : upd H' e (HO.lst (us.drop (i + 1))) b = some (.lst ws) := same_upd ne _ _ hb
      have lw2 := lw.kt (KT.new (o := HO.lst (us.drop (i + 1))) ne)
      generalize upd H' e (HO.lst (us.drop (i + 1))) = H2 at s2 he hb2 lw2
      have hl2 := s2 _ _ hl
      have htc2 := s2 _ _ htc
      refine ⟨e, rfl, ⟨_, SqL.of he⟩, fun g ng => ?_⟩
      obtain ⟨Pw, hPw⟩ : ∃ Pw : Nat → Hp → Prop, Pw = (fun j Hx => ∃ zs, Same H2 Hx ∧ Hx g = some (.lst zs) ∧ zs.length = (((L.drop (i + 1)).take j).filter fun d => decide (d.1 = c.1)).length) := ⟨_, rfl⟩
      refine lc_list (K := K) (a := e) (xs := us.drop (i + 1)) Pw (by rw [hPw]; exact ⟨[], same_upd ng, upd_same, rfl⟩) (fun j Hx _ pv => by rw [hPw] at pv; obtain ⟨_, s3, _⟩ := pv; exact SqL.of (s3 _ _ he)) (fun j v Hx gv2 pv => ?_) (fun Hx pv => ?_)
      · have nxw : ∀ zs Hx, Same H2 Hx → Hx g = some (.lst zs) → zs.length = (((L.drop (i + 1)).take (j + 1)).filter fun d => decide (d.1 = c.1)).length → Pw (j + 1) Hx := fun zs Hx h1 h2 h3 => by
          rw [hPw]
          exact ⟨zs, h1, h2, h3⟩
        rw [hPw] at pv
        obtain ⟨zs, s3, hg, lz⟩ := pv
        rw [List.getElem?_drop] at gv2
        obtain ⟨d, gd, td, rfl, htd⟩ := pget lg gv2
        have gd2 : (L.drop (i + 1))[j]? = some d := by rw [List.getElem?_drop]; exact gd
        have s03 := s2.trans s3
        have zl : zs.length ≤ 1000 := by
          have e1 := List.length_filter_le (fun d : Cl => decide (d.1 = c.1)) ((L.drop (i + 1)).take j)
          rw [List.length_take, List.length_drop] at e1
          omega
        simp only [wipe]
        walk_at "rd"
        refine ⟨_, SqT.of (s03 _ _ htd), .int d.1, rfl, _, SqL.of (s03 _ _ hl), .ref tc, at_of (j := i) (by omega) gv, tc, rfl, _, SqT.of (s03 _ _ htc), .int c.1, rfl, d.1, rfl, c.1, rfl, ?_⟩
        by_cases ee : d.1 = c.1
        · rw [if_pos ee]
          refine ⟨zs, hg, len_big (by omega), nxw _ _ (same_ch s3 ng) upd_same ?_⟩
          rw [List.take_add_one, gd2, List.filter_append, List.length_append, List.length_append, lz]
          show _ = _ + (List.filter _ [d]).length
          rw [List.filter_cons_of_pos (by simp [ee])]
          rfl
        · rw [if_neg ee]
          refine nxw zs _ s3 hg ?_
          rw [List.take_add_one, gd2, List.filter_append, List.length_append, lz]
          show _ = _ + (List.filter _ [d]).length
          rw [List.filter_cons_of_neg (by simp [ee])]
          rfl
      · rw [hPw] at pv
        obtain ⟨zs, s3, hg, lz⟩ := pv
        have e1 : (us.drop (i + 1)).length = (L.drop (i + 1)).length := by rw [List.length_drop, List.length_drop, ul]
        rw [e1, List.take_length] at lz
        have s03 := s2.trans s3
        have hb3 := s3 _ _ hb2
        walk_at "rd"
        refine ⟨zs, .inl (SqL.of hg), ?_⟩
        by_cases hm : c.1 ∈ (L.drop (i + 1)).map (·.1)
        · have pos : ¬ ((zs.length : Nat) : Int) = 0 := by
            intro z
            have z2 : (((L.drop (i + 1)).filter fun d => decide (d.1 = c.1))) = [] := List.eq_nil_of_length_eq_zero (by omega)
            obtain ⟨d, hd, ed2⟩ := List.mem_map.mp hm
            have : d ∈ (L.drop (i + 1)).filter fun d => decide (d.1 = c.1) := List.mem_filter.mpr ⟨hd, by simp [ed2]⟩
            rw [z2] at this
            cases this
          rw [if_neg pos]
          refine nxt ws A _ _ _ s03 hb3 (lw2.kt (KT.same s3)) ?_
          rw [ed] at eA
          rw [← eA]
          show _ = A ++ (if c.1 ∈ (L.drop (i + 1)).map (·.1) then lastF (L.drop (i + 1)) else c :: lastF (L.drop (i + 1)))
          rw [if_pos hm]
        · have zero : ((zs.length : Nat) : Int) = 0 := by
            have z2 : (((L.drop (i + 1)).filter fun d => decide (d.1 = c.1))) = [] := List.filter_eq_nil_iff.mpr fun d hd z => hm (List.mem_map.mpr ⟨d, hd, by simpa using z⟩)
            rw [z2] at lz
            rw [lz]
            rfl
          rw [if_pos zero]
          refine ⟨.inl ⟨rfl, _, SqL.of hb3⟩, _, SqL.of (s03 _ _ hl), .ref tc, at_of (j := i) (by omega) gv, ?_⟩
          refine ⟨ws, hb3, len_big (by omega), nxt (ws ++ [.ref tc]) (A ++ [c]) _ _ _ (same_ch s03 nb) upd_same ?_ ?_⟩
          · exact LG.snoc ((lw2.kt (KT.same s3)).kt (KT.lst hb3)) (IsC.kt (d := c) ⟨tc, rfl, s03 _ _ htc⟩ (KT.lst hb3))
          · rw [ed] at eA
            rw [← eA]
            show _ = A ++ (if c.1 ∈ (L.drop (i + 1)).map (·.1) then lastF (L.drop (i + 1)) else c :: lastF (L.drop (i + 1)))
            rw [if_neg hm, List.append_assoc]
            rfl
    · rw [hPv] at pv
      obtain ⟨ws, A, v2, v3, rfl, sm, hb, lw, eA⟩ := pv
      have e1 : L.drop ((us.length : Nat) : Int).toNat = [] := List.drop_eq_nil_of_le (by omega)
      rw [e1] at eA
      have eA2 : A = lastF L := by rw [← eA]; exact (List.append_nil A).symm
      rw [eA2] at lw
      walk_at "rd"
      exact q ws b H' sm nb hb lw
/-- a word: short, and its signs are signs -/
def wk (n : Nat) (z : Str) : Prop := z.length ≤ n ∧ PyData.strOk z = true
theorem wk.mono {n m : Nat} {z : Str} (h : wk n z) (l : n ≤ m) : wk m z := ⟨Nat.le_trans h.1 l, h.2⟩
theorem strOk_app {u v : Str} (h : PyData.strOk u = true) (k : PyData.strOk v = true) : PyData.strOk (u ++ v) = true := by
  show (u.cps ++ v.cps).all (· < 0x110000) = true
  rw [Array.all_append]
  show (PyData.strOk u && PyData.strOk v) = true
  rw [h, k]
  rfl
theorem wk_app {a b n : Nat} {u v : Str} (h : wk a u) (k : wk b v) (l : a + b ≤ n) : wk n (u ++ v) := ⟨by rw [Str.length_append]; have := h.1; have := k.1; omega, strOk_app h.2 k.2⟩
theorem wk_cut {n : Nat} {z : Str} (h : wk n z) (lo hi : Option Int) : wk n (cutS z lo hi) := by
  refine ⟨Nat.le_trans (cutS_length z lo hi) h.1, ?_⟩
  have h2 := h.2
  unfold PyData.strOk at h2 ⊢
  unfold cutS
  rw [Array.all_eq_true_iff_forall_mem] at h2 ⊢
  intro c hc
  refine h2 c ?_
  rw [Array.mem_def]
  simp only [List.mem_toArray] at hc
  exact List.mem_of_mem_drop (List.mem_of_mem_take hc)
theorem strOk_one {c : Nat} (h : c < 0x110000) : PyData.strOk (Str.mk #[c]) = true := by
  show (#[c] : Array Nat).all (· < 0x110000) = true
  simp [h]
def spSpell (K : PySem.W.Frag) : Sp := fun vs H Q _ => ∃ (a : Addr) (ns : List Int) (at_ : Nat), vs = [.ref a, .int at_] ∧ SqL K H a (ns.map V.int) ∧ at_ + 4 < ns.length ∧ ∀ z : Str, wk 8 z → Q (.str z) H
theorem letters_at {j : Nat} (h : j < 26) : ∃ c, atI (Str.ofString "abcdefghijklmnopqrstuvwxyz").cps.toList ((j : Nat) : Int) = some c ∧ c < 0x110000 := by
  have hl : (Str.ofString "abcdefghijklmnopqrstuvwxyz").cps.toList.length = 26 := by decide +kernel
  have ha : ((Str.ofString "abcdefghijklmnopqrstuvwxyz").cps.toList.all fun c => decide (c < 0x110000)) = true := by decide +kernel
  refine ⟨_, atI_nat (List.getElem?_eq_getElem (by rw [hl]; exact h)), ?_⟩
  exact of_decide_eq_true (List.all_eq_true.mp ha _ (List.getElem_mem _))
end

/-! ### own rules: data compared by <, len(set(tuple of ints)) -/
theorem pig : ∀ (ns K : List Int), K.Nodup → (∀ x ∈ K, x ∈ ns) → K.length ≤ ns.length
  | [], K, _, h => by
    cases K with
    | nil => exact Nat.le_refl _
    | cons a K => exact absurd (h a List.mem_cons_self) (by simp)
  | a :: ns, K, nd, h => by
    by_cases m : a ∈ K
    · have ih := pig ns (K.erase a) (nd.erase a) fun x hx => by
        have hx2 := (List.Nodup.mem_erase_iff nd).mp hx
        rcases List.mem_cons.mp (h x hx2.2) with e | e
        · exact absurd e hx2.1
        · exact e
      rw [List.length_erase_of_mem m] at ih
      have : 1 ≤ K.length := List.length_pos_of_mem m
      rw [List.length_cons]
      omega
    · have ih := pig ns K nd fun x hx => by
        rcases List.mem_cons.mp (h x hx) with e | e
        · rw [e] at hx; exact absurd hx m
        · exact e
      rw [List.length_cons]
      omega
theorem pig_nd : ∀ (ns K : List Int), K.Nodup → (∀ x ∈ K, x ∈ ns) → K.length = ns.length → ns.Nodup
  | [], K, _, _, _ => List.nodup_nil
  | a :: ns, K, nd, h, e => by
    have sub : a ∉ K → ∀ x ∈ K, x ∈ ns := fun m x hx => by
      rcases List.mem_cons.mp (h x hx) with z | z
      · rw [z] at hx; exact absurd hx m
      · exact z
    rw [List.length_cons] at e
    by_cases m : a ∈ K
    · by_cases r : a ∈ ns
      · have := pig ns K nd fun x hx => by
          rcases List.mem_cons.mp (h x hx) with z | z
          · rw [z]; exact r
          · exact z
        omega
      · refine List.nodup_cons.mpr ⟨r, pig_nd ns (K.erase a) (nd.erase a) (fun x hx => ?_) ?_⟩
        · have hx2 := (List.Nodup.mem_erase_iff nd).mp hx
          rcases List.mem_cons.mp (h x hx2.2) with z | z
          · exact absurd z hx2.1
          · exact z
        · rw [List.length_erase_of_mem m]
          omega
    · have := pig ns K nd (sub m)
      omega
theorem set_len {ns K : List Int} (nd : K.Nodup) (h : ∀ x, x ∈ ns ↔ x ∈ K) : K.length = ns.length ↔ ns.Nodup :=
  ⟨fun e => pig_nd ns K nd (fun x hx => (h x).mpr hx) e, fun n => Nat.le_antisymm (pig ns K nd fun x hx => (h x).mpr hx) (pig K ns n fun x hx => (h x).mp hx)⟩
def tLenSetT (K : PySem.W.Frag) (ta : TE) : TE := fun σ H Q => ta σ H fun x H1 => ∃ (l : Addr) (ns : List Int), x = V.ref l ∧ SqT K H1 l (ns.map V.int) ∧ ns.length ≤ 1000 ∧ ∀ m : Nat, (m = ns.length ↔ ns.Nodup) → Q (.int m) H1
theorem pe_lenSetT {X : Cx} {a : Expr} {ta : TE} {p p2 q pos : Pos} (hg : Gl X "len") (hm : X.mg "len" = none) (hg2 : Gl X "set") (hm2 : X.mg "set" = none) (ha : PE X a ta) (hc : X.calm = true := by rfl)
    (na : starEach [a] X.env = (false, eval a X.env) :: starEach [] X.env := by rfl) : PE X (.Call (.Name "len" p) [.Call (.Name "set" p2) [a] [] q] [] pos) (tLenSetT X.K ta) := by
  refine ⟨fun pins s σ H Q I h => ?_⟩
  refine Call_ (ld_blt I hg hm boot_len ?_)
  refine PyProof.Rows.callWith_builtin1 (PyProof.Rows.args_cons ?_ rfl) rfl rfl
  refine Call_ (ld_blt I hg2 hm2 boot_set ?_)
  refine PyProof.Rows.callWith_type1 (PyProof.Rows.args_cons (thn (ha.run pins s σ H _ I h) fun v s1 ⟨x, H1, I1, r1, q1⟩ => PyProof.Rows.args_nil ?_) na) na rfl
  obtain ⟨l, ns, rfl, hq, hl, q1⟩ := q1
  cases r1
  obtain ⟨its, r, pl, hz⟩ := I1.tuple hq
  refine call_set_tupI ns (I1.ok.hd hc) pl (by simpa using ints_of_vals r) (by unfold scanBound; omega) fun h' tk c hS hle hk => ?_
  refine PyProof.Rows.args_nil ?_
  obtain ⟨o, es, ep, t, ho, hex, hd, _, nd, mem, _, hf, hn, _⟩ := hS
  have I2 : Inv X pins σ H1 { s1 with heap := h', toks := tk } := I1.kept fun b o e => hk b o e
  refine call_len_set ho hex hd hf (by rw [hn] <;> omega) ⟨.int c, H1, I2.tok _, ⟨_, by rw [hn]⟩, q1 c ?_⟩
  have e := set_len nd (ns := ns) fun x => by rw [← mem x, decide_eq_true_iff]
  rw [List.length_map, Array.length_toList, hn] at e
  exact e
def rLtD (K : PySem.W.Frag) (n : Nat) : R2 := fun x y H Q => ∃ d e, Dp K H x d ∧ Dp K H y e ∧ PySem.W.alike d e = true ∧ d ≠ .none ∧ d.depth ≤ n ∧ Q (.bl (PySem.W.dataLt d e)) H
theorem op_ltD {X : Cx} {n : Nat} (hu : X.A.units + n < cLine) : OpR X (compareOp .Lt) (rLtD X.K n) := by
  intro pins s σ H x y v u Q I rx ry h
  obtain ⟨d, e, hd, he, al, nn, dep, q⟩ := h
  obtain ⟨as, r1⟩ := Dp.reads I d x v hd rx
  obtain ⟨bs, r2⟩ := Dp.reads I e y u he ry
  exact PySem.W.lt_data r1 r2 al nn (by have := Nat.min_le_left d.depth e.depth; omega) ⟨.bl _, H, I, rfl, q⟩

abbrev sHall : Stmt := topS 17
abbrev sLp : Stmt := topS 14
/-- the place of the last call in a room -/
def placeF : List Cl → Int → Option Nat := fun L r => (List.range L.length).reverse.find? fun i => decide ((L[i]?.map (·.1)) = some r)
/-- a dict that says it -/
def PlD (H : Hp) (d : Addr) (L : List Cl) : Prop := ∃ kvs : List (Key × V), H d = some (.dK kvs) ∧ ∀ r : Int, valV kvs (Sum.inl r : Key) = (placeF L r).map fun i : Nat => V.int i
theorem find_ext {α : Type} {p q : α → Bool} : ∀ l : List α, (∀ a ∈ l, p a = q a) → l.find? p = l.find? q
  | [], _ => rfl
  | a :: l, h => by
    rw [List.find?_cons, List.find?_cons, h a List.mem_cons_self, find_ext l fun b hb => h b (List.mem_cons_of_mem _ hb)]
theorem placeF_snoc (L : List Cl) (c : Cl) (r : Int) : placeF (L ++ [c]) r = if c.1 = r then some L.length else placeF L r := by
  unfold placeF
  rw [List.length_append, List.length_singleton, List.range_succ, List.reverse_append]
  show List.find? _ (L.length :: (List.range L.length).reverse) = _
  have hl : ((L ++ [c])[L.length]?.map (·.1)) = some c.1 := by simp
  by_cases h : c.1 = r
  · rw [List.find?_cons_of_pos (by rw [hl, h]; simp), if_pos h]
  · rw [List.find?_cons_of_neg (by rw [hl]; simp [h]), if_neg h]
    refine find_ext _ fun i hi => ?_
    have : i < L.length := by simpa using hi
    rw [List.getElem?_append_left this]
theorem dc_enum {K : PySem.W.Frag} {a : Addr} {xs : List V} {g : TG} {tt : TT} {tk tv : TE} {vs : List Nat} {σ : L2.St} {H1 : Hp} {D : Addr} {Qd : Hp → Prop} (Pv : Nat → Hp → Prop) (h0 : Pv 0 (upd H1 D (.dK []))) (hl : ∀ i H, i ≤ xs.length → Pv i H → SqL K H a xs)
    (hs : ∀ (i : Nat) x (t : Addr) H, xs[i]? = some x → Pv i H → H t = none → g (.ref t) (wipe σ vs) (upd H t (.tup [.int (i : Nat), x])) fun σ2 H2 => wipe σ2 vs = wipe σ vs ∧ tt σ2 H2 fun b H3 =>
      if b = true then tk σ2 H3 fun y H4 => tv σ2 H4 fun z H5 => ∃ kvs k, y = kV k ∧ H5 D = some (.dK kvs) ∧ kvs.length < sizeLine ∧ Pv (i + 1) (upd H5 D (.dK (putK kvs k z))) else Pv (i + 1) H3) (hd : ∀ H, Pv xs.length H → Qd H) :
    ∃ W : Nat → Nat → Hp → Prop, (∃ m, W 0 m (upd H1 D (.dK []))) ∧ ∀ i m H, W i m H →
      ((Ite K a).stop i H ∧ Qd H) ∨ ((Ite K a).go i H ∧ ∃ Nx : Hp → Prop, (∀ H', Nx H' → ∃ m', m' < m ∧ W (i + 1) m' H') ∧ ∀ x H', (Ite K a).yld i H x H' → g x (wipe σ vs) H' fun σ2 H2 => wipe σ2 vs = wipe σ vs ∧ tt σ2 H2 fun b H3 =>
        if b = true then tk σ2 H3 fun y H4 => tv σ2 H4 fun z H5 => ∃ kvs k, y = kV k ∧ H5 D = some (.dK kvs) ∧ kvs.length < sizeLine ∧ Nx (upd H5 D (.dK (putK kvs k z))) else Nx H3) := by
  refine ⟨fun i m H => m = xs.length - i ∧ i ≤ xs.length ∧ Pv i H, ⟨xs.length, by simp, Nat.zero_le _, h0⟩, ?_⟩
  rintro i m H ⟨rfl, hi, p⟩
  have q := hl i H hi p
  by_cases hlt : i < xs.length
  · refine .inr ⟨⟨xs, xs[i], q, List.getElem?_eq_getElem hlt⟩, Pv (i + 1), fun H' p' => ⟨xs.length - (i + 1), by omega, rfl, hlt, p'⟩, ?_⟩
    rintro v H' ⟨t, x, rfl, nt, rfl, f⟩
    exact hs i x t H (f xs q) p nt
  · have e : i = xs.length := by omega
    subst e
    exact .inl ⟨⟨xs, q, Nat.le_refl _⟩, hd H p⟩
theorem lcW {wi : TI} {g : TG} {tt : TT} {te : TE} {vs : List Nat} {σ : L2.St} {H : Hp} {Q : VK} (h : wi σ H fun J H1 => tLc (fun _ H R => R J H) g tt te vs σ H1 Q) : tLc wi g tt te vs σ H Q := h
section
variable {P : Program} {w : World} {K : PySem.W.Frag} {mg : Str → Option Value} {base : Heap}
theorem scLp : FnScope ["log", "place", "room", "_"] ["log"] (defScope sLp) := ⟨rfl, rfl, rfl, by decide +kernel, rfl, by decide +kernel, by decide +kernel⟩
def spLp : Sp := fun vs H Q _ => ∃ (l : Addr) (us : List V) (L : List Cl), vs = [.ref l] ∧ H l = some (.lst us) ∧ LG H us L ∧ L.length ≤ 1000 ∧ ∀ d H', Same H H' → H d = none → PlD H' d L → Q (.ref d) H'
theorem ok_lp {f : Addr} {fd : FuncData} (F : Fun K "last_places" "last_places" sLp f fd) (T : Bi mg) : FnOk P w K mg base CX0 1 f fd ["log"] spLp := by
  refine F.ok scLp (fun vs H Q E h => ?_) (fun cdv A outer s H vs Q E hr h => ?_)
  · obtain ⟨l, us, L, rfl, _⟩ := h
    rfl
  · obtain ⟨l, us, L, rfl, hl, lg, len, ret⟩ := h
    refine ⟨_, (pss_one (ps_ret (pe_dc (own := [("place", 1), ("room", 2), ("_", 3)]) (g := gTup K 2 (gCons (gName 1) (gCons (gTup K 2 (gCons (gName 2) (gCons (gName 3) gNil))) gNil))) (by rfl) scLp.nd (pi_enum (by rfl) T.enumerate (pa_cons (pv 0) pa_nil)) (blkOk_by (N := ["log", "place", "room", "_"]) (sc := defScope sLp) (by decide +kernel)) (fun _ _ _ _ _ => pg_tup rfl (pgs_cons (pg_name (i := 1) scLp.nd rfl (Or.inl rfl)) (pgs_cons (pg_tup rfl (pgs_cons (pg_name (i := 2) scLp.nd rfl (Or.inl rfl)) (pgs_cons (pg_name (i := 3) scLp.nd rfl (Or.inl rfl)) pgs_nil))) pgs_nil))) (fun _ _ _ _ _ => pts_nil) (fun _ _ _ _ _ => (pv 2)) (fun _ _ _ _ _ => (pv 1))))), ?_⟩
    walk_at "rd"
    have ul : us.length = L.length := lg.len
    refine ⟨_, rfl, l, us, rfl, SqL.of hl, fun D nD => ?_⟩
    obtain ⟨Pv, hPv⟩ : ∃ Pv : Nat → Hp → Prop, Pv = (fun i H' => Same H H' ∧ ∃ kvs : List (Key × V), H' D = some (.dK kvs) ∧ kvs.length ≤ i ∧ ∀ r : Int, valV kvs (Sum.inl r : Key) = (placeF (L.take i) r).map fun i : Nat => V.int i) := ⟨_, rfl⟩
    refine dc_enum (xs := us) Pv (by rw [hPv]; exact ⟨same_upd nD, [], upd_same, Nat.zero_le _, fun r => rfl⟩) (fun i H' _ pv => by rw [hPv] at pv; exact SqL.of (pv.1 _ _ hl)) (fun i v t H' gv pv nt => ?_) (fun H' pv => ?_)
    · rw [hPv] at pv
      obtain ⟨sm, kvs, hD, kl, kv⟩ := pv
      obtain ⟨c, gc, tc, rfl, htc⟩ := pget lg gv
      have il : i < L.length := (List.getElem?_eq_some_iff.mp gc).1
      have htc1 := sm _ _ htc
      have s1 := same_upd (o := HO.tup [V.int (i : Nat), V.ref tc]) nt
      simp only [wipe]
      walk_at "rd"
      refine ⟨_, SqT.of upd_same, rfl, _, _, rfl, _, _, rfl, tc, rfl, _, SqT.of (s1 _ _ htc1), rfl, _, _, rfl, _, _, rfl, ?_⟩
      refine ⟨rfl, rfl, ?_⟩
      rw [if_pos trivial]
      refine ⟨kvs, Sum.inl c.1, rfl, s1 _ _ hD, len_big (by omega), ?_⟩
      rw [hPv]
      refine ⟨same_ch (sm.trans s1) nD, _, upd_same, (by have := length_putK kvs (Sum.inl c.1 : Key) (V.int (i : Nat)); omega), fun r => ?_⟩
      rw [valV_put, List.take_add_one, gc]
      show _ = (placeF (L.take i ++ [c]) r).map _
      rw [placeF_snoc, List.length_take, Nat.min_eq_left (by omega), kv r]
      by_cases h : c.1 = r
      · rw [if_pos h, if_pos (by rw [h])]
        rfl
      · rw [if_neg h, if_neg (fun z => h (Sum.inl.inj z).symm)]
    · rw [hPv] at pv
      obtain ⟨sm, kvs, hD, kl, kv⟩ := pv
      rw [ul, List.take_length] at kv
      exact ret D H' sm nD ⟨kvs, hD, kv⟩
theorem scHall : FnScope ["house", "first", "second", "pair", "x", "y", "before", "after", "room"] ["house", "first", "second", "pair"] (defScope sHall) := ⟨rfl, rfl, rfl, by decide +kernel, rfl, by decide +kernel, by decide +kernel⟩
def placeI (L : List Cl) (r : Int) : Int := match placeF L r with
  | some i => (i : Int)
  | none => -1
theorem place_getD {kv : List (Key × V)} {L : List Cl} (g : ∀ r : Int, valV kv (Sum.inl r : Key) = (placeF L r).map fun i : Nat => V.int i) (z : Int) : (valV kv (Sum.inl z : Key)).getD (V.int (-1)) = V.int (placeI L z) := by
  rw [g]
  unfold placeI
  cases placeF L z <;> rfl
theorem place_some {kv : List (Key × V)} {L : List Cl} (g : ∀ r : Int, valV kv (Sum.inl r : Key) = (placeF L r).map fun i : Nat => V.int i) {x : Int} (h : (placeF L x).isSome) : valV kv (Sum.inl x : Key) = some (V.int (placeI L x)) := by
  rw [g]
  unfold placeI
  cases e : placeF L x with
  | none => rw [e] at h; cases h
  | some i => rfl
/-- the hall of a pair -/
def hallF (r : Nat) (A B : List Cl) (x y : Int) : List Int := (rg r).filter fun z => decide (placeI A z ≤ placeI A x) && decide (placeI B z ≤ placeI B y)
def spHall (C : Addr) : Sp := fun vs H Q _ => ∃ (p a b t : Addr) (x y : Int) (us ws : List V) (A B : List Cl) (r : Nat) (D : List Pr) (own : List Addr), vs = [.ref p, .ref a, .ref b, .ref t] ∧ HouseAt C H p r D own ∧ H a = some (.lst us) ∧ LG H us A ∧ A.length ≤ 1000 ∧ H b = some (.lst ws) ∧ LG H ws B ∧ B.length ≤ 1000 ∧ H t = some (.tup [.int x, .int y]) ∧ (placeF A x).isSome ∧ (placeF B y).isSome ∧ ∀ o H', Same H H' → H o = none → H' o = some (.lst ((hallF r A B x y).map V.int)) → Q (.ref o) H'
theorem ok_hall {f C fL : Addr} {fd fdL : FuncData} (F : Fun K "hall" "hall" sHall f fd) (T : Bi mg) (U : Hs K mg C) (d_last_places : Df P w K mg base "last_places" ["log"] 1 spLp fL fdL) : FnOk P w K mg base CX0 2 f fd ["house", "first", "second", "pair"] (spHall C) := by
  refine F.ok scHall (fun vs H Q E h => ?_) (fun cdv A0 outer s H vs Q E hr h => ?_)
  · obtain ⟨p, a, b, t, x, y, us, ws, A, B, r, D, own, rfl, _⟩ := h
    rfl
  · obtain ⟨p, a, b, t, x, y, us, ws, A, B, r, D, own, rfl, hh, ha, la, al, hb, lb, bl, ht, px, py, ret⟩ := h
    refine ⟨_, (pss_cons (ps_asg (pv 3) (pg_tup rfl (pgs_cons (pg_name (i := 4) scHall.nd rfl (Or.inr rfl)) (pgs_cons (pg_name (i := 5) scHall.nd rfl (Or.inr rfl)) pgs_nil))))
      (pss_cons (ps_set (i := 6) scHall.nd rfl (Or.inr rfl) (pe_call d_last_places.ok (hr.mono (by decide)) (by rfl) d_last_places.at_ d_last_places.kp d_last_places.b .nil pass0 (pa_cons (pv 1) pa_nil)))
      (pss_cons (ps_set (i := 7) scHall.nd rfl (Or.inr rfl) (pe_call d_last_places.ok (hr.mono (by decide)) (by rfl) d_last_places.at_ d_last_places.kp d_last_places.b .nil pass0 (pa_cons (pv 2) pa_nil)))
      (pss_one (ps_ret (pe_lc (own := [("room", 8)]) (by rfl) scHall.nd (pi_range1 (by rfl) T.range (pa_cons (pe_fld (pv 0) rfl) pa_nil)) (blkOk_by (N := ["house", "first", "second", "pair", "x", "y", "before", "after", "room"]) (sc := defScope sHall) (by decide +kernel)) (fun _ _ _ _ _ => pg_name (i := 8) scHall.nd rfl (Or.inl rfl)) (fun _ _ _ _ _ => (pts_one (PW.pt (pw_and (pt_cmpR op_le (pe_dget2 (u1 hr.units) (pv 6) (pv 8) (pe_un un_neg pe_int) ⟨by rfl, by rfl, by rfl, by rfl⟩) (pe_dget (u1 hr.units) (pv 6) (pv 4) (fun _ _ => rfl)) (nomark _)) (pw_and1 (pt_cmpR op_le (pe_dget2 (u1 hr.units) (pv 7) (pv 8) (pe_un un_neg pe_int) ⟨by rfl, by rfl, by rfl, by rfl⟩) (pe_dget (u1 hr.units) (pv 7) (pv 5) (fun _ _ => rfl)) (nomark _))))))) (fun _ _ _ _ _ => (pv 8)))))))), ?_⟩
    walk_at "rd"
    refine ⟨_, SqT.of ht, rfl, .int x, [.int y], rfl, .int y, [], rfl, rfl, ?_⟩
    refine ⟨a, us, A, rfl, ha, la, al, fun d1 H1 s1 n1 pd1 => ?_⟩
    refine ⟨b, ws, B, rfl, s1 _ _ hb, lb.kt (KT.same s1), bl, fun d2 H2 s2 n2 pd2 => ?_⟩
    obtain ⟨kv1, hd1, g1⟩ := pd1
    obtain ⟨kv2, hd2, g2⟩ := pd2
    have hd1 := s2 _ _ hd1
    have s12 := s1.trans s2
    have hh2 := hh.same s12
    obtain ⟨dx, l0, m0, ls, nss, h1, _⟩ := hh2.ex
    have r12 := hh.r12
    refine lcW ?_
    walk_at "rd"
    refine ⟨C, dx, _, h1, U.cl, U.nR, .int r, hf_rooms _ _ _, r, rfl, by omega, by omega, fun c nc => ?_⟩
    obtain ⟨Pv, hPv⟩ : ∃ Pv : Nat → Hp → Prop, Pv = (fun j Hx => Same H2 Hx ∧ Hx c = some (.lst ((((List.range j).map fun i : Nat => (i : Int)).filter fun z => decide (placeI A z ≤ placeI A x) && decide (placeI B z ≤ placeI B y)).map V.int))) := ⟨_, rfl⟩
    refine lc_range (lo := 0) (n := (r : Int).toNat) Pv (by rw [hPv]; exact ⟨same_upd nc, upd_same⟩) (fun j Hx hj pv => ?_) (fun Hx pv => ?_)
    · rw [hPv] at pv
      obtain ⟨sx, hc⟩ := pv
      simp only [wipe]
      unfold tDGet2 tDGet
      walk_at "rd"
      have dl : ((((List.range j).map fun i : Nat => (i : Int)).filter fun z => decide (placeI A z ≤ placeI A x) && decide (placeI B z ≤ placeI B y)).map V.int).length < sizeLine := len_big (by
        rw [List.length_map]
        have := List.length_filter_le (fun z => decide (placeI A z ≤ placeI A x) && decide (placeI B z ≤ placeI B y)) ((List.range j).map fun i : Nat => (i : Int))
        rw [List.length_map, List.length_range] at this
        omega)
      have step : (((List.range (j + 1)).map fun i : Nat => (i : Int)).filter fun z => decide (placeI A z ≤ placeI A x) && decide (placeI B z ≤ placeI B y)) = (((List.range j).map fun i : Nat => (i : Int)).filter fun z => decide (placeI A z ≤ placeI A x) && decide (placeI B z ≤ placeI B y)) ++ (if placeI A (j : Int) ≤ placeI A x ∧ placeI B (j : Int) ≤ placeI B y then [(j : Int)] else []) := by
        rw [List.range_succ, List.map_append, List.filter_append]
        congr 1
        show List.filter _ [(j : Int)] = _
        by_cases h : placeI A (j : Int) ≤ placeI A x ∧ placeI B (j : Int) ≤ placeI B y
        · rw [if_pos h, List.filter_cons_of_pos (by simp [h.1, h.2]), List.filter_nil]
        · rw [if_neg h, List.filter_cons_of_neg (by simpa using h), List.filter_nil]
      have no : ¬ (placeI A (j : Int) ≤ placeI A x ∧ placeI B (j : Int) ≤ placeI B y) → Pv (j + 1) Hx := fun h => by
        rw [hPv]
        refine ⟨sx, ?_⟩
        rw [step, if_neg h, List.append_nil]
        exact hc
      rw [Int.zero_add]
      refine ⟨.inl ⟨kv1, .inl (sx _ _ hd1)⟩, _, DGet.k (k := Sum.inl (j : Int)) (sx _ _ hd1), .int (placeI A x), (by rw [← place_some g1 px]; exact DGet.k (k := Sum.inl x) (sx _ _ hd1)), placeI A (j : Int), place_getD g1 _, placeI A x, rfl, ?_⟩
      by_cases c1 : placeI A (j : Int) ≤ placeI A x
      rotate_left
      · rw [if_neg c1, if_neg (show ¬ False from id)]
        exact no fun z => c1 z.1
      rw [if_pos c1]
      refine ⟨.inl ⟨kv2, .inl (sx _ _ hd2)⟩, _, DGet.k (k := Sum.inl (j : Int)) (sx _ _ hd2), .int (placeI B y), (by rw [← place_some g2 py]; exact DGet.k (k := Sum.inl y) (sx _ _ hd2)), placeI B (j : Int), place_getD g2 _, placeI B y, rfl, ?_⟩
      by_cases c2 : placeI B (j : Int) ≤ placeI B y
      rotate_left
      · rw [if_neg c2]
        exact no fun z => c2 z.2
      rw [if_pos c2]
      refine ⟨_, hc, dl, ?_⟩
      rw [hPv]
      refine ⟨same_ch sx nc, ?_⟩
      rw [upd_same, step, if_pos ⟨c1, c2⟩, List.map_append]
      rfl
    · rw [hPv] at pv
      obtain ⟨sx, hc⟩ := pv
      refine ret c Hx (s12.trans sx) (s12.free nc) ?_
      rw [show (r : Int).toNat = r by omega] at hc
      exact hc
end

abbrev sCrp : Stmt := topS 16
/-- the word of the last call in a room -/
def wordL (L : List Cl) (r : Int) : Option Str := (lastIn [r] L).map (·.2)
def crossB (A B : List Cl) (x y : Int) : Bool := decide (wordL A x ≠ wordL A y) && (decide (placeI A y < placeI A x) && decide (placeI B x < placeI B y))
def crossR (A B : List Cl) (rs : List Int) (x : Int) : List Pr := (rs.filter fun y => crossB A B x y).map fun y => (x, y)
def crossF (A B : List Cl) (rs : List Int) : List Pr := rs.flatMap (crossR A B rs)
theorem wordL_cons (c : Cl) (S : List Cl) (x : Int) : wordL (c :: S) x = match wordL S x with
    | some w => some w
    | none => if c.1 = x then some c.2 else none := by
  unfold wordL lastIn
  rw [List.reverse_cons, List.find?_append]
  cases e : S.reverse.find? (fun c => decide (c.1 ∈ [x])) with
  | some w => rfl
  | none =>
    show Option.map (fun x : Cl => x.2) (List.find? (fun c : Cl => decide (c.1 ∈ [x])) [c]) = if c.1 = x then some c.2 else none
    by_cases h : c.1 = x
    · rw [List.find?_cons_of_pos (by simp [h])]
      simp [h]
    · rw [List.find?_cons_of_neg (by simp [h])]
      simp [h]
theorem wordL_none {L : List Cl} {x : Int} : wordL L x = none ↔ x ∉ L.map (·.1) := by
  induction L with
  | nil => simp [wordL, lastIn]
  | cons c S ih =>
    rw [wordL_cons]
    cases e : wordL S x with
    | some w =>
      have : ¬ wordL S x = none := by rw [e]; simp
      have h := fun z => this (ih.mpr z)
      simp only [reduceCtorEq, List.map_cons, List.mem_cons, not_or, false_iff, not_and]
      exact fun _ => h
    | none =>
      have h := ih.mp e
      by_cases c1 : c.1 = x
      · simp [c1]
      · have c2 : ¬ x = c.1 := fun z => c1 z.symm
        simp only [if_neg c1, List.map_cons, List.mem_cons, not_or, true_iff]
        exact ⟨c2, h⟩
theorem lastF_mem (L : List Cl) (x : Int) : x ∈ (lastF L).map (·.1) ↔ x ∈ L.map (·.1) := by
  induction L with
  | nil => exact Iff.rfl
  | cons c S ih =>
    show x ∈ (if c.1 ∈ S.map (·.1) then lastF S else c :: lastF S).map (·.1) ↔ _
    by_cases h : c.1 ∈ S.map (·.1)
    · rw [if_pos h, ih, List.map_cons, List.mem_cons]
      exact ⟨.inr, fun z => z.elim (fun e => by rw [e]; exact h) id⟩
    · rw [if_neg h, List.map_cons, List.map_cons, List.mem_cons, List.mem_cons, ih]
theorem lastF_nd (L : List Cl) : ((lastF L).map (·.1)).Nodup := by
  induction L with
  | nil => exact List.nodup_nil
  | cons c S ih =>
    show ((if c.1 ∈ S.map (·.1) then lastF S else c :: lastF S).map (·.1)).Nodup
    by_cases h : c.1 ∈ S.map (·.1)
    · rw [if_pos h]; exact ih
    · rw [if_neg h, List.map_cons]
      exact List.nodup_cons.mpr ⟨fun z => h ((lastF_mem S c.1).mp z), ih⟩
abbrev kvOf (c : Cl) : Key × V := (Sum.inl c.1, V.str c.2)
theorem lastF_val (L : List Cl) (x : Int) : valV ((lastF L).map kvOf) (Sum.inl x : Key) = (wordL L x).map V.str := by
  induction L with
  | nil => rfl
  | cons c S ih =>
    show valV ((if c.1 ∈ S.map (·.1) then lastF S else c :: lastF S).map kvOf) _ = _
    rw [wordL_cons]
    by_cases h : c.1 ∈ S.map (·.1)
    · rw [if_pos h, ih]
      cases e : wordL S x with
      | some w => rfl
      | none =>
        have c1 : ¬ c.1 = x := fun z => wordL_none.mp e (by rw [← z]; exact h)
        simp only [if_neg c1]
    · rw [if_neg h, List.map_cons]
      by_cases c1 : c.1 = x
      · have e : wordL S x = none := wordL_none.mpr (by rw [← c1]; exact h)
        rw [valV_pos (by show (Sum.inl c.1 : Key) = Sum.inl x; rw [c1]), e]
        simp only [if_pos c1]
        rfl
      · rw [valV_neg (by show ¬ (Sum.inl c.1 : Key) = Sum.inl x; exact fun z => c1 (Sum.inl.inj z)), ih]
        cases e : wordL S x with
        | some w => rfl
        | none => simp only [if_neg c1]
theorem merge_nd : ∀ (more acc : List (Key × V)), (more.map (·.1)).Nodup → (∀ k ∈ more.map (·.1), k ∉ acc.map (·.1)) → mergeK acc more = acc ++ more
  | [], acc, _, _ => (List.append_nil acc).symm
  | kv :: more, acc, nd, dis => by
    show mergeK (putK acc kv.1 kv.2) more = _
    have hk := dis kv.1 List.mem_cons_self
    have e : putK acc kv.1 kv.2 = acc ++ [kv] := by
      unfold putK
      rw [if_neg]
      intro z
      obtain ⟨q, hq, hq2⟩ := List.any_eq_true.mp z
      exact hk (List.mem_map.mpr ⟨q, hq, of_decide_eq_true hq2⟩)
    have nd2 := List.nodup_cons.mp nd
    rw [e, merge_nd more (acc ++ [kv]) nd2.2 fun k hk2 z => ?_, List.append_assoc]
    · rfl
    · rw [List.map_append] at z
      rcases List.mem_append.mp z with z | z
      · exact dis k (List.mem_cons_of_mem _ hk2) z
      · have : k = kv.1 := by simpa using z
        rw [this] at hk2
        exact nd2.1 hk2
theorem lg_refs {K : PySem.W.Frag} {H : Hp} : ∀ {zs : List V} {D : List Cl}, LG H zs D → ∃ ps : List Addr, zs = ps.map V.ref ∧ Paired (fun p (kv : Key × V) => SqT K H p [kV kv.1, kv.2]) ps (D.map kvOf)
  | _, _, Paired.nil => ⟨[], rfl, .nil⟩
  | _, _, Paired.cons r t => by
    obtain ⟨tc, rfl, h⟩ := r
    obtain ⟨ps, e, pr⟩ := lg_refs (K := K) t
    exact ⟨tc :: ps, by rw [e]; rfl, .cons (SqT.of h) pr⟩
theorem in_list {K : PySem.W.Frag} {a : Addr} {xs : List V} {g : TG} {tt : TT} {te : TE} {vs : List Nat} {σ : L2.St} {H : Hp} {D : Addr} {Nx : Hp → Prop} (Pv : Nat → Hp → Prop) (h0 : Pv 0 H) (hl : ∀ i H, i ≤ xs.length → Pv i H → SqL K H a xs)
    (hs : ∀ i x H, xs[i]? = some x → Pv i H → g x (wipe σ vs) H fun σ2 H2 => wipe σ2 vs = wipe σ vs ∧ tt σ2 H2 fun b H3 => if b = true then te σ2 H3 fun y H4 => ∃ acc, H4 D = some (.lst acc) ∧ acc.length < sizeLine ∧ Pv (i + 1) (upd H4 D (.lst (acc ++ [y]))) else Pv (i + 1) H3)
    (hd : ∀ H, Pv xs.length H → Nx H) :
    ∃ W : Nat → Nat → Hp → Prop, (∃ m, W 0 m H) ∧ ∀ j k H, W j k H → ((Itl K a).stop j H ∧ Nx H) ∨ ((Itl K a).go j H ∧ ∃ N1 : Hp → Prop, (∀ H', N1 H' → ∃ k', k' < k ∧ W (j + 1) k' H') ∧ ∀ x H', (Itl K a).yld j H x H' → g x (wipe σ vs) H' fun σ3 H5 => wipe σ3 vs = wipe σ vs ∧ tt σ3 H5 fun b H6 =>
      if b = true then te σ3 H6 fun y H7 => ∃ acc, H7 D = some (.lst acc) ∧ acc.length < sizeLine ∧ N1 (upd H7 D (.lst (acc ++ [y]))) else N1 H6) := by
  refine ⟨fun i m H => m = xs.length - i ∧ i ≤ xs.length ∧ Pv i H, ⟨xs.length, rfl, Nat.zero_le _, h0⟩, ?_⟩
  rintro i m H ⟨rfl, hi, p⟩
  have q := hl i H hi p
  by_cases lt : i < xs.length
  · refine .inr ⟨⟨xs, xs[i], q, by simp [lt]⟩, Pv (i + 1), fun H' q => ⟨xs.length - (i + 1), by omega, rfl, lt, q⟩, ?_⟩
    rintro v H' ⟨rfl, ev⟩
    exact hs i v _ (ev xs q) p
  · have e : i = xs.length := by omega
    subst e
    exact .inl ⟨⟨xs, q, Nat.le_refl _⟩, hd H p⟩
theorem place_in {L : List Cl} {x : Int} (h : x ∈ L.map (·.1)) : (placeF L x).isSome := by
  obtain ⟨c, hc, e⟩ := List.mem_map.mp h
  obtain ⟨i, gi⟩ := List.getElem?_of_mem hc
  unfold placeF
  rw [List.find?_isSome]
  refine ⟨i, by simpa using (List.getElem?_eq_some_iff.mp gi).1, ?_⟩
  rw [gi, ← e]
  simp
theorem cross_len (A B : List Cl) (rs : List Int) : ∀ l : List Int, (l.flatMap (crossR A B rs)).length ≤ l.length * rs.length
  | [] => Nat.zero_le _
  | x :: l => by
    have ih := cross_len A B rs l
    have h : (crossR A B rs x).length ≤ rs.length := by
      unfold crossR
      rw [List.length_map]
      exact List.length_filter_le _ _
    rw [List.flatMap_cons, List.length_append, List.length_cons, Nat.succ_mul]
    omega
section
variable {P : Program} {w : World} {K : PySem.W.Frag} {mg : Str → Option Value} {base : Heap}
theorem scCrp : FnScope ["first", "second", "words", "before", "after", "rooms", "x", "y"] ["first", "second"] (defScope sCrp) := ⟨rfl, rfl, rfl, by decide +kernel, rfl, by decide +kernel, by decide +kernel⟩
def spCrp : Sp := fun vs H Q _ => ∃ (a b : Addr) (us ws : List V) (A B : List Cl) (r : Nat), vs = [.ref a, .ref b] ∧ H a = some (.lst us) ∧ LG H us A ∧ A.length ≤ 1000 ∧ H b = some (.lst ws) ∧ LG H ws B ∧ B.length ≤ 1000 ∧ InR r A ∧ r ≤ 12 ∧ (∀ c ∈ A, (placeF B c.1).isSome) ∧
  ∀ (rs : List Int) (zs : List V) (t : Addr) (H' : Hp), rs.Pairwise (· < ·) → (∀ x, x ∈ rs ↔ x ∈ A.map (·.1)) → Same H H' → H t = none → H' t = some (.lst zs) → PL H' zs (crossF A B rs) → Q (.ref t) H'
theorem ok_crp {f fL fA : Addr} {fd fdL fdA : FuncData} (F : Fun K "crossed_pairs" "crossed_pairs" sCrp f fd) (T : Bi mg) (nd : mg "dict" = none) (d_last_calls : Df P w K mg base "last_calls" ["log"] 1 spLast fA fdA) (d_last_places : Df P w K mg base "last_places" ["log"] 1 spLp fL fdL) : FnOk P w K mg base CX0 2 f fd ["first", "second"] spCrp := by
  refine F.ok scCrp (fun vs H Q E h => ?_) (fun cdv A0 outer s H vs Q E hr h => ?_)
  · obtain ⟨a, b, us, ws, A, B, r, rfl, _⟩ := h
    rfl
  · obtain ⟨a, b, us, ws, A, B, r, rfl, ha, la, al, hb, lb, bl, inr, r12, calls, ret⟩ := h
    refine ⟨_, (pss_cons (ps_set (i := 2) scCrp.nd rfl (Or.inr rfl) (pe_callTy (call_dictP rfl) (by rfl) nd (by decide +kernel) (pa_cons (pe_call d_last_calls.ok (hr.mono (by decide)) (by rfl) d_last_calls.at_ d_last_calls.kp d_last_calls.b .nil pass0 (pa_cons (pv 0) pa_nil)) pa_nil)))
      (pss_cons (ps_set (i := 3) scCrp.nd rfl (Or.inr rfl) (pe_call d_last_places.ok (hr.mono (by decide)) (by rfl) d_last_places.at_ d_last_places.kp d_last_places.b .nil pass0 (pa_cons (pv 0) pa_nil)))
      (pss_cons (ps_set (i := 4) scCrp.nd rfl (Or.inr rfl) (pe_call d_last_places.ok (hr.mono (by decide)) (by rfl) d_last_places.at_ d_last_places.kp d_last_places.b .nil pass0 (pa_cons (pv 1) pa_nil)))
      (pss_cons (ps_set (i := 5) scCrp.nd rfl (Or.inr rfl) (pe_callB (call_sortedDI rfl) (by rfl) T.sorted (by decide +kernel) (pa_cons (pv 2) pa_nil)))
      (pss_one (ps_ret (pe_lc2 (own := [("x", 6), ("y", 7)]) (vs1 := [7]) (wi1 := iList K (tVar 5)) (te := tTup (tCons (tVar 6) (tCons (tVar 7) tNil))) (tt1 := tAnd (tTest (tOp rNe (tDGet (tVar 2) (tVar 6)) (tDGet (tVar 2) (tVar 7)))) (tAnd (tTest (tOp (rI0 fun i j => .bl (decide (j < i))) (tDGet (tVar 3) (tVar 6)) (tDGet (tVar 3) (tVar 7)))) (tTest (tOp (rI0 fun i j => .bl (decide (i < j))) (tDGet (tVar 4) (tVar 6)) (tDGet (tVar 4) (tVar 7)))))) (by rfl) scCrp.nd (pi_list (pv 5)) (blkOk_by (N := ["first", "second", "words", "before", "after", "rooms", "x", "y"]) (sc := defScope sCrp) (by decide +kernel)) (by decide) (fun _ _ _ _ _ => pg_name (i := 6) scCrp.nd rfl (Or.inl rfl)) (fun _ _ _ _ _ => pts_nil) (fun _ _ _ _ _ => (pi_list (pv 5))) (fun _ _ _ _ _ => pg_name (i := 7) scCrp.nd rfl (Or.inl rfl)) (fun _ _ _ _ _ => (pts_one (PW.pt (pw_and (pt_cmpR op_ne (pe_dget (u1 hr.units) (pv 2) (pv 6) (fun _ _ => rfl)) (pe_dget (u1 hr.units) (pv 2) (pv 7) (fun _ _ => rfl)) (nomark _)) (pw_and (pt_cmpR op_gt (pe_dget (u1 hr.units) (pv 3) (pv 6) (fun _ _ => rfl)) (pe_dget (u1 hr.units) (pv 3) (pv 7) (fun _ _ => rfl)) (nomark _)) (pw_and1 (pt_cmpR op_lt (pe_dget (u1 hr.units) (pv 4) (pv 6) (fun _ _ => rfl)) (pe_dget (u1 hr.units) (pv 4) (pv 7) (fun _ _ => rfl)) (nomark _)))))))) (fun _ _ _ _ _ => (pe_tup (pa_cons (pv 6) (pa_cons (pv 7) pa_nil))))))))))), ?_⟩
    walk_at "rd"
    refine ⟨a, us, A, rfl, ha, la, al, fun zs t H1 s1 nt ht lz => ?_⟩
    obtain ⟨ps, rfl, pr⟩ := lg_refs (K := K) lz
    have ndk : (((lastF A).map kvOf).map (·.1)).Nodup := by
      rw [List.map_map]
      show ((lastF A).map fun c => (Sum.inl c.1 : Key)).Nodup
      have := lastF_nd A
      refine List.pairwise_map.mpr (List.Pairwise.imp (fun {x y} h z => h ?_) (List.pairwise_map.mp this))
      exact Sum.inl.inj z
    have em : mergeK [] ((lastF A).map kvOf) = (lastF A).map kvOf := (merge_nd _ [] ndk fun k _ => List.not_mem_nil).trans (List.nil_append _)
    refine ⟨t, rfl, ps, SqL.of ht, _, pr, fun p np => ?_⟩
    rw [em]
    have s2 := s1.trans (same_upd (o := HO.dK ((lastF A).map kvOf)) np)
    have hp := upd_same (H := H1) (a := p) (o := HO.dK ((lastF A).map kvOf))
    generalize upd H1 p (HO.dK ((lastF A).map kvOf)) = H2 at s2 hp ⊢
    refine ⟨a, us, A, rfl, s2 _ _ ha, la.kt (KT.same s2), al, fun d1 H3 s3 n3 pd1 => ?_⟩
    have s23 := s2.trans s3
    refine ⟨b, ws, B, rfl, s23 _ _ hb, lb.kt (KT.same s23), bl, fun d2 H4 s4 n4 pd2 => ?_⟩
    have s24 := s23.trans s4
    have hp4 := s4 _ _ (s3 _ _ hp)
    obtain ⟨kv1, hd1, g1⟩ := pd1
    obtain ⟨kv2, hd2, g2⟩ := pd2
    have hd1 := s4 _ _ hd1
    have nks : ((lastF A).map (·.1)).length ≤ 12 := by
      have := ints_len (r := r) (lastF_nd A) fun x hx => by
        obtain ⟨c, hc, rfl⟩ := List.mem_map.mp ((lastF_mem A x).mp hx)
        exact inr c hc
      omega
    refine ⟨_, .inl hp4, (lastF A).map (·.1), by rw [List.map_map, List.map_map]; rfl, by omega, fun rs o pmr sor no => ?_⟩
    have memr : ∀ x, x ∈ rs ↔ x ∈ A.map (·.1) := fun x => pmr.mem_iff.trans (lastF_mem A x)
    have ndr : rs.Nodup := pmr.nodup_iff.mpr (lastF_nd A)
    have rl : rs.length ≤ 12 := by rw [pmr.length_eq]; exact nks
    have up : rs.Pairwise (· < ·) := List.Pairwise.imp₂ (fun x y h1 h2 => by have h1 : x ≤ y := h1; have h2 : x ≠ y := h2; omega) sor ndr
    have s25 := s24.trans (same_upd (o := HO.lst (rs.map V.int)) no)
    have s45 := same_upd (H := H4) (o := HO.lst (rs.map V.int)) no
    have ho := upd_same (H := H4) (a := o) (o := HO.lst (rs.map V.int))
    generalize upd H4 o (HO.lst (rs.map V.int)) = H5 at s25 s45 ho ⊢
    have hp5 := s45 _ _ hp4
    have hd1 := s45 _ _ hd1
    have hd2 := s45 _ _ hd2
    refine ⟨_, rfl, o, rfl, ⟨_, SqL.of ho⟩, fun c nc => ?_⟩
    have lm : (rs.map V.int).length = rs.length := List.length_map _
    have wS : ∀ x ∈ rs, ∃ z, wordL A x = some z := fun x hx => by
      cases e : wordL A x with
      | some z => exact ⟨z, rfl⟩
      | none => exact absurd ((memr x).mp hx) (wordL_none.mp e)
    have pA : ∀ x ∈ rs, (placeF A x).isSome := fun x hx => place_in ((memr x).mp hx)
    have pB : ∀ x ∈ rs, (placeF B x).isSome := fun x hx => by
      obtain ⟨c, hc, rfl⟩ := List.mem_map.mp ((memr x).mp hx)
      exact calls c hc
    obtain ⟨Pv, hPv⟩ : ∃ Pv : Nat → Hp → Prop, Pv = (fun i Hx => Same H5 Hx ∧ ∃ zs, Hx c = some (.lst zs) ∧ PL Hx zs ((rs.take i).flatMap (crossR A B rs))) := ⟨_, rfl⟩
    refine ⟨fun j m Hx => m = rs.length - j ∧ j ≤ rs.length ∧ Pv j Hx, ⟨_, rfl, Nat.zero_le _, by rw [hPv]; exact ⟨same_upd nc, [], upd_same, PL.nil0 _⟩⟩, ?_⟩
    rintro j mm Hx ⟨rfl, hj, pv⟩
    have pv0 := pv
    rw [hPv] at pv
    obtain ⟨sx, zs, hc, pz⟩ := pv
    by_cases lt : j < rs.length
    · refine .inr ⟨⟨rs.map V.int, .int rs[j], SqL.of (sx _ _ ho), by rw [List.getElem?_map, List.getElem?_eq_getElem lt]; rfl⟩, Pv (j + 1), fun H' q => ⟨_, by omega, rfl, lt, q⟩, ?_⟩
      rintro v H' ⟨rfl, ev⟩
      have e2 := ev _ (SqL.of (sx _ _ ho))
      rw [List.getElem?_map, List.getElem?_eq_getElem lt] at e2
      have e3 := Option.some.inj e2
      subst e3
      have mx : rs[j] ∈ rs := List.getElem_mem lt
      have tk : (rs.take (j + 1)).flatMap (crossR A B rs) = (rs.take j).flatMap (crossR A B rs) ++ crossR A B rs rs[j] := by
        rw [List.take_add_one, List.getElem?_eq_getElem lt, List.flatMap_append]
        congr 1
        show crossR A B rs rs[j] ++ [] = _
        rw [List.append_nil]
      have nxt : ∀ Hx zs, Same H5 Hx → Hx c = some (.lst zs) → PL Hx zs ((rs.take j).flatMap (crossR A B rs) ++ crossR A B rs rs[j]) → Pv (j + 1) Hx := fun Hx zs h1 h2 h3 => by
        rw [hPv]
        exact ⟨h1, zs, h2, by rw [tk]; exact h3⟩
      have dlen : ((rs.take j).flatMap (crossR A B rs)).length ≤ 144 := by
        have h1 := cross_len A B rs (rs.take j)
        have h2 : (rs.take j).length ≤ 12 := by rw [List.length_take]; omega
        exact Nat.le_trans h1 (Nat.mul_le_mul h2 rl)
      generalize rs[j] = x at mx nxt ⊢
      generalize (rs.take j).flatMap (crossR A B rs) = done at pz nxt dlen
      clear tk ev e2
      obtain ⟨Pw, hPw⟩ : ∃ Pw : Nat → Hp → Prop, Pw = (fun k Hy => Same H5 Hy ∧ ∃ zs, Hy c = some (.lst zs) ∧ PL Hy zs (done ++ ((rs.take k).filter fun y => crossB A B x y).map fun y => (x, y))) := ⟨_, rfl⟩
      refine ⟨rfl, iteT (B := True) ?_⟩
      refine ⟨_, rfl, o, rfl, ⟨_, SqL.of (sx _ _ ho)⟩, in_list (K := K) (a := o) (xs := rs.map V.int) Pw (by rw [hPw]; exact ⟨sx, zs, hc, by rw [List.take_zero]; simpa using pz⟩) (fun k Hy _ pw => by rw [hPw] at pw; exact SqL.of (pw.1 _ _ ho)) (fun k v Hy gv pw => ?_) (fun Hy pw => ?_)⟩
      · rw [hPw] at pw
        obtain ⟨sy, ws', hc2, pz2⟩ := pw
        rw [List.getElem?_map] at gv
        obtain ⟨y, gy, rfl⟩ : ∃ y, rs[k]? = some y ∧ v = V.int y := by
          cases e : rs[k]? with
          | none => rw [e] at gv; cases gv
          | some y => rw [e] at gv; exact ⟨y, rfl, (Option.some.inj gv).symm⟩
        have my : y ∈ rs := List.mem_of_getElem? gy
        simp only [wipe]
        unfold tDGet
        walk_at "rd"
        obtain ⟨wx, ewx⟩ := wS x mx
        obtain ⟨wy, ewy⟩ := wS y my
        have dW : ∀ (z : Int) (q : Str), wordL A z = some q → DGet Hy p (.int z) (some (.str q)) := fun z q e => by
          have h := DGet.k (k := Sum.inl z) (sy _ _ hp5)
          rw [lastF_val, e] at h
          exact h
        have dA : ∀ z ∈ rs, DGet Hy d1 (.int z) (some (.int (placeI A z))) := fun z hz => by
          rw [← place_some g1 (pA z hz)]
          exact DGet.k (k := Sum.inl z) (sy _ _ hd1)
        have dB : ∀ z ∈ rs, DGet Hy d2 (.int z) (some (.int (placeI B z))) := fun z hz => by
          rw [← place_some g2 (pB z hz)]
          exact DGet.k (k := Sum.inl z) (sy _ _ hd2)
        have step : (rs.take (k + 1)).filter (fun y => crossB A B x y) = (rs.take k).filter (fun y => crossB A B x y) ++ (if crossB A B x y = true then [y] else []) := by
          rw [List.take_add_one, gy, List.filter_append]
          congr 1
          show List.filter _ [y] = _
          by_cases h : crossB A B x y = true
          · rw [if_pos h, List.filter_cons_of_pos h, List.filter_nil]
          · rw [if_neg h, List.filter_cons_of_neg h, List.filter_nil]
        have skip : ¬ crossB A B x y = true → Pw (k + 1) Hy := fun h => by
          rw [hPw]
          refine ⟨sy, ws', hc2, ?_⟩
          rw [step, if_neg h, List.append_nil]
          exact pz2
        have cb : crossB A B x y = (decide (wx ≠ wy) && (decide (placeI A y < placeI A x) && decide (placeI B x < placeI B y))) := by
          unfold crossB
          rw [ewx, ewy]
          congr 1
          by_cases h : wx = wy
          · simp [h]
          · simp [h]
        refine ⟨_, dW x wx ewx, _, dW y wy ewy, rfl, _, rfl, ?_⟩
        by_cases cw : wx = wy
        · rw [decide_eq_true (show V.str wx = V.str wy by rw [cw]), if_neg (by decide), if_neg (show ¬ False from id)]
          exact skip (by rw [cb, decide_eq_false (fun z => z cw)]; simp)
        rw [decide_eq_false (show ¬ V.str wx = V.str wy from fun z => cw (V.str.inj z)), if_pos (show (!false) = true from rfl)]
        refine ⟨_, dA x mx, _, dA y my, _, rfl, _, rfl, ?_⟩
        by_cases ca : placeI A y < placeI A x
        rotate_left
        · rw [if_neg ca, if_neg (show ¬ False from id)]
          exact skip (by rw [cb, decide_eq_false ca]; simp)
        rw [if_pos ca]
        refine ⟨_, dB x mx, _, dB y my, _, rfl, _, rfl, ?_⟩
        by_cases cc : placeI B x < placeI B y
        rotate_left
        · rw [if_neg cc]
          exact skip (by rw [cb, decide_eq_false cc]; simp)
        rw [if_pos cc]
        have yes : crossB A B x y = true := by rw [cb, decide_eq_true (show wx ≠ wy from cw), decide_eq_true ca, decide_eq_true cc]; rfl
        refine ⟨by decide, fun t nt => ?_⟩
        have nct : c ≠ t := ne_of_none hc2 nt
        have wl : ws'.length ≤ 1000 := by
          rw [pz2.len, List.length_append, List.length_map]
          have h1 := List.length_filter_le (fun y => crossB A B x y) (rs.take k)
          rw [List.length_take] at h1
          omega
        refine ⟨ws', by rw [upd_ne nct]; exact hc2, len_big (by omega), ?_⟩
        rw [hPw]
        refine ⟨same_ch (sy.trans (same_upd nt)) nc, ws' ++ [.ref t], upd_same, ?_⟩
        rw [step, if_pos yes, List.map_append, ← List.append_assoc]
        refine PL.snoc ((pz2.kt (KT.new nt)).kt (KT.lst (by rw [upd_ne nct]; exact hc2))) ⟨t, rfl, ?_⟩
        rw [upd_ne nct.symm, upd_same]
      · rw [hPw] at pw
        obtain ⟨sy, ws', hc2, pz2⟩ := pw
        rw [lm, List.take_length] at pz2
        exact nxt Hy ws' sy hc2 pz2
    · have e : j = rs.length := by omega
      subst e
      rw [List.take_length] at pz
      refine .inl ⟨⟨_, SqL.of (sx _ _ ho), by rw [lm]; exact Nat.le_refl _⟩, ?_⟩
      exact ret rs zs c Hx up memr (s25.trans sx) (s25.free nc) hc pz
end

/-! ### what many laws need: the same data, a house made -/
theorem same_ok {n : Nat} {H : Hp} {x y : V} {Q : VK} {E : XK} (h : Sm H n x y) (q : Q (.bl true) H) : spSame n [x, y] H Q E := ⟨x, y, rfl, h, q⟩
theorem paired_flat {H : Hp} {n : Nat} {us : List V} (h : ∀ x ∈ us, flat4 x = true) : Paired (Sm H n) us us := by
  induction us with
  | nil => exact Paired.nil
  | cons a l ih => exact Paired.cons (Sm.flat (h a List.mem_cons_self)) (ih fun x hx => h x (List.mem_cons_of_mem _ hx))
theorem sm_flats {H : Hp} {x y : Addr} {us : List V} (hx : H x = some (.lst us)) (hy : H y = some (.lst us)) (h : ∀ x ∈ us, flat4 x = true) (hl : us.length ≤ 100000) (n : Nat) : Sm H (n + 1) (.ref x) (.ref y) :=
  .inr ⟨x, y, _, _, rfl, rfl, .inl ⟨hx, hy⟩, paired_flat h, hl⟩
theorem sm_flatsT {H : Hp} {x y : Addr} {us : List V} (hx : H x = some (.tup us)) (hy : H y = some (.tup us)) (h : ∀ x ∈ us, flat4 x = true) (hl : us.length ≤ 100000) (n : Nat) : Sm H (n + 1) (.ref x) (.ref y) :=
  .inr ⟨x, y, _, _, rfl, rfl, .inr ⟨hx, hy⟩, paired_flat h, hl⟩
theorem flat_intsV (l : List Int) : ∀ x ∈ l.map V.int, flat4 x = true := fun x hx => by
  obtain ⟨i, _, rfl⟩ := List.mem_map.mp hx
  rfl
theorem sm_call {H : Hp} {u v : V} {d : Cl} (hu : IsC H u d) (hv : IsC H v d) (n : Nat) : Sm H (n + 1) u v := by
  obtain ⟨t, rfl, e1⟩ := hu
  obtain ⟨t', rfl, e2⟩ := hv
  exact .inr ⟨t, t', _, _, rfl, rfl, .inr ⟨e1, e2⟩, Paired.cons (Sm.flat rfl) (Paired.cons (Sm.flat rfl) Paired.nil), by show 2 ≤ 100000; decide⟩
theorem sm_logs {H : Hp} {x y : Addr} {us vs : List V} {D : List Cl} (hx : H x = some (.lst us)) (hy : H y = some (.lst vs)) (pu : LG H us D) (pv : LG H vs D) (hl : D.length ≤ 100000) (n : Nat) : Sm H (n + 2) (.ref x) (.ref y) := by
  refine .inr ⟨x, y, _, _, rfl, rfl, .inl ⟨hx, hy⟩, ?_, by rw [pu.len]; exact hl⟩
  clear hx hy hl
  induction pu generalizing vs with
  | nil => cases pv; exact Paired.nil
  | cons r _ ih => cases pv with | cons r2 t2 => exact Paired.cons (sm_call r r2 n) (ih t2)
theorem sm_pair {H : Hp} {u v : V} {d : Pr} (hu : IsP H u d) (hv : IsP H v d) (n : Nat) : Sm H (n + 1) u v := by
  obtain ⟨t, rfl, e1⟩ := hu
  obtain ⟨t', rfl, e2⟩ := hv
  exact .inr ⟨t, t', _, _, rfl, rfl, .inr ⟨e1, e2⟩, Paired.cons (Sm.flat rfl) (Paired.cons (Sm.flat rfl) Paired.nil), by show 2 ≤ 100000; decide⟩
theorem sm_pairs {H : Hp} {x y : Addr} {us vs : List V} {D : List Pr} (hx : H x = some (.lst us)) (hy : H y = some (.lst vs)) (pu : PL H us D) (pv : PL H vs D) (hl : us.length ≤ 100000) (n : Nat) : Sm H (n + 2) (.ref x) (.ref y) := by
  refine .inr ⟨x, y, _, _, rfl, rfl, .inl ⟨hx, hy⟩, ?_, hl⟩
  clear hx hy hl
  induction pu generalizing vs with
  | nil => cases pv; exact Paired.nil
  | cons r _ ih => cases pv with | cons r2 t2 => exact Paired.cons (sm_pair r r2 n) (ih t2)
theorem mm2_same {r : Nat} {D : List Pr} (h : Drs r D) : D.map mm2 = D := by
  refine (List.map_congr_left fun d hd => ?_).trans (List.map_id _)
  have := (h.ok d hd).2.1
  unfold mm2
  rw [if_neg (by omega), if_pos (by omega)]
  rfl
theorem use_init {C x dx l : Addr} {r : Nat} {us : List V} {D G : List Pr} {H : Hp} {Q : VK} {E : XK} (nx : H x = none) (ndx : H dx = none) (hl : H l = some (.lst us)) (pl : PL H us D) (pm : (D.map mm2).Perm G) (drs : Drs r G) (r1 : 1 ≤ r) (r12 : r ≤ 12)
    (q : ∀ own H2, HouseAt C H2 x r G own → Same H H2 → (∀ b ∈ own, H b = none) → Q .non H2) : spHinit C [.ref x, .int r, .ref l] (upd (upd H dx (.own x)) x (.ins C dx [])) Q E := by
  have s0 : Same H (upd (upd H dx (.own x)) x (.ins C dx [])) := fun b o e => by
    rw [upd_ne (ne_of_none e nx), upd_ne (ne_of_none e ndx)]
    exact e
  refine ⟨x, dx, l, r, us, D, D.map mm2, rfl, upd_same, s0 _ _ hl, pl.kt (KT.same s0), rfl, pm.nodup_iff.mpr drs.asc.nodup, fun d hd => drs.ok d (pm.mem_iff.mp hd), r1, r12, fun D' own H' mem hh keep free => ?_⟩
  have e : D' = G := asc_uniq hh.ok.asc drs.asc fun d => (mem d).trans pm.mem_iff
  subst e
  refine q own H' hh (fun b o e => keep b o (s0 b o e) (ne_of_none e nx)) fun b hb => ?_
  by_cases e : b = x
  · rw [e]
    exact nx
  · exact s0.free (free b hb e)
/-- a method of the class at C that keeps a promise -/
structure Md (P : Program) (w : World) (K : PySem.W.Frag) (mg : Str → Option Value) (base : Heap) (C : Addr) (x : Str) (ps : List Str) (k : Nat) (sp : Sp) (f : Addr) (fd : FuncData) : Prop where
  m : Meth K C x f
  b : Binds K fd ps []
  ok : FnOk P w K mg base CX0 k f fd ps sp
theorem atI_neg {xs : List V} {j : Nat} {v : V} {z : Int} (e : z = -(1 + (j : Int))) (hj : j < xs.length) (g : xs[xs.length - 1 - j]? = some v) : atI xs z = some v := by
  unfold atI
  have e2 : ixN xs.length z = some (xs.length - 1 - j) := by
    unfold ixN
    rw [if_neg (by omega), if_pos (by omega)]
    congr 1
    omega
  rw [e2]
  exact g
theorem paired_append {α β : Type} {F : α → β → Prop} {a c : List α} {b d : List β} (h : Paired F a b) (k : Paired F c d) : Paired F (a ++ c) (b ++ d) := by
  induction h with
  | nil => exact k
  | cons r _ ih => exact Paired.cons r ih

abbrev sLwd : Stmt := topS 23
abbrev sLws : Stmt := topS 0
abbrev sLlg : Stmt := topS 28
section
variable {P : Program} {w : World} {K : PySem.W.Frag} {mg : Str → Option Value} {base : Heap}
theorem scLlg : FnScope ["numbers", "at", "many", "rooms", "words", "log", "k", "room"] ["numbers", "at", "many", "rooms", "words"] (defScope sLlg) := ⟨rfl, rfl, rfl, by decide +kernel, rfl, by decide +kernel, by decide +kernel⟩
def spLlg (K : PySem.W.Frag) : Sp := fun vs H Q _ => ∃ (a b : Addr) (ns : List Int) (at_ m r : Nat) (Z : List Str), vs = [.ref a, .int at_, .int m, .int r, .ref b] ∧ SqL K H a (ns.map V.int) ∧ at_ + 2 * m ≤ ns.length ∧ m ≤ 1000 ∧ 1 ≤ r ∧ H b = some (.lst (Z.map V.str)) ∧ 1 ≤ Z.length ∧ (∀ z ∈ Z, wk 17 z) ∧
  ∀ L ws p H', L.length = m → InR r L → (∀ c ∈ L, wk 17 c.2) → Same H H' → H p = none → H' p = some (.lst ws) → LG H' ws L → Q (.ref p) H'
theorem ok_llg {f : Addr} {fd : FuncData} (F : Fun K "_law_log" "_law_log" sLlg f fd) (T : Bi mg) : FnOk P w K mg base CX0 1 f fd ["numbers", "at", "many", "rooms", "words"] (spLlg K) := by
  refine F.ok scLlg (fun vs H Q E h => ?_) (fun cdv A outer s H vs Q E hr h => ?_)
  · obtain ⟨a, b, ns, at_, m, r, Z, rfl, _⟩ := h
    rfl
  · obtain ⟨a, b, ns, at_, m, r, Z, rfl, hS, hn, hm, r1, hb, z1, zw, q⟩ := h
    refine ⟨_, (pss_cons (ps_set (i := 5) scLlg.nd rfl (Or.inl rfl) (pe_lst pa_nil))
      (pss_cons (ps_for PassesOwn.never rfl (pi_range1 (by rfl) T.range (pa_cons (pv 2) pa_nil)) (pg_name (i := 6) scLlg.nd rfl (Or.inl rfl))
      (pss_cons (ps_set (i := 7) scLlg.nd rfl (Or.inl rfl) (pe_op op_mod (pe_callTy cr_intI (by rfl) T.int (by decide +kernel) (pa_cons (pe_ix ix_list (pv 0) (pe_op op_add (pv 1) (pe_op op_mul pe_int (pv 6))) (fun _ _ => rfl)) pa_nil)) (pv 3)))
        (pss_one (ps_expr (pe_bm PySem.F.plainAttrs_list PySem.F.slot_list_append PySem.F.type_list_append mt_append (pv 5) (pa_cons (pe_tup (pa_cons (pv 7) (pa_cons (pe_ix ix_list (pv 4) (pe_op op_mod (pe_callTy cr_intI (by rfl) T.int (by decide +kernel) (pa_cons (pe_ix ix_list (pv 0) (pe_op op_add (pe_op op_add (pv 1) (pe_op op_mul pe_int (pv 6))) pe_int) (fun _ _ => rfl)) pa_nil)) (pe_callB call_len_seq (by rfl) T.len (by decide +kernel) (pa_cons (pv 4) pa_nil))) (fun _ _ => rfl)) pa_nil))) pa_nil))))))
      (pss_one (ps_ret (pv 5))))), ?_⟩
    walk_at "rd"
    have gn : ∀ (j : Nat), j < ns.length → ∃ x, (ns.map V.int)[j]? = some (.int x) := fun j hj => ⟨ns[j], by rw [List.getElem?_map, List.getElem?_eq_getElem hj]; rfl⟩
    refine ⟨by decide, fun p np => ?_⟩
    refine for_iterW ?_
    walk_at "rd"
    obtain ⟨Pv, hPv⟩ : ∃ Pv : Nat → L2.St → Hp → Prop, Pv = (fun i σ H' => ∃ (ws : List V) (L : List Cl) (v5 v6 : Option V), σ = [some (.ref a), some (.int at_), some (.int m), some (.int r), some (.ref b), some (.ref p), v5, v6] ∧ Same H H' ∧ H' p = some (.lst ws) ∧ LG H' ws L ∧ L.length = i ∧ InR r L ∧ ∀ c ∈ L, wk 17 c.2) := ⟨_, rfl⟩
    refine ⟨by omega, by omega, for_range (lo := 0) (n := (m : Int).toNat) Pv (by rw [hPv]; exact ⟨[], [], none, none, rfl, same_upd np, upd_same, LG.nil0 _, rfl, (fun c hc => by cases hc), fun c hc => by cases hc⟩) (fun i σ H' hi pv => ?_) (fun σ H' pv => ?_)⟩
    rotate_left
    · rw [hPv] at pv
      obtain ⟨ws, L, v5, v6, rfl, sm, hp, lw, lL, inr, wks⟩ := pv
      walk_at "rd"
      exact q L ws p H' (by omega) inr wks sm np hp lw
    rw [hPv] at pv
    obtain ⟨ws, L, v5, v6, rfl, sm, hp, lw, lL, inr, wks⟩ := pv
    have hS' := sm.seq hS
    have hb' := sm _ _ hb
    obtain ⟨x0, g0⟩ := gn (at_ + 2 * i) (by omega)
    obtain ⟨x1, g1⟩ := gn (at_ + 2 * i + 1) (by omega)
    have r0 := Int.emod_nonneg x0 (show (r : Int) ≠ 0 by omega)
    have r2 := Int.emod_lt_of_pos x0 (show (0 : Int) < r by omega)
    have p0 := Int.emod_nonneg x1 (show (Z.length : Int) ≠ 0 by omega)
    have p1 := Int.emod_lt_of_pos x1 (show (0 : Int) < (Z.length : Int) by omega)
    obtain ⟨j, ej⟩ : ∃ j : Nat, x1 % (Z.length : Int) = j := ⟨(x1 % (Z.length : Int)).toNat, by omega⟩
    obtain ⟨z, gz, zk⟩ : ∃ z, (Z.map V.str)[j]? = some (.str z) ∧ wk 17 z := ⟨Z[j]'(by omega), by rw [List.getElem?_map, List.getElem?_eq_getElem (by omega)]; rfl, zw _ (List.getElem_mem _)⟩
    have wl : ws.length ≤ 1000 := by rw [lw.len]; omega
    walk_at "rd"
    refine ⟨.inl (by decide), _, hS', _, at_of (j := at_ + 2 * i) (by omega) g0, x0, rfl, by omega, .inl ⟨rfl, _, SqL.of hp⟩, .inl (by decide), _, hS', _, at_of (j := at_ + 2 * i + 1) (by omega) g1, x1, rfl, _, .inl (SqL.of hb'), by rw [List.length_map]; omega, _, SqL.of hb', .str z, by rw [List.length_map, ej]; exact atI_nat gz, by decide, fun t nt => ?_⟩
    have st := same_upd (o := HO.tup [V.int (x0 % (r : Int)), V.str z]) nt
    have ht := upd_same (H := H') (a := t) (o := HO.tup [V.int (x0 % (r : Int)), V.str z])
    generalize upd H' t (HO.tup [V.int (x0 % (r : Int)), V.str z]) = H2 at st ht ⊢
    have hp2 := st _ _ hp
    have kt : KT H2 (upd H2 p (HO.lst (ws ++ [V.ref t]))) := KT.lst hp2
    refine ⟨ws, hp2, len_big (by omega), ?_⟩
    rw [hPv]
    refine ⟨ws ++ [.ref t], L ++ [(x0 % (r : Int), z)], _, _, rfl, same_ch (sm.trans st) np, upd_same, LG.snoc ((lw.kt (KT.same st)).kt kt) ⟨t, rfl, kt _ _ ht⟩, by rw [List.length_append, lL]; rfl, fun c hc => ?_, fun c hc => ?_⟩
    · rcases List.mem_append.mp hc with h | h
      · exact inr c h
      · rw [List.mem_singleton.mp h]
        exact ⟨r0, r2⟩
    · rcases List.mem_append.mp hc with h | h
      · exact wks c h
      · rw [List.mem_singleton.mp h]
        exact zk
end

/-! ### _law_calls: a call for each cell -/
abbrev sLcs : Stmt := topS 31
theorem for_itL {wi : TI} {g : TG} {tb : TS} {D : Ends} {σ : L2.St} {H : Hp} (h : wi σ H fun J H1 => tFor (fun _ H R => R J H) g tb D σ H1) : tFor wi g tb D σ H := h
section
variable {P : Program} {w : World} {K : PySem.W.Frag} {mg : Str → Option Value} {base : Heap}
theorem scLcs : FnScope ["script", "at", "rooms", "words", "most", "log", "k", "cell"] ["script", "at", "rooms", "words", "most"] (defScope sLcs) := ⟨rfl, rfl, rfl, by decide +kernel, rfl, by decide +kernel, by decide +kernel⟩
def spLcs (K : PySem.W.Frag) : Sp := fun vs H Q _ => ∃ (a b : Addr) (ns : List Int) (at_ most r n : Nat) (Z : List Str), vs = [.ref a, .int at_, .int r, .ref b, .int most] ∧ SqL K H a (ns.map V.int) ∧ ns.length ≤ 63 ∧ at_ ≤ 1000 ∧ most ≤ 1000 ∧ 1 ≤ r ∧ H b = some (.lst (Z.map V.str)) ∧ 1 ≤ Z.length ∧ (∀ z ∈ Z, wk n z) ∧
  ∀ L ws p H', L.length ≤ most → InR r L → (∀ c ∈ L, wk n c.2) → (∀ c ∈ L, c.2 ∈ Z) → Same H H' → H p = none → H' p = some (.lst ws) → LG H' ws L → Q (.ref p) H'
theorem ok_lcs {f fC : Addr} {fd fdC : FuncData} (F : Fun K "_law_calls" "_law_calls" sLcs f fd) (T : Bi mg) (d__law_cell : Df P w K mg base "_law_cell" ["script", "k"] 1 (spCell K) fC fdC) : FnOk P w K mg base CX0 2 f fd ["script", "at", "rooms", "words", "most"] (spLcs K) := by
  refine F.ok scLcs (fun vs H Q E h => ?_) (fun cdv A outer s H vs Q E hr h => ?_)
  · obtain ⟨a, b, ns, at_, most, r, n, Z, rfl, _⟩ := h
    rfl
  · obtain ⟨a, b, ns, at_, most, r, n, Z, rfl, hS, hn, ha, hm, r1, hb, z1, zw, q⟩ := h
    refine ⟨_, (pss_cons (ps_set (i := 5) scLcs.nd rfl (Or.inl rfl) (pe_lst pa_nil))
      (pss_cons (ps_for PassesOwn.never rfl (pi_range2 (by rfl) T.range (pa_cons (pv 1) (pa_cons (pe_callB (call_min2 rfl) (by rfl) T.min (by decide +kernel) (pa_cons (pe_callB call_len_seq (by rfl) T.len (by decide +kernel) (pa_cons (pv 0) pa_nil)) (pa_cons (pe_op op_add (pv 1) (pv 4)) pa_nil))) pa_nil))) (pg_name (i := 6) scLcs.nd rfl (Or.inl rfl))
      (pss_cons (ps_set (i := 7) scLcs.nd rfl (Or.inl rfl) (pe_call d__law_cell.ok (hr.mono (by decide)) (by rfl) d__law_cell.at_ d__law_cell.kp d__law_cell.b .nil pass0 (pa_cons (pv 0) (pa_cons (pv 6) pa_nil))))
        (pss_one (ps_expr (pe_bm PySem.F.plainAttrs_list PySem.F.slot_list_append PySem.F.type_list_append mt_append (pv 5) (pa_cons (pe_tup (pa_cons (pe_op op_mod (pe_callTy cr_intI (by rfl) T.int (by decide +kernel) (pa_cons (pv 7) pa_nil)) (pv 2)) (pa_cons (pe_ix ix_list (pv 3) (pe_op op_mod (pe_callTy cr_intI (by rfl) T.int (by decide +kernel) (pa_cons (pe_op op_fdiv (pv 7) pe_int) pa_nil)) (pe_callB call_len_seq (by rfl) T.len (by decide +kernel) (pa_cons (pv 3) pa_nil))) (fun _ _ => rfl)) pa_nil))) pa_nil))))))
      (pss_one (ps_ret (pv 5))))), ?_⟩
    walk_at "rd"
    refine ⟨by decide, fun p np => ?_⟩
    refine for_itL ?_
    walk_at "rd"
    have hS1 := (same_upd (o := HO.lst []) np).seq hS
    refine ⟨_, .inl hS1, ?_⟩
    obtain ⟨e, he, el⟩ : ∃ e : Int, (if (at_ : Int) + (most : Int) < (((ns.map V.int).length : Nat) : Int) then (at_ : Int) + (most : Int) else (((ns.map V.int).length : Nat) : Int)) = e ∧ 0 ≤ e ∧ e ≤ at_ + most ∧ e ≤ 63 := by
      rw [List.length_map]
      by_cases c : (at_ : Int) + most < ns.length
      · rw [if_pos c]
        exact ⟨_, rfl, by omega, by omega, by omega⟩
      · rw [if_neg c]
        exact ⟨_, rfl, by omega, by omega, by omega⟩
    rw [he]
    obtain ⟨e0, e1, e2⟩ := el
    obtain ⟨Pv, hPv⟩ : ∃ Pv : Nat → L2.St → Hp → Prop, Pv = (fun i σ H' => ∃ (ws : List V) (L : List Cl) (v6 v7 : Option V), σ = [some (.ref a), some (.int at_), some (.int r), some (.ref b), some (.int most), some (.ref p), v6, v7] ∧ Same H H' ∧ H' p = some (.lst ws) ∧ LG H' ws L ∧ L.length = i ∧ InR r L ∧ (∀ c ∈ L, wk n c.2) ∧ ∀ c ∈ L, c.2 ∈ Z) := ⟨_, rfl⟩
    refine ⟨by omega, by omega, by omega, by omega, for_range (lo := (at_ : Int)) (n := (e - (at_ : Int)).toNat) Pv (by rw [hPv]; exact ⟨[], [], none, none, rfl, same_upd np, upd_same, LG.nil0 _, rfl, (fun c hc => by cases hc), (fun c hc => by cases hc), fun c hc => by cases hc⟩) (fun i σ H' hi pv => ?_) (fun σ H' pv => ?_)⟩
    rotate_left
    · rw [hPv] at pv
      obtain ⟨ws, L, v6, v7, rfl, sm, hp, lw, lL, inr, wks, mz⟩ := pv
      walk_at "rd"
      exact q L ws p H' (by omega) inr wks mz sm np hp lw
    rw [hPv] at pv
    obtain ⟨ws, L, v6, v7, rfl, sm, hp, lw, lL, inr, wks, mz⟩ := pv
    have hS' := sm.seq hS
    have hb' := sm _ _ hb
    rw [show ((at_ : Int) + (i : Int)) = ((at_ + i : Nat) : Int) by omega]
    walk_at "rd"
    refine ⟨a, ns, at_ + i, rfl, hS', fun x0 _ => ?_⟩
    have r0 := Int.emod_nonneg x0 (show (r : Int) ≠ 0 by omega)
    have r2 := Int.emod_lt_of_pos x0 (show (0 : Int) < r by omega)
    have p0 := Int.emod_nonneg (x0 / 13) (show (Z.length : Int) ≠ 0 by omega)
    have p1 := Int.emod_lt_of_pos (x0 / 13) (show (0 : Int) < (Z.length : Int) by omega)
    obtain ⟨j, ej⟩ : ∃ j : Nat, x0 / 13 % (Z.length : Int) = j := ⟨(x0 / 13 % (Z.length : Int)).toNat, by omega⟩
    obtain ⟨z, gz, zk, zm⟩ : ∃ z, (Z.map V.str)[j]? = some (.str z) ∧ wk n z ∧ z ∈ Z := ⟨Z[j]'(by omega), by rw [List.getElem?_map, List.getElem?_eq_getElem (by omega)]; rfl, zw _ (List.getElem_mem _), List.getElem_mem _⟩
    have wl : ws.length ≤ 1063 := by rw [lw.len]; omega
    refine ⟨.inl ⟨rfl, _, SqL.of hp⟩, x0, rfl, by omega, x0, rfl, (by unfold CDiv; first | exact .inr (by decide) | decide | omega), _, .inl (SqL.of hb'), by rw [List.length_map]; omega, _, SqL.of hb', .str z, by rw [List.length_map, ej]; exact atI_nat gz, by decide, fun t nt => ?_⟩
    have st := same_upd (o := HO.tup [V.int (x0 % (r : Int)), V.str z]) nt
    have ht := upd_same (H := H') (a := t) (o := HO.tup [V.int (x0 % (r : Int)), V.str z])
    generalize upd H' t (HO.tup [V.int (x0 % (r : Int)), V.str z]) = H2 at st ht ⊢
    have hp2 := st _ _ hp
    have kt : KT H2 (upd H2 p (HO.lst (ws ++ [V.ref t]))) := KT.lst hp2
    refine ⟨ws, hp2, len_big (by omega), ?_⟩
    rw [hPv]
    refine ⟨ws ++ [.ref t], L ++ [(x0 % (r : Int), z)], _, _, rfl, same_ch (sm.trans st) np, upd_same, LG.snoc ((lw.kt (KT.same st)).kt kt) ⟨t, rfl, kt _ _ ht⟩, by rw [List.length_append, lL]; rfl, fun c hc => ?_, fun c hc => ?_, fun c hc => ?_⟩
    · rcases List.mem_append.mp hc with h | h
      · exact inr c h
      · rw [List.mem_singleton.mp h]
        exact ⟨r0, r2⟩
    · rcases List.mem_append.mp hc with h | h
      · exact wks c h
      · rw [List.mem_singleton.mp h]
        exact zk
    · rcases List.mem_append.mp hc with h | h
      · exact mz c h
      · rw [List.mem_singleton.mp h]
        exact zm
end

/-! ### a block cut into stretches -/
theorem sq1 {a1 b : TS} {D : Ends} {σ : L2.St} {H : Hp} (h : ∀ N : L2.St → Hp → Prop, (∀ σ' H', b D σ' H' → N σ' H') → a1 { D with nx := N } σ H) : (tSeq a1 b) D σ H := h (b D) fun _ _ z => z
theorem sq2 {a1 a2 b : TS} {D : Ends} {σ : L2.St} {H : Hp} (h : ∀ N : L2.St → Hp → Prop, (∀ σ' H', b D σ' H' → N σ' H') → (tSeq a1 a2) { D with nx := N } σ H) : (tSeq a1 (tSeq a2 b)) D σ H := h (b D) fun _ _ z => z
theorem sq3 {a1 a2 a3 b : TS} {D : Ends} {σ : L2.St} {H : Hp} (h : ∀ N : L2.St → Hp → Prop, (∀ σ' H', b D σ' H' → N σ' H') → (tSeq a1 (tSeq a2 a3)) { D with nx := N } σ H) : (tSeq a1 (tSeq a2 (tSeq a3 b))) D σ H := h (b D) fun _ _ z => z
theorem sq4 {a1 a2 a3 a4 b : TS} {D : Ends} {σ : L2.St} {H : Hp} (h : ∀ N : L2.St → Hp → Prop, (∀ σ' H', b D σ' H' → N σ' H') → (tSeq a1 (tSeq a2 (tSeq a3 a4))) { D with nx := N } σ H) : (tSeq a1 (tSeq a2 (tSeq a3 (tSeq a4 b)))) D σ H := h (b D) fun _ _ z => z
theorem sq5 {a1 a2 a3 a4 a5 b : TS} {D : Ends} {σ : L2.St} {H : Hp} (h : ∀ N : L2.St → Hp → Prop, (∀ σ' H', b D σ' H' → N σ' H') → (tSeq a1 (tSeq a2 (tSeq a3 (tSeq a4 a5)))) { D with nx := N } σ H) : (tSeq a1 (tSeq a2 (tSeq a3 (tSeq a4 (tSeq a5 b))))) D σ H := h (b D) fun _ _ z => z
theorem sq6 {a1 a2 a3 a4 a5 a6 b : TS} {D : Ends} {σ : L2.St} {H : Hp} (h : ∀ N : L2.St → Hp → Prop, (∀ σ' H', b D σ' H' → N σ' H') → (tSeq a1 (tSeq a2 (tSeq a3 (tSeq a4 (tSeq a5 a6))))) { D with nx := N } σ H) : (tSeq a1 (tSeq a2 (tSeq a3 (tSeq a4 (tSeq a5 (tSeq a6 b)))))) D σ H := h (b D) fun _ _ z => z
theorem sq7 {a1 a2 a3 a4 a5 a6 a7 b : TS} {D : Ends} {σ : L2.St} {H : Hp} (h : ∀ N : L2.St → Hp → Prop, (∀ σ' H', b D σ' H' → N σ' H') → (tSeq a1 (tSeq a2 (tSeq a3 (tSeq a4 (tSeq a5 (tSeq a6 a7)))))) { D with nx := N } σ H) : (tSeq a1 (tSeq a2 (tSeq a3 (tSeq a4 (tSeq a5 (tSeq a6 (tSeq a7 b))))))) D σ H := h (b D) fun _ _ z => z
theorem sq8 {a1 a2 a3 a4 a5 a6 a7 a8 b : TS} {D : Ends} {σ : L2.St} {H : Hp} (h : ∀ N : L2.St → Hp → Prop, (∀ σ' H', b D σ' H' → N σ' H') → (tSeq a1 (tSeq a2 (tSeq a3 (tSeq a4 (tSeq a5 (tSeq a6 (tSeq a7 a8))))))) { D with nx := N } σ H) : (tSeq a1 (tSeq a2 (tSeq a3 (tSeq a4 (tSeq a5 (tSeq a6 (tSeq a7 (tSeq a8 b)))))))) D σ H := h (b D) fun _ _ z => z
theorem sq9 {a1 a2 a3 a4 a5 a6 a7 a8 a9 b : TS} {D : Ends} {σ : L2.St} {H : Hp} (h : ∀ N : L2.St → Hp → Prop, (∀ σ' H', b D σ' H' → N σ' H') → (tSeq a1 (tSeq a2 (tSeq a3 (tSeq a4 (tSeq a5 (tSeq a6 (tSeq a7 (tSeq a8 a9)))))))) { D with nx := N } σ H) : (tSeq a1 (tSeq a2 (tSeq a3 (tSeq a4 (tSeq a5 (tSeq a6 (tSeq a7 (tSeq a8 (tSeq a9 b))))))))) D σ H := h (b D) fun _ _ z => z
theorem sq10 {a1 a2 a3 a4 a5 a6 a7 a8 a9 a10 b : TS} {D : Ends} {σ : L2.St} {H : Hp} (h : ∀ N : L2.St → Hp → Prop, (∀ σ' H', b D σ' H' → N σ' H') → (tSeq a1 (tSeq a2 (tSeq a3 (tSeq a4 (tSeq a5 (tSeq a6 (tSeq a7 (tSeq a8 (tSeq a9 a10))))))))) { D with nx := N } σ H) : (tSeq a1 (tSeq a2 (tSeq a3 (tSeq a4 (tSeq a5 (tSeq a6 (tSeq a7 (tSeq a8 (tSeq a9 (tSeq a10 b)))))))))) D σ H := h (b D) fun _ _ z => z
theorem sq11 {a1 a2 a3 a4 a5 a6 a7 a8 a9 a10 a11 b : TS} {D : Ends} {σ : L2.St} {H : Hp} (h : ∀ N : L2.St → Hp → Prop, (∀ σ' H', b D σ' H' → N σ' H') → (tSeq a1 (tSeq a2 (tSeq a3 (tSeq a4 (tSeq a5 (tSeq a6 (tSeq a7 (tSeq a8 (tSeq a9 (tSeq a10 a11)))))))))) { D with nx := N } σ H) : (tSeq a1 (tSeq a2 (tSeq a3 (tSeq a4 (tSeq a5 (tSeq a6 (tSeq a7 (tSeq a8 (tSeq a9 (tSeq a10 (tSeq a11 b))))))))))) D σ H := h (b D) fun _ _ z => z
theorem sq12 {a1 a2 a3 a4 a5 a6 a7 a8 a9 a10 a11 a12 b : TS} {D : Ends} {σ : L2.St} {H : Hp} (h : ∀ N : L2.St → Hp → Prop, (∀ σ' H', b D σ' H' → N σ' H') → (tSeq a1 (tSeq a2 (tSeq a3 (tSeq a4 (tSeq a5 (tSeq a6 (tSeq a7 (tSeq a8 (tSeq a9 (tSeq a10 (tSeq a11 a12))))))))))) { D with nx := N } σ H) : (tSeq a1 (tSeq a2 (tSeq a3 (tSeq a4 (tSeq a5 (tSeq a6 (tSeq a7 (tSeq a8 (tSeq a9 (tSeq a10 (tSeq a11 (tSeq a12 b)))))))))))) D σ H := h (b D) fun _ _ z => z
/-- sorted of a list of unlike pairs -/
theorem use_sortedP {K : PySem.W.Frag} {H : Hp} {l : Addr} {us : List V} {G : List Pr} {Q : VK} (hl : H l = some (.lst us)) (pl : PL H us G) (nd : G.Nodup) (q : ∀ (S : List Pr) (ys : List V) (p : Addr) (H' : Hp), Asc S → (∀ d, d ∈ S ↔ d ∈ G) → S.length = G.length → Same H H' → H p = none → H' p = some (.lst ys) → PL H' ys S → Q (.ref p) H') : rSortedPO K [.ref l] H Q := by
  obtain ⟨k1, k2⟩ := pl.toK
  refine ⟨l, us, kH H, rfl, SqL.of hl, k2, fun ys t so st nt => ?_⟩
  have pmy := st.perm
  have hy : ∀ v ∈ ys, IsP H v (kH H v) := fun v hv => k2 v (pmy.mem_iff.mp hv)
  have nd2 : (ys.map (kH H)).Nodup := by
    refine (pmy.map _).nodup_iff.mpr ?_
    rw [← k1]
    exact nd
  refine q (ys.map (kH H)) ys t _ (srtd_asc nd2 so) (fun d => ?_) ?_ (same_upd nt) nt upd_same ((PL.ofK hy).kt (KT.new nt))
  · rw [k1]
    exact (pmy.map _).mem_iff
  · rw [k1, List.length_map, List.length_map, pmy.length_eq]

/-! ### drawn words and logs of the laws k12 to k23 -/
abbrev sLw4 : Stmt := topS 23
abbrev sPo4 : Stmt := topS 24
abbrev sLen : Stmt := topS 29
abbrev sAny : Stmt := topS 30
section
variable {P : Program} {w : World} {K : PySem.W.Frag} {mg : Str → Option Value} {base : Heap}
theorem scLw4 : FnScope ["numbers", "at", "letters", "rest", "k", "word"] ["numbers", "at"] (defScope sLw4) := ⟨rfl, rfl, rfl, by decide +kernel, rfl, by decide +kernel, by decide +kernel⟩
def spSp2 (K : PySem.W.Frag) : Sp := fun vs H Q _ => ∃ (a : Addr) (ns : List Int) (at_ : Nat), vs = [.ref a, .int at_] ∧ SqL K H a (ns.map V.int) ∧ at_ + 4 < ns.length ∧ ∀ z : Str, wk 8 z → 1 ≤ z.length → Q (.str z) H
theorem ok_lw4 {f : Addr} {fd : FuncData} (F : Fun K "_law_word" "_law_word" sLw4 f fd) (T : Bi mg) : FnOk P w K mg base CX0 1 f fd ["numbers", "at"] (spSp2 K) := by
  refine F.ok scLw4 (fun vs H Q E h => ?_) (fun cdv A outer s H vs Q E hr h => ?_)
  · obtain ⟨a, ns, at_, rfl, _⟩ := h
    rfl
  · obtain ⟨a, ns, at_, rfl, hS, hn, q⟩ := h
    refine ⟨_, (pss_cons (ps_set (i := 2) scLw4.nd rfl (Or.inl rfl) pe_str)
      (pss_cons (ps_set (i := 3) scLw4.nd rfl (Or.inl rfl) pe_int)
      (pss_cons (ps_for PassesOwn.never rfl (pi_range1 (by rfl) T.range (pa_cons pe_int pa_nil)) (pg_name (i := 4) scLw4.nd rfl (Or.inl rfl))
      (pss_one (ps_set (i := 3) scLw4.nd rfl (Or.inl rfl) (pe_op op_add (pe_op op_mul (pv 3) pe_int) (pe_ix ix_list (pv 0) (pe_op op_add (pe_op op_add (pv 1) pe_int) (pv 4)) (fun _ _ => rfl))))))
      (pss_cons (ps_set (i := 5) scLw4.nd rfl (Or.inl rfl) pe_str)
      (pss_cons (ps_for PassesOwn.never rfl (pi_range1 (by rfl) T.range (pa_cons (pe_op op_add pe_int (pe_op op_mod (pe_callTy cr_intI (by rfl) T.int (by decide +kernel) (pa_cons (pe_ix ix_list (pv 0) (pv 1) (fun _ _ => rfl)) pa_nil)) pe_int)) pa_nil)) (pg_name (i := 4) scLw4.nd rfl (Or.inl rfl))
      (pss_cons (ps_set (i := 5) scLw4.nd rfl (Or.inl rfl) (pe_op op_add_str (pv 5) (pe_ix ix_str (pv 2) (pe_op op_mod (pe_callTy cr_intI (by rfl) T.int (by decide +kernel) (pa_cons (pv 3) pa_nil)) pe_int) (fun _ _ => rfl))))
        (pss_one (ps_set (i := 3) scLw4.nd rfl (Or.inl rfl) (pe_op op_fdiv (pv 3) pe_int)))))
      (pss_one (ps_ret (pv 5)))))))), ?_⟩
    walk_at "rd"
    have at4 : ∀ j : Nat, j ≤ 4 → ∃ x, (ns.map V.int)[at_ + j]? = some (.int x) := fun j hj => ⟨ns[at_ + j]'(by omega), by rw [List.getElem?_map, List.getElem?_eq_getElem (by omega)]; rfl⟩
    obtain ⟨x0, g0⟩ := at4 0 (by omega)
    have m0 := Int.emod_nonneg x0 (show (8 : Int) ≠ 0 by decide)
    have m1 := Int.emod_lt_of_pos x0 (show (0 : Int) < 8 by decide)
    obtain ⟨Pv, hPv⟩ : ∃ Pv : Nat → L2.St → Hp → Prop, Pv = (fun i σ H' => ∃ (rest : Int) (v4 v5 : Option V), σ = [some (.ref a), some (.int at_), some (.str (Str.ofString "abcdefghijklmnopqrstuvwxyz")), some (.int rest), v4, v5] ∧ H' = H) := ⟨_, rfl⟩
    refine ⟨_, rfl, by decide, by decide, for_range (lo := 0) (n := ((4 : Int)).toNat) Pv (by rw [hPv]; exact ⟨0, none, none, rfl, rfl⟩) (fun i σ H' hi pv => ?_) (fun σ H' pv => ?_)⟩
    · rw [hPv] at pv
      obtain ⟨rest, v4, v5, rfl, rfl⟩ := pv
      obtain ⟨x, gx⟩ := at4 (1 + i) (by have : ((4 : Int)).toNat = 4 := rfl; omega)
      walk_at "rd"
      refine ⟨.inr (by decide), _, hS, .int x, at_of (j := at_ + (1 + i)) (by omega) gx, x, rfl, ?_⟩
      rw [hPv]
      exact ⟨_, _, _, rfl, rfl⟩
    rw [hPv] at pv
    obtain ⟨rest0, v4, v5, rfl, rfl⟩ := pv
    clear hPv Pv
    walk_at "rd"
    obtain ⟨Pv, hPv⟩ : ∃ Pv : Nat → L2.St → Hp → Prop, Pv = (fun i σ Hx => ∃ (rest : Int) (z : Str) (v4 : Option V), σ = [some (.ref a), some (.int at_), some (.str (Str.ofString "abcdefghijklmnopqrstuvwxyz")), some (.int rest), v4, some (.str z)] ∧ Hx = H' ∧ z.length = i ∧ PyData.strOk z = true) := ⟨_, rfl⟩
    refine for_iterW ?_
    walk_at "rd"
    refine ⟨_, hS, .int x0, at_of (j := at_ + 0) (by omega) g0, x0, rfl, by decide, by omega, by omega, for_range (lo := 0) (n := (1 + x0 % 8).toNat) Pv (by rw [hPv]; exact ⟨rest0, _, _, rfl, rfl, by decide +kernel, by decide +kernel⟩) (fun i σ Hx hi pv => ?_) (fun σ Hx pv => ?_)⟩
    · have nxt : ∀ rest z v4, z.length = i + 1 → PyData.strOk z = true → Pv (i + 1) [some (.ref a), some (.int at_), some (.str (Str.ofString "abcdefghijklmnopqrstuvwxyz")), some (.int rest), v4, some (.str z)] H' := fun rest z v4 h h2 => by
        rw [hPv]
        exact ⟨rest, z, v4, rfl, rfl, h, h2⟩
      rw [hPv] at pv
      obtain ⟨rest, z, v4', rfl, rfl, lz, oz⟩ := pv
      have k0 := Int.emod_nonneg rest (show (26 : Int) ≠ 0 by decide)
      have k1 := Int.emod_lt_of_pos rest (show (0 : Int) < 26 by decide)
      obtain ⟨j, ej⟩ : ∃ j : Nat, rest % 26 = j := ⟨(rest % 26).toNat, by omega⟩
      obtain ⟨c, gc, c11⟩ := letters_at (j := j) (by omega)
      walk_at "rd"
      rw [ej]
      refine ⟨by decide, by decide +kernel, c, gc, ?_, ⟨by decide, by decide⟩, nxt _ _ _ ?_ (strOk_app oz (strOk_one c11))⟩
      · have e1 : (Str.mk #[c]).length = 1 := rfl
        rw [e1]
        exact Nat.le_of_lt (len_big (by omega))
      · rw [Str.length_append, lz]
        rfl
    · rw [hPv] at pv
      obtain ⟨rest, z, v4', rfl, rfl, lz, oz⟩ := pv
      walk_at "rd"
      exact q z ⟨by omega, oz⟩ (by omega)
theorem scPo4 : FnScope ["cell", "numbers", "many", "k"] ["cell"] (defScope sPo4) := ⟨rfl, rfl, rfl, by decide +kernel, rfl, by decide +kernel, by decide +kernel⟩
def spPo4 : Sp := fun vs H Q _ => ∃ (c : Int), vs = [.int c] ∧ ∀ (Z : List Str) (p : Addr) (H' : Hp), 1 ≤ Z.length → Z.length ≤ 120 → (∀ z ∈ Z, wk 8 z) → Same H H' → H p = none → H' p = some (.lst (Z.map V.str)) → Q (.ref p) H'
theorem ok_po4 {f fS fN : Addr} {fd fdS fdN : FuncData} (F : Fun K "_law_pool" "_law_pool" sPo4 f fd) (T : Bi mg) (d__law_numbers : Df P w K mg base "_law_numbers" ["cell", "count"] 1 (spNum K) fN fdN) (d__law_word : Df P w K mg base "_law_word" ["numbers", "at"] 1 (spSp2 K) fS fdS) : FnOk P w K mg base CX0 2 f fd ["cell"] spPo4 := by
  refine F.ok scPo4 (fun vs H Q E h => ?_) (fun cdv A outer s H vs Q E hr h => ?_)
  · obtain ⟨c, rfl, _⟩ := h
    rfl
  · obtain ⟨c, rfl, q⟩ := h
    refine ⟨_, (pss_cons (ps_set (i := 1) scPo4.nd rfl (Or.inr rfl) (pe_call d__law_numbers.ok (hr.mono (by decide)) (by rfl) d__law_numbers.at_ d__law_numbers.kp d__law_numbers.b .nil pass0 (pa_cons (pv 0) (pa_cons pe_int pa_nil))))
      (pss_cons (ps_set (i := 2) scPo4.nd rfl (Or.inl rfl) (pe_ix ix_list (pe_lst (pa_cons pe_int (pa_cons pe_int (pa_cons pe_int (pa_cons pe_int (pa_cons pe_int (pa_cons pe_int (pa_cons pe_int (pa_cons pe_int pa_nil))))))))) (pe_op op_mod (pe_callTy cr_intI (by rfl) T.int (by decide +kernel) (pa_cons (pe_ix ix_list (pv 1) pe_int (fun _ _ => rfl)) pa_nil)) pe_int) (fun _ _ => rfl)))
      (pss_cons (ps_if (pt_cmpR op_eqI (pe_op op_mod (pe_callTy cr_intI (by rfl) T.int (by decide +kernel) (pa_cons (pe_ix ix_list (pv 1) pe_int (fun _ _ => rfl)) pa_nil)) pe_int) pe_int (nomark _))
      (pss_one (ps_set (i := 2) scPo4.nd rfl (Or.inl rfl) (pe_op op_add pe_int (pe_op op_mod (pe_callTy cr_intI (by rfl) T.int (by decide +kernel) (pa_cons (pe_ix ix_list (pv 1) pe_int (fun _ _ => rfl)) pa_nil)) pe_int))))
      pss_nil)
      (pss_cons (ps_set (i := 1) scPo4.nd rfl (Or.inr rfl) (pe_call d__law_numbers.ok (hr.mono (by decide)) (by rfl) d__law_numbers.at_ d__law_numbers.kp d__law_numbers.b .nil pass0 (pa_cons (pv 0) (pa_cons (pe_op op_add pe_int (pe_op op_mul pe_int (pv 2))) pa_nil))))
      (pss_one (ps_ret (pe_lc (own := [("k", 3)]) (te := (tCall (spSp2 K) [] E0 (tCons (tVar 1) (tCons (tOp (rI0 fun i j => V.int (i + j)) (tC (V.int 2)) (tOp (rI CMul fun i j => V.int (i * j)) (tC (V.int 5)) (tVar 3))) tNil)))) (by rfl) scPo4.nd (pi_range1 (by rfl) T.range (pa_cons (pv 2) pa_nil)) (blkOk_by (N := ["cell", "numbers", "many", "k"]) (sc := defScope sPo4) (by decide +kernel)) (fun _ _ _ _ _ => pg_name (i := 3) scPo4.nd rfl (Or.inl rfl)) (fun _ _ _ _ _ => pts_nil) (fun _ _ _ _ _ => (pe_call d__law_word.ok (hr.mono (by decide)) (by rfl) d__law_word.at_ d__law_word.kp d__law_word.b .nil pass0 (pa_cons (pv 1) (pa_cons (pe_op op_add pe_int (pe_op op_mul pe_int (pv 3))) pa_nil))))))))))), ?_⟩
    refine sq3 fun N hN => ?_
    walk_at "rd"
    refine ⟨c, 2, rfl, by decide, fun nl ln H1 N1 s1 fn1 hln => ?_⟩
    have gN : ∀ j : Nat, j < 2 → ∃ x, (nl.map V.int)[j]? = some (.int x) := fun j hj => ⟨nl[j]'(by rw [N1.1]; exact hj), by rw [List.getElem?_map, List.getElem?_eq_getElem (by rw [N1.1]; exact hj)]; rfl⟩
    obtain ⟨n0, g0⟩ := gN 0 (by decide)
    obtain ⟨n1, g1⟩ := gN 1 (by decide)
    refine ⟨by decide, fun tb ntb => ?_⟩
    have s2 := same_upd (o := HO.lst [V.int 2, V.int 3, V.int 4, V.int 2, V.int 3, V.int 5, V.int 1, V.int 3]) ntb
    have htb := upd_same (H := H1) (a := tb) (o := HO.lst [V.int 2, V.int 3, V.int 4, V.int 2, V.int 3, V.int 5, V.int 1, V.int 3])
    generalize upd H1 tb (HO.lst [V.int 2, V.int 3, V.int 4, V.int 2, V.int 3, V.int 5, V.int 1, V.int 3]) = H2 at s2 htb ⊢
    have hln2 := s2 _ _ hln
    have s02 := s1.trans s2
    obtain ⟨j0, ej⟩ : ∃ j : Nat, n0 % 8 = j := ⟨(n0 % 8).toNat, by omega⟩
    obtain ⟨m0, gm, m1, m8⟩ : ∃ m : Nat, [V.int 2, V.int 3, V.int 4, V.int 2, V.int 3, V.int 5, V.int 1, V.int 3][j0]? = some (.int (m : Int)) ∧ 1 ≤ m ∧ m ≤ 120 := by
      have : j0 = 0 ∨ j0 = 1 ∨ j0 = 2 ∨ j0 = 3 ∨ j0 = 4 ∨ j0 = 5 ∨ j0 = 6 ∨ j0 = 7 := by omega
      rcases this with rfl | rfl | rfl | rfl | rfl | rfl | rfl | rfl
      · exact ⟨2, rfl, by decide, by decide⟩
      · exact ⟨3, rfl, by decide, by decide⟩
      · exact ⟨4, rfl, by decide, by decide⟩
      · exact ⟨2, rfl, by decide, by decide⟩
      · exact ⟨3, rfl, by decide, by decide⟩
      · exact ⟨5, rfl, by decide, by decide⟩
      · exact ⟨1, rfl, by decide, by decide⟩
      · exact ⟨3, rfl, by decide, by decide⟩
    have tail : ∀ m : Nat, 1 ≤ m → m ≤ 120 → N [some (.int c), some (.ref ln), some (.int m), none] H2 := fun m m1 m120 => by
      refine hN _ _ ?_
      clear hN N
      walk_at "rd"
      refine ⟨.inl (by decide), c, 2 + 5 * m, by rw [show (2 : Int) + 5 * (m : Int) = ((2 + 5 * m : Nat) : Int) by omega], by omega, fun nl2 ln2 H3 N2 s3 fn3 hln3 => ?_⟩
      have s03 := s02.trans s3
      refine lcW ?_
      walk_at "rd"
      refine ⟨by omega, by omega, fun p np => ?_⟩
      obtain ⟨Pw, hPw⟩ : ∃ Pw : Nat → Hp → Prop, Pw = (fun i Hx => ∃ Z : List Str, Same H3 Hx ∧ Hx p = some (.lst (Z.map V.str)) ∧ Z.length = i ∧ ∀ z ∈ Z, wk 8 z) := ⟨_, rfl⟩
      refine lc_range (lo := 0) (n := ((m : Nat) : Int).toNat) Pw (by rw [hPw]; exact ⟨[], same_upd np, upd_same, rfl, fun z hz => by cases hz⟩) (fun i Hx hi pv => ?_) (fun H4 pv => ?_)
      · rw [hPw] at pv
        obtain ⟨Z, sx, hp, lz, wz⟩ := pv
        simp only [wipe]
        walk_at "rd"
        refine ⟨.inl (by decide), ln2, nl2, 2 + 5 * i, by rw [show (2 : Int) + 5 * (0 + (i : Int)) = ((2 + 5 * i : Nat) : Int) by omega], SqL.of (sx _ _ hln3), by rw [N2.1]; omega, fun z kz lz1 => ?_⟩
        refine ⟨_, hp, len_big (by rw [List.length_map]; omega), ?_⟩
        rw [hPw]
        refine ⟨Z ++ [z], same_ch sx np, by rw [upd_same, List.map_append]; rfl, by rw [List.length_append, lz]; rfl, fun y hy => ?_⟩
        rcases List.mem_append.mp hy with h | h
        · exact wz y h
        · rw [List.mem_singleton.mp h]
          exact kz
      rw [hPw] at pv
      obtain ⟨Z, s4, hp, lz, wz⟩ := pv
      exact q Z p H4 (by omega) (by omega) wz (s03.trans s4) (s03.free np) hp
    refine ⟨ln, rfl, _, SqL.of hln2, .int n0, at_of (j := 0) rfl g0, n0, rfl, by decide, _, SqL.of htb, _, at_of ej gm, ln, rfl, _, SqL.of hln2, .int n1, at_of (j := 1) rfl g1, n1, rfl, by decide, ite2 (fun _ => ?_) (fun _ => tail m0 m1 m8)⟩
    refine ⟨ln, rfl, _, SqL.of hln2, .int n0, at_of (j := 0) rfl g0, n0, rfl, by decide, ?_⟩
    rw [show 1 + n0 % 120 = (((1 + n0 % 120).toNat : Nat) : Int) by omega]
    exact tail _ (by omega) (by omega)
theorem scLen : FnScope ["numbers", "at"] ["numbers", "at"] (defScope sLen) := ⟨rfl, rfl, rfl, by decide +kernel, rfl, by decide +kernel, by decide +kernel⟩
def spLen (K : PySem.W.Frag) : Sp := fun vs H Q _ => ∃ (a : Addr) (ns : List Int) (at_ : Nat), vs = [.ref a, .int at_] ∧ SqL K H a (ns.map V.int) ∧ at_ + 1 < ns.length ∧ ∀ n : Nat, n ≤ 60 → Q (.int n) H
theorem ok_len {f : Addr} {fd : FuncData} (F : Fun K "_law_length" "_law_length" sLen f fd) (T : Bi mg) : FnOk P w K mg base CX0 1 f fd ["numbers", "at"] (spLen K) := by
  refine F.ok scLen (fun vs H Q E h => ?_) (fun cdv A outer s H vs Q E hr h => ?_)
  · obtain ⟨a, ns, at_, rfl, _⟩ := h
    rfl
  · obtain ⟨a, ns, at_, rfl, hS, hn, q⟩ := h
    refine ⟨_, (pss_cons (ps_if (pt_cmpR op_eqI (pe_op op_mod (pe_callTy cr_intI (by rfl) T.int (by decide +kernel) (pa_cons (pe_ix ix_list (pv 0) (pe_op op_add (pv 1) pe_int) (fun _ _ => rfl)) pa_nil)) pe_int) pe_int (nomark _))
      (pss_one (ps_ret (pe_op op_mod (pe_callTy cr_intI (by rfl) T.int (by decide +kernel) (pa_cons (pe_ix ix_list (pv 0) (pv 1) (fun _ _ => rfl)) pa_nil)) pe_int)))
      pss_nil)
      (pss_one (ps_ret (pe_op op_mod (pe_callTy cr_intI (by rfl) T.int (by decide +kernel) (pa_cons (pe_ix ix_list (pv 0) (pv 1) (fun _ _ => rfl)) pa_nil)) pe_int)))), ?_⟩
    walk_at "rd"
    have gN : ∀ j : Nat, j < ns.length → ∃ x, (ns.map V.int)[j]? = some (.int x) := fun j hj => ⟨ns[j], by rw [List.getElem?_map, List.getElem?_eq_getElem hj]; rfl⟩
    obtain ⟨n0, g0⟩ := gN at_ (by omega)
    obtain ⟨n1, g1⟩ := gN (at_ + 1) (by omega)
    refine ⟨_, hS, .int n1, at_of (j := at_ + 1) (by omega) g1, n1, rfl, by decide, ite2 (fun _ => ?_) (fun _ => ?_)⟩
    · refine ⟨_, hS, .int n0, at_of (j := at_) rfl g0, n0, rfl, by decide, ?_⟩
      rw [show n0 % 61 = (((n0 % 61).toNat : Nat) : Int) by omega]
      exact q _ (by omega)
    · refine ⟨_, hS, .int n0, at_of (j := at_) rfl g0, n0, rfl, by decide, ?_⟩
      rw [show n0 % 13 = (((n0 % 13).toNat : Nat) : Int) by omega]
      exact q _ (by omega)
theorem scAny : FnScope ["cell", "rooms", "words", "many"] ["cell", "rooms", "words"] (defScope sAny) := ⟨rfl, rfl, rfl, by decide +kernel, rfl, by decide +kernel, by decide +kernel⟩
def spAny : Sp := fun vs H Q _ => ∃ (c : Int) (r : Nat) (b : Addr) (Z : List Str), vs = [.int c, .int r, .ref b] ∧ 1 ≤ r ∧ H b = some (.lst (Z.map V.str)) ∧ 1 ≤ Z.length ∧ (∀ z ∈ Z, wk 17 z) ∧
  ∀ (L : List Cl) (ws : List V) (p : Addr) (H' : Hp), L.length ≤ 60 → InR r L → (∀ c ∈ L, wk 17 c.2) → Same H H' → H p = none → H' p = some (.lst ws) → LG H' ws L → Q (.ref p) H'
theorem ok_any {f fN fL fG : Addr} {fd fdN fdL fdG : FuncData} (F : Fun K "_law_any_log" "_law_any_log" sAny f fd) (T : Bi mg) (d__law_numbers : Df P w K mg base "_law_numbers" ["cell", "count"] 1 (spNum K) fN fdN) (d__law_length : Df P w K mg base "_law_length" ["numbers", "at"] 1 (spLen K) fL fdL) (d__law_log : Df P w K mg base "_law_log" ["numbers", "at", "many", "rooms", "words"] 1 (spLlg K) fG fdG) : FnOk P w K mg base CX0 2 f fd ["cell", "rooms", "words"] spAny := by
  refine F.ok scAny (fun vs H Q E h => ?_) (fun cdv A outer s H vs Q E hr h => ?_)
  · obtain ⟨c, r, b, Z, rfl, _⟩ := h
    rfl
  · obtain ⟨c, r, b, Z, rfl, r1, hb, z1, zw, q⟩ := h
    refine ⟨_, (pss_cons (ps_set (i := 3) scAny.nd rfl (Or.inl rfl) (pe_call d__law_length.ok (hr.mono (by decide)) (by rfl) d__law_length.at_ d__law_length.kp d__law_length.b .nil pass0 (pa_cons (pe_call d__law_numbers.ok (hr.mono (by decide)) (by rfl) d__law_numbers.at_ d__law_numbers.kp d__law_numbers.b .nil pass0 (pa_cons (pv 0) (pa_cons pe_int pa_nil))) (pa_cons pe_int pa_nil))))
      (pss_one (ps_ret (pe_call d__law_log.ok (hr.mono (by decide)) (by rfl) d__law_log.at_ d__law_log.kp d__law_log.b .nil pass0 (pa_cons (pe_call d__law_numbers.ok (hr.mono (by decide)) (by rfl) d__law_numbers.at_ d__law_numbers.kp d__law_numbers.b .nil pass0 (pa_cons (pv 0) (pa_cons (pe_op op_add pe_int (pe_op op_mul pe_int (pv 3))) pa_nil))) (pa_cons pe_int (pa_cons (pv 3) (pa_cons (pv 1) (pa_cons (pv 2) pa_nil))))))))), ?_⟩
    walk_at "rd"
    refine ⟨c, 2, rfl, by decide, fun nl ln H1 N1 s1 fn1 hln => ?_⟩
    refine ⟨ln, nl, 0, rfl, SqL.of hln, by rw [N1.1]; decide, fun m m60 => ?_⟩
    refine ⟨m, rfl, .inl (by decide), c, 2 + 2 * m, by rw [show (2 : Int) + 2 * (m : Int) = ((2 + 2 * m : Nat) : Int) by omega], by omega, fun nl2 ln2 H2 N2 s2 fn2 hln2 => ?_⟩
    have s02 := s1.trans s2
    refine ⟨ln2, b, nl2, 2, m, r, Z, rfl, SqL.of hln2, by rw [N2.1]; omega, by omega, r1, s02 _ _ hb, z1, zw, fun L ws p H3 l1 inr wks s3 np hp lg => ?_⟩
    exact q L ws p H3 (by omega) inr wks (s02.trans s3) (s02.free np) hp lg
end

/-! ### comprehensions with one name, over a list or a range -/
theorem fm_step {β : Type} (sel : Nat → Option β) (i : Nat) : (List.range (i + 1)).filterMap sel = (List.range i).filterMap sel ++ (match sel i with | some b => [b] | none => []) := by
  rw [List.range_succ, List.filterMap_append]
  congr 1
  rw [List.filterMap_cons, List.filterMap_nil]
  cases sel i <;> rfl
theorem fm_len {β : Type} (sel : Nat → Option β) (i : Nat) : ((List.range i).filterMap sel).length ≤ i := by
  have := List.length_filterMap_le sel (List.range i)
  rw [List.length_range] at this
  exact this
theorem gc_list {β : Type} {K : PySem.W.Frag} {a : Addr} {xs : List V} {i : Nat} {tt : TT} {te : TE} {σ : L2.St} {H1 : Hp} {Q : VK} (rel : Hp → V → β → Prop) (up : ∀ H H' v b, rel H v b → KT H H' → rel H' v b) (sel : Nat → Option β) (ha : H1 a = some (.lst xs)) (len : xs.length ≤ 100000)
    (step : ∀ (j : Nat) (x : V) (Hx : Hp) (A : VK) (B : Hp → Prop), xs[j]? = some x → Same H1 Hx → (∀ v b Hy, sel j = some b → Same Hx Hy → rel Hy v b → A v Hy) → (∀ Hy, sel j = none → Same Hx Hy → B Hy) → tt (σ.set i (some x)) Hx fun c H3 => if c = true then te (σ.set i (some x)) H3 A else B H3)
    (q : ∀ o ys H', Same H1 H' → H1 o = none → H' o = some (.lst ys) → Paired (rel H') ys ((List.range xs.length).filterMap sel) → Q (.ref o) H') :
    tLc (fun _ H R => R (Itl K a) H) (gName i) tt te [i] σ H1 Q := by
  intro D nD
  obtain ⟨Pv, hPv⟩ : ∃ Pv : Nat → Hp → Prop, Pv = (fun j Hx => ∃ ys, Same H1 Hx ∧ Hx D = some (.lst ys) ∧ Paired (rel Hx) ys ((List.range j).filterMap sel)) := ⟨_, rfl⟩
  refine lc_list (K := K) (a := a) (xs := xs) Pv (by rw [hPv]; exact ⟨[], same_upd nD, upd_same, Paired.nil⟩) (fun j H' _ pv => by rw [hPv] at pv; obtain ⟨_, sm, _⟩ := pv; exact SqL.of (sm _ _ ha)) (fun j x H' gx pv => ?_) (fun H' pv => ?_)
  · rw [hPv] at pv
    obtain ⟨ys, sm, hD, pr⟩ := pv
    have jl := (List.getElem?_eq_some_iff.mp gx).1
    have yl : ys.length ≤ j := by rw [pr.length]; exact fm_len sel j
    have ew : (wipe σ [i]).set i (some x) = σ.set i (some x) := by show (σ.set i none).set i (some x) = _; rw [List.set_set]
    show wipe ((wipe σ [i]).set i (some x)) [i] = wipe σ [i] ∧ tt ((wipe σ [i]).set i (some x)) H' fun c H3 => if c = true then te ((wipe σ [i]).set i (some x)) H3 _ else _
    rw [ew]
    refine ⟨by show (σ.set i (some x)).set i none = σ.set i none; rw [List.set_set], ?_⟩
    refine step j x H' _ _ gx sm (fun v b Hy es sy r => ?_) (fun Hy es sy => ?_)
    · have hD2 := sy _ _ hD
      refine ⟨ys, hD2, len_big (by omega), ?_⟩
      rw [hPv]
      refine ⟨ys ++ [v], same_ch (sm.trans sy) nD, upd_same, ?_⟩
      rw [fm_step, es]
      have kt : KT Hy (upd Hy D (HO.lst (ys ++ [v]))) := KT.lst hD2
      exact Paired.snoc (Paired.mapP pr fun v b h => up _ _ _ _ (up _ _ _ _ h (KT.same sy)) kt) (up _ _ _ _ r kt)
    · rw [hPv]
      refine ⟨ys, sm.trans sy, sy _ _ hD, ?_⟩
      rw [fm_step, es, List.append_nil]
      exact Paired.mapP pr fun v b h => up _ _ _ _ h (KT.same sy)
  · rw [hPv] at pv
    obtain ⟨ys, sm, hD, pr⟩ := pv
    exact q D ys H' sm nD hD pr
theorem gc_range {β : Type} {lo : Int} {n i : Nat} {tt : TT} {te : TE} {σ : L2.St} {H1 : Hp} {Q : VK} (rel : Hp → V → β → Prop) (up : ∀ H H' v b, rel H v b → KT H H' → rel H' v b) (sel : Nat → Option β) (len : n ≤ 100000)
    (step : ∀ (j : Nat) (Hx : Hp) (A : VK) (B : Hp → Prop), j < n → Same H1 Hx → (∀ v b Hy, sel j = some b → Same Hx Hy → rel Hy v b → A v Hy) → (∀ Hy, sel j = none → Same Hx Hy → B Hy) → tt (σ.set i (some (.int (lo + (j : Nat))))) Hx fun c H3 => if c = true then te (σ.set i (some (.int (lo + (j : Nat))))) H3 A else B H3)
    (q : ∀ o ys H', Same H1 H' → H1 o = none → H' o = some (.lst ys) → Paired (rel H') ys ((List.range n).filterMap sel) → Q (.ref o) H') :
    tLc (fun _ H R => R (Itr lo n) H) (gName i) tt te [i] σ H1 Q := by
  intro D nD
  obtain ⟨Pv, hPv⟩ : ∃ Pv : Nat → Hp → Prop, Pv = (fun j Hx => ∃ ys, Same H1 Hx ∧ Hx D = some (.lst ys) ∧ Paired (rel Hx) ys ((List.range j).filterMap sel)) := ⟨_, rfl⟩
  refine lc_range (lo := lo) (n := n) Pv (by rw [hPv]; exact ⟨[], same_upd nD, upd_same, Paired.nil⟩) (fun j H' jl pv => ?_) (fun H' pv => ?_)
  · rw [hPv] at pv
    obtain ⟨ys, sm, hD, pr⟩ := pv
    have yl : ys.length ≤ j := by rw [pr.length]; exact fm_len sel j
    have ew : (wipe σ [i]).set i (some (.int (lo + (j : Nat)))) = σ.set i (some (.int (lo + (j : Nat)))) := by show (σ.set i none).set i (some (.int (lo + (j : Nat)))) = _; rw [List.set_set]
    show wipe ((wipe σ [i]).set i (some (.int (lo + (j : Nat))))) [i] = wipe σ [i] ∧ tt ((wipe σ [i]).set i (some (.int (lo + (j : Nat))))) H' fun c H3 => if c = true then te ((wipe σ [i]).set i (some (.int (lo + (j : Nat))))) H3 _ else _
    rw [ew]
    refine ⟨by show (σ.set i (some (.int (lo + (j : Nat))))).set i none = σ.set i none; rw [List.set_set], ?_⟩
    refine step j H' _ _ jl sm (fun v b Hy es sy r => ?_) (fun Hy es sy => ?_)
    · have hD2 := sy _ _ hD
      refine ⟨ys, hD2, len_big (by omega), ?_⟩
      rw [hPv]
      refine ⟨ys ++ [v], same_ch (sm.trans sy) nD, upd_same, ?_⟩
      rw [fm_step, es]
      have kt : KT Hy (upd Hy D (HO.lst (ys ++ [v]))) := KT.lst hD2
      exact Paired.snoc (Paired.mapP pr fun v b h => up _ _ _ _ (up _ _ _ _ h (KT.same sy)) kt) (up _ _ _ _ r kt)
    · rw [hPv]
      refine ⟨ys, sm.trans sy, sy _ _ hD, ?_⟩
      rw [fm_step, es, List.append_nil]
      exact Paired.mapP pr fun v b h => up _ _ _ _ h (KT.same sy)
  · rw [hPv] at pv
    obtain ⟨ys, sm, hD, pr⟩ := pv
    exact q D ys H' sm nD hD pr
/-- values that are these ints -/
def IsI (_ : Hp) (v : V) (n : Int) : Prop := v = .int n
theorem isI_map {H : Hp} : ∀ {vs : List V} {ns : List Int}, Paired (IsI H) vs ns → vs = ns.map V.int
  | _, _, .nil => rfl
  | _, _, .cons r t => by
    rw [isI_map t, List.map_cons]
    exact congrArg (· :: _) r
theorem fmap_congr {α β : Type} {f g : α → Option β} : ∀ l : List α, (∀ a ∈ l, f a = g a) → l.filterMap f = l.filterMap g
  | [], _ => rfl
  | a :: l, h => by
    rw [List.filterMap_cons, List.filterMap_cons, h a List.mem_cons_self, fmap_congr l fun b hb => h b (List.mem_cons_of_mem _ hb)]
theorem snoc_indJ {α : Type} {M : List α → Prop} (h0 : M []) (hs : ∀ S c, M S → M (S ++ [c])) (L : List α) : M L := by
  have key : ∀ K : List α, M K.reverse := by
    intro K
    induction K with
    | nil => exact h0
    | cons c K ih => rw [List.reverse_cons]; exact hs _ _ ih
  have := key L.reverse
  rw [List.reverse_reverse] at this
  exact this
theorem fm_range {β : Type} {L : List β} {γ : Type} (f : β → Option γ) : (List.range L.length).filterMap (fun j => L[j]?.bind f) = L.filterMap f := by
  refine snoc_indJ (M := fun L => (List.range L.length).filterMap (fun j => L[j]?.bind f) = L.filterMap f) rfl (fun L b ih => ?_) L
  rw [List.length_append, List.length_singleton, fm_step, List.filterMap_append]
  have e : (List.range L.length).filterMap (fun j => (L ++ [b])[j]?.bind f) = (List.range L.length).filterMap (fun j => L[j]?.bind f) := fmap_congr _ fun j hj => by
    rw [List.getElem?_append_left (List.mem_range.mp hj)]
  rw [e, ih, List.getElem?_append_right (Nat.le_refl _), Nat.sub_self]
  congr 1
  show (match f b with | some b => [b] | none => []) = _
  rw [List.filterMap_cons, List.filterMap_nil]
  cases f b <;> rfl
theorem fm_rg {γ : Type} (n : Nat) (f : Int → Option γ) : (List.range n).filterMap (fun j : Nat => f (j : Int)) = (rg n).filterMap f := by
  unfold rg
  rw [List.filterMap_map]
  rfl
/-- [c[0] for c in calls] -/
theorem lc_fst {K : PySem.W.Frag} {a : Addr} {ws : List V} {L : List Cl} {i : Nat} {σ : L2.St} {H1 : Hp} {Q : VK} (ha : H1 a = some (.lst ws)) (lg : LG H1 ws L) (len : L.length ≤ 100000) (hi : i < σ.length)
    (q : ∀ o H', Same H1 H' → H1 o = none → H' o = some (.lst ((L.map (·.1)).map V.int)) → Q (.ref o) H') :
    tLc (fun _ H R => R (Itl K a) H) (gName i) tYes (tOp (rIxT K) (tVar i) (tC (V.int 0))) [i] σ H1 Q := by
  have wl := lg.len
  refine gc_list IsI (fun _ _ _ _ h _ => h) (fun j => L[j]?.bind fun c => some c.1) ha (by omega) (fun j x Hx A B gx sx hA hB => ?_) (fun o ys H' s no ho pr => ?_)
  · obtain ⟨c, gc, t, rfl, ht⟩ := pget lg gx
    refine (show (if true = true then tOp (rIxT K) (tVar i) (tC (V.int 0)) (σ.set i (some (.ref t))) Hx A else B Hx) from ?_)
    rw [if_pos rfl]
    refine ⟨.ref t, by rw [List.getElem?_set_self hi], ?_⟩
    refine ⟨t, _, 0, .int c.1, rfl, rfl, SqT.of (sx _ _ ht), rfl, ?_⟩
    exact hA _ c.1 Hx (by rw [gc]; rfl) (Same.refl _) rfl
  · refine q o H' s no ?_
    have e := isI_map pr
    rw [wl, fm_range (L := L) (fun c => some c.1), List.filterMap_eq_map'] at e
    rw [e] at ho
    exact ho
/-- [r for r in range(n) if r not in L] -/
theorem lc_notin {K : PySem.W.Frag} {m : Nat} {b : Addr} {R : List Int} {n i : Nat} {σ : L2.St} {H1 : Hp} {Q : VK} (hm : (σ.set i none)[m]? = some (some (.ref b))) (hb : SqL K H1 b (R.map V.int) ∨ SqT K H1 b (R.map V.int)) (len : n ≤ 100000) (hi : i < σ.length)
    (q : ∀ o H', Same H1 H' → H1 o = none → H' o = some (.lst (((rg n).filter fun z => decide (z ∉ R)).map V.int)) → Q (.ref o) H') :
    tLc (fun _ H R => R (Itr 0 n) H) (gName i) (tTest (tOp (rIn K true) (tVar i) (tVar m))) (tVar i) [i] σ H1 Q := by
  have nm : m ≠ i := fun z => by
    subst z
    rw [List.getElem?_set_self hi] at hm
    cases hm
  refine gc_range IsI (fun _ _ _ _ h _ => h) (fun j => if (j : Int) ∈ R then none else some (j : Int)) len (fun j Hx A B jl sx hA hB => ?_) (fun o ys H' s no ho pr => ?_)
  · rw [Int.zero_add]
    refine ⟨.int (j : Int), by rw [List.getElem?_set_self hi], .ref b, ?_, b, R.map V.int, rfl, ?_, rfl, flI _, ?_⟩
    · rw [List.getElem?_set_ne (fun z => nm z.symm)]
      rw [List.getElem?_set_ne (fun z => nm z.symm)] at hm
      exact hm
    · exact SeqI.same hb sx
    · rw [inI, if_pos rfl]
      refine ⟨_, rfl, ?_⟩
      by_cases c : (j : Int) ∈ R
      · rw [decide_eq_true c]
        exact hB Hx (if_pos c) (Same.refl _)
      · rw [decide_eq_false c]
        exact ⟨_, by rw [List.getElem?_set_self hi], hA _ (j : Int) Hx (if_neg c) (Same.refl _) rfl⟩
  · refine q o H' s no ?_
    have e := isI_map pr
    rw [fm_rg n (fun z => if z ∈ R then none else some z)] at e
    have e2 : ∀ l : List Int, l.filterMap (fun z => if z ∈ R then none else some z) = l.filter fun z => decide (z ∉ R) := fun l => by
      induction l with
      | nil => rfl
      | cons z l ih =>
        by_cases c : z ∈ R
        · rw [List.filterMap_cons, if_pos c, List.filter_cons_of_neg (by simpa using c)]
          exact ih
        · rw [List.filterMap_cons, if_neg c, List.filter_cons_of_pos (by simpa using c), ih]
    rw [e, e2] at ho
    exact ho
/-- the calls at these places -/
def pickC (C : List Cl) (xs : List Int) : List Cl := xs.filterMap fun x => C[x.toNat]?
theorem pickC_perm {C : List Cl} {xs : List Int} (h : xs.Perm (rg C.length)) : (pickC C xs).Perm C := by
  have e : pickC C (rg C.length) = C := by
    unfold pickC rg
    rw [List.filterMap_map]
    have := fm_range (L := C) (fun c => some c)
    rw [List.filterMap_some] at this
    refine Eq.trans (fmap_congr _ fun j _ => ?_) this
    show C[((j : Nat) : Int).toNat]? = _
    rw [Int.toNat_natCast]
    cases C[j]? <;> rfl
  have := h.filterMap (fun x => C[x.toNat]?)
  show (xs.filterMap _).Perm C
  refine this.trans ?_
  show (pickC C (rg C.length)).Perm C
  rw [e]
/-- [calls[k] for k in places] -/
theorem lc_pick {K : PySem.W.Frag} {a g : Addr} {ws : List V} {C : List Cl} {xs : List Int} {c i : Nat} {σ : L2.St} {H1 : Hp} {Q : VK} (hc : (σ.set i none)[c]? = some (some (.ref g))) (hg : H1 g = some (.lst ws)) (lg : LG H1 ws C) (ha : H1 a = some (.lst (xs.map V.int))) (pm : xs.Perm (rg C.length)) (len : C.length ≤ 100000) (hi : i < σ.length)
    (q : ∀ o vs H', Same H1 H' → H1 o = none → H' o = some (.lst vs) → LG H' vs (pickC C xs) → Q (.ref o) H') :
    tLc (fun _ H R => R (Itl K a) H) (gName i) tYes (tOp (rIxL K) (tVar c) (tVar i)) [i] σ H1 Q := by
  have nm : c ≠ i := fun z => by
    subst z
    rw [List.getElem?_set_self hi] at hc
    cases hc
  have xl : xs.length = C.length := by rw [pm.length_eq, rg_len]
  refine gc_list (fun H v b => IsC H v b) (fun _ _ _ _ h k => h.kt k) (fun j => xs[j]?.bind fun x => C[x.toNat]?) ha (by rw [List.length_map]; omega) (fun j x Hx A B gx sx hA hB => ?_) (fun o ys H' s no ho pr => ?_)
  · rw [List.getElem?_map] at gx
    cases e : xs[j]? with
    | none => rw [e] at gx; cases gx
    | some y =>
      rw [e] at gx hA
      have ex := Option.some.inj gx
      subst ex
      obtain ⟨n, hn, rfl⟩ := List.mem_map.mp (pm.mem_iff.mp (List.mem_of_getElem? e))
      have hn2 := List.mem_range.mp hn
      obtain ⟨d, gd⟩ : ∃ d, C[n]? = some d := ⟨_, List.getElem?_eq_getElem hn2⟩
      obtain ⟨v, gv, r⟩ := pget2 lg gd
      refine (show (if true = true then tOp (rIxL K) (tVar c) (tVar i) (σ.set i (some (.int (Int.ofNat n)))) Hx A else B Hx) from ?_)
      rw [if_pos rfl]
      refine ⟨.ref g, ?_, .int (Int.ofNat n), by rw [List.getElem?_set_self hi], g, ws, Int.ofNat n, v, rfl, rfl, SqL.of (sx _ _ hg), atI_nat gv, ?_⟩
      · rw [List.getElem?_set_ne (fun z => nm z.symm)]
        rw [List.getElem?_set_ne (fun z => nm z.symm)] at hc
        exact hc
      · exact hA _ d Hx gd (Same.refl _) (r.kt (KT.same sx))
  · refine q o ys H' s no ho ?_
    rw [List.length_map, fm_range (L := xs) (fun x => C[x.toNat]?)] at pr
    exact pr

/-! ### _law_quiet -/
abbrev sLqu : Stmt := topS 34
theorem swp_perm {α : Type} {L : List α} {j : Nat} {a b : α} (ga : L[j]? = some a) (gb : L[j + 1]? = some b) : (L.take j ++ [b, a] ++ L.drop (j + 2)).Perm L := by
  have hj : j < L.length := (List.getElem?_eq_some_iff.mp ga).1
  have hj1 : j + 1 < L.length := (List.getElem?_eq_some_iff.mp gb).1
  have e1 : L.drop j = a :: b :: L.drop (j + 2) := by
    rw [List.drop_eq_getElem_cons hj, List.drop_eq_getElem_cons hj1]
    rw [List.getElem?_eq_getElem hj] at ga
    rw [List.getElem?_eq_getElem hj1] at gb
    rw [Option.some.inj ga, Option.some.inj gb]
  have e2 : L = L.take j ++ (a :: b :: L.drop (j + 2)) := by rw [← e1, List.take_append_drop]
  rw [List.append_assoc]
  exact (List.Perm.append_left _ (List.Perm.swap a b _)).trans (List.Perm.of_eq e2.symm)
theorem paired_drop {α β : Type} {F : α → β → Prop} : ∀ {us : List α} {D : List β} (_ : Paired F us D) (n : Nat), Paired F (us.drop n) (D.drop n)
  | _, _, h, 0 => h
  | _, _, .nil, n + 1 => Paired.nil
  | _, _, .cons _ t, n + 1 => paired_drop t n
theorem paired_take {α β : Type} {F : α → β → Prop} : ∀ {us : List α} {D : List β} (_ : Paired F us D) (n : Nat), Paired F (us.take n) (D.take n)
  | _, _, _, 0 => by rw [List.take_zero, List.take_zero]; exact Paired.nil
  | _, _, .nil, n + 1 => Paired.nil
  | _, _, .cons r t, n + 1 => Paired.cons r (paired_take t n)
theorem cut_takeQ (xs : List V) (k : Nat) : cutV xs none (some ((k : Nat) : Int)) = xs.take k := by
  unfold cutV
  rw [show HT.sIx xs.length xs.length (some ((k : Nat) : Int)) = min k xs.length from HT.sIx_nat xs.length xs.length k, HT.sIx_none, List.drop_zero, Nat.sub_zero]
  by_cases h : k ≤ xs.length
  · rw [Nat.min_eq_left h]
  · rw [Nat.min_eq_right (by omega), List.take_length, List.take_of_length_le (by omega)]
section
variable {P : Program} {w : World} {K : PySem.W.Frag} {mg : Str → Option Value} {base : Heap}
theorem scLqu : FnScope ["doors", "rooms", "calls", "numbers", "calm", "number", "j", "later", "inside", "call", "r"] ["doors", "rooms", "calls", "numbers"] (defScope sLqu) := ⟨rfl, rfl, rfl, by decide +kernel, rfl, by decide +kernel, by decide +kernel⟩
def spLqu : Sp := fun vs H Q _ => ∃ (l g m : Addr) (us gs : List V) (D : List Pr) (C : List Cl) (ns : List Int) (r : Nat), vs = [.ref l, .int r, .ref g, .ref m] ∧ H l = some (.lst us) ∧ PL H us D ∧ H g = some (.lst gs) ∧ LG H gs C ∧ C.length ≤ 1000 ∧ H m = some (.lst (ns.map V.int)) ∧ r ≤ 12 ∧
  ∀ (L : List Cl) (ws : List V) (p : Addr) (H' : Hp), L.Perm C → Same H H' → H p = none → H' p = some (.lst ws) → LG H' ws L → Q (.ref p) H'
theorem ok_lqu {f fR : Addr} {fd fdR : FuncData} (F : Fun K "_law_quiet" "_law_quiet" sLqu f fd) (T : Bi mg) (d__law_reach : Df P w K mg base "_law_reach" ["doors", "start", "inside"] 1 (spLre K) fR fdR) : FnOk P w K mg base CX0 2 f fd ["doors", "rooms", "calls", "numbers"] spLqu := by
  refine F.ok scLqu (fun vs H Q E h => ?_) (fun cdv A0 outer s H vs Q E hr h => ?_)
  · obtain ⟨l, g, m, us, gs, D, C, ns, r, rfl, _⟩ := h
    rfl
  · obtain ⟨l, g, m, us, gs, D, C, ns, r, rfl, hl, pl, hg, lg, len, hm, r12, ret⟩ := h
    refine ⟨_, (pss_cons (ps_set (i := 4) scLqu.nd rfl (Or.inl rfl) (pe_callTy call_list_of (by rfl) T.list (by decide +kernel) (pa_cons (pv 2) pa_nil)))
      (pss_cons (ps_for PassesOwn.never rfl (pi_list (pv 3)) (pg_name (i := 5) scLqu.nd rfl (Or.inl rfl))
      (pss_one (ps_if (pt_cmpR op_gt (pe_callB call_len_seq (by rfl) T.len (by decide +kernel) (pa_cons (pv 4) pa_nil)) pe_int (nomark _))
        (pss_cons (ps_set (i := 6) scLqu.nd rfl (Or.inl rfl) (pe_op op_mod (pe_callTy cr_intI (by rfl) T.int (by decide +kernel) (pa_cons (pv 5) pa_nil)) (pe_op op_sub (pe_callB call_len_seq (by rfl) T.len (by decide +kernel) (pa_cons (pv 4) pa_nil)) pe_int)))
          (pss_cons (ps_set (i := 7) scLqu.nd rfl (Or.inr rfl) (pe_lc (own := [("call", 9)]) (te := (tOp (rIxT K) (tVar 9) (tC (V.int 0)))) (by rfl) scLqu.nd (pi_list (pe_slice sl_list (pv 4) (po_some (pe_op op_add (pv 6) pe_int)) po_none)) (blkOk_by (N := ["doors", "rooms", "calls", "numbers", "calm", "number", "j", "later", "inside", "call", "r"]) (sc := defScope sLqu) (by decide +kernel)) (fun _ _ _ _ _ => pg_name (i := 9) scLqu.nd rfl (Or.inl rfl)) (fun _ _ _ _ _ => pts_nil) (fun _ _ _ _ _ => (pe_ix ix_tup (pv 9) pe_int (fun _ _ => rfl)))))
          (pss_cons (ps_setLc (i := 8) (own := [("r", 10)]) (te := (tVar 10)) (tt := (tTest (tOp (rIn K true) (tVar 10) (tVar 7)))) (by rfl) scLqu.nd rfl rfl (sw_true rfl rfl rfl (by decide +kernel)) (pi_range1 (by rfl) T.range (pa_cons (pv 1) pa_nil)) (blkOk_by (N := ["doors", "rooms", "calls", "numbers", "calm", "number", "j", "later", "inside", "call", "r"]) (sc := defScope sLqu) (by decide +kernel)) (fun _ _ _ _ _ => pg_name (i := 10) scLqu.nd rfl (Or.inl rfl)) (fun _ _ _ _ _ => (pts_one (pt_cmpR op_notIn_seq (pv 10) (pv 7) (by rfl)))) (fun _ _ _ _ _ => (pv 10)))
          (pss_one (ps_if (PW.pt (pw_or (pt_cmpR op_eq (pe_ix ix_tup (pe_ix ix_list (pv 4) (pv 6) (fun _ _ => rfl)) pe_int (fun _ _ => rfl)) (pe_ix ix_tup (pe_ix ix_list (pv 4) (pe_op op_add (pv 6) pe_int) (fun _ _ => rfl)) pe_int (fun _ _ => rfl)) (nomark _)) (pw_or1 (pt_cmpR op_notIn_seq (pe_ix ix_tup (pe_ix ix_list (pv 4) (pe_op op_add (pv 6) pe_int) (fun _ _ => rfl)) pe_int (fun _ _ => rfl)) (pe_call d__law_reach.ok (hr.mono (by decide)) (by rfl) d__law_reach.at_ d__law_reach.kp d__law_reach.b .nil pass0 (pa_cons (pv 0) (pa_cons (pe_ix ix_tup (pe_ix ix_list (pv 4) (pv 6) (fun _ _ => rfl)) pe_int (fun _ _ => rfl)) (pa_cons (pv 8) pa_nil)))) (by rfl)))))
          (pss_one (ps_set (i := 4) scLqu.nd rfl (Or.inl rfl) (pe_op op_cat (pe_op op_cat (pe_slice sl_list (pv 4) po_none (po_some (pv 6))) (pe_lst (pa_cons (pe_ix ix_list (pv 4) (pe_op op_add (pv 6) pe_int) (fun _ _ => rfl)) (pa_cons (pe_ix ix_list (pv 4) (pv 6) (fun _ _ => rfl)) pa_nil)))) (pe_slice sl_list (pv 4) (po_some (pe_op op_add (pv 6) pe_int)) po_none))))
          pss_nil)))))
        pss_nil)))
      (pss_one (ps_ret (pv 4))))), ?_⟩
    refine sq1 fun N hN => ?_
    walk_at "rd"
    refine ⟨gs, .inl (SqL.of hg), fun c0 nc0 => ?_⟩
    have s0 := same_upd (o := HO.lst gs) nc0
    refine hN _ _ ?_
    clear hN N
    walk_at "rd"
    obtain ⟨Pv, hPv⟩ : ∃ Pv : Nat → L2.St → Hp → Prop, Pv = (fun i σ Hx => ∃ (ws : List V) (L : List Cl) (p : Addr) (v5 v6 v7 v8 : Option V), σ = [some (.ref l), some (.int r), some (.ref g), some (.ref m), some (.ref p), v5, v6, v7, v8, none, none] ∧ L.Perm C ∧ Same H Hx ∧ H p = none ∧ Hx p = some (.lst ws) ∧ LG Hx ws L) := ⟨_, rfl⟩
    refine ⟨_, rfl, m, rfl, ⟨_, SqL.of (s0 _ _ hm)⟩, for_list (K := K) (a := m) (xs := ns.map V.int) Pv (by rw [hPv]; exact ⟨gs, C, c0, none, none, none, none, rfl, List.Perm.refl _, s0, nc0, upd_same, lg.kt (KT.same s0)⟩) (fun i σ Hx _ pv => by rw [hPv] at pv; obtain ⟨_, _, _, _, _, _, _, _, _, sm, _⟩ := pv; exact SqL.of (sm _ _ hm)) (fun i v σ Hx gv pv => ?_) (fun σ Hx pv => ?_)⟩
    rotate_left
    · rw [hPv] at pv
      obtain ⟨ws, L, p, v5, v6, v7, v8, rfl, pm, sm, np, hp, lw⟩ := pv
      walk_at "rd"
      exact ret L ws p Hx pm sm np hp lw
    have nxt : ∀ (ws : List V) (L : List Cl) (p : Addr) (v5 v6 v7 v8 : Option V) (Hx : Hp), L.Perm C → Same H Hx → H p = none → Hx p = some (.lst ws) → LG Hx ws L → Pv (i + 1) [some (.ref l), some (.int r), some (.ref g), some (.ref m), some (.ref p), v5, v6, v7, v8, none, none] Hx := fun ws L p v5 v6 v7 v8 Hx h1 h2 h3 h4 h5 => by
      rw [hPv]
      exact ⟨ws, L, p, v5, v6, v7, v8, rfl, h1, h2, h3, h4, h5⟩
    rw [hPv] at pv
    obtain ⟨ws, L, p, v5, v6, v7, v8, rfl, pm, sm, np, hp, lw⟩ := pv
    obtain ⟨x, rfl⟩ : ∃ x, v = V.int x := by
      rw [List.getElem?_map] at gv
      cases e : ns[i]? with
      | none => rw [e] at gv; cases gv
      | some y => rw [e] at gv; exact ⟨y, (Option.some.inj gv).symm⟩
    have wl := lw.len
    have ll := pm.length_eq
    walk_at "rd"
    refine ⟨ws, .inl (SqL.of hp), ?_⟩
    refine ite2 (fun w1 => ?_) (fun _ => nxt ws L p _ _ _ _ Hx pm sm np hp lw)
    have e0 := Int.emod_nonneg x (show ((ws.length : Int) - 1) ≠ 0 by omega)
    have e1 := Int.emod_lt_of_pos x (show (0 : Int) < (ws.length : Int) - 1 by omega)
    obtain ⟨j, ej⟩ : ∃ j : Nat, x % ((ws.length : Int) - 1) = j := ⟨(x % ((ws.length : Int) - 1)).toNat, by omega⟩
    have jl : j + 1 < L.length := by omega
    obtain ⟨a, ga⟩ : ∃ a, L[j]? = some a := ⟨_, List.getElem?_eq_getElem (by omega)⟩
    obtain ⟨b, gb⟩ : ∃ b, L[j + 1]? = some b := ⟨_, List.getElem?_eq_getElem (by omega)⟩
    obtain ⟨va, gva, ta, rfl, hta⟩ := pget2 lw ga
    obtain ⟨vb, gvb, tb, rfl, htb⟩ := pget2 lw gb
    refine ⟨ws, .inl (SqL.of hp), by omega, ?_⟩
    rw [ej]
    refine lcW ?_
    walk_at "rd"
    refine ⟨ws, SqL.of hp, fun c1 nc1 => ?_⟩
    rw [show ((j : Int) + 2) = ((j + 2 : Nat) : Int) by omega, cut_drop]
    have s1 := same_upd (o := HO.lst (ws.drop (j + 2))) nc1
    have hc1 := upd_same (H := Hx) (a := c1) (o := HO.lst (ws.drop (j + 2)))
    generalize upd Hx c1 (HO.lst (ws.drop (j + 2))) = H1 at s1 hc1 ⊢
    have lwd : LG H1 (ws.drop (j + 2)) (L.drop (j + 2)) := paired_drop (lw.kt (KT.same s1)) (j + 2)
    refine ⟨⟨_, SqL.of hc1⟩, lc_fst hc1 lwd (by rw [List.length_drop]; omega) (by simp) fun o1 H2 s2 no1 ho1 => ?_⟩
    refine lcW ?_
    walk_at "rd"
    refine ⟨by omega, by omega, lc_notin (m := 7) rfl (.inl (SqL.of ho1)) (by omega) (by simp) fun o2 H3 s3 no2 ho2 => ?_⟩
    have s13 := s1.trans (s2.trans s3)
    have hp3 := s13 _ _ hp
    refine ⟨ws, SqL.of hp3, _, at_of (j := j) rfl gva, ta, rfl, _, SqT.of (s13 _ _ hta), .str a.2, rfl, ws, SqL.of hp3, _, at_of (j := j + 1) (by omega) gvb, tb, rfl, _, SqT.of (s13 _ _ htb), .str b.2, rfl, rfl, ?_⟩
    have keepP := nxt ws L p (some (V.int x)) (some (V.int j)) (some (V.ref o1)) (some (V.ref o2))
    have inE : ∀ z ∈ (rg r).filter fun z => decide (z ∉ (L.drop (j + 2)).map (·.1)), 0 ≤ z := fun z hz => by
      obtain ⟨n, hn, rfl⟩ := List.mem_map.mp (List.mem_filter.mp hz).1
      exact Int.natCast_nonneg _
    have lenE : ((rg r).filter fun z => decide (z ∉ (L.drop (j + 2)).map (·.1))).length < 64 := by
      have := List.length_filter_le (fun z => decide (z ∉ (L.drop (j + 2)).map (·.1))) (rg r)
      rw [rg_len] at this
      omega
    refine ⟨_, rfl, ?_⟩
    by_cases cw : V.str a.2 = V.str b.2
    rw [decide_eq_true cw, if_pos rfl, if_pos trivial]
    have sc := Same.refl H3
    generalize hH : H3 = Hc at sc ⊢
    rw [hH] at s13
    clear hH
    rotate_left
    rw [decide_eq_false cw, if_neg (by decide)]
    have s03 := sm.trans s13
    refine ⟨ws, SqL.of hp3, _, at_of (j := j + 1) (by omega) gvb, tb, rfl, _, SqT.of (s13 _ _ htb), .int b.1, rfl, ws, SqL.of hp3, _, at_of (j := j) rfl gva, ta, rfl, _, SqT.of (s13 _ _ hta), .int a.1, rfl, ?_⟩
    refine ⟨l, o2, a.1, us, D, _, rfl, s03 _ _ hl, pl.kt (KT.same s03), .inl (SqL.of ho2), lenE, inE, fun ys ty Hc pc sc nty hty => ?_⟩
    refine ⟨ty, _, rfl, .inl (SqL.of hty), rfl, flI _, ?_⟩
    rw [inI, if_pos rfl]
    refine ⟨_, rfl, ?_⟩
    have s13 := s13.trans sc
    by_cases cm : b.1 ∈ ys
    · rw [decide_eq_true cm, if_neg (by decide)]
      exact keepP Hc pm (sm.trans s13) np (s13 _ _ hp) (lw.kt (KT.same s13))
    rw [decide_eq_false cm, if_pos (by decide)]
    all_goals
      have hpc := s13 _ _ hp
      refine ⟨ws, SqL.of hpc, fun q1 nq1 => ?_⟩
      rw [cut_takeQ]
      have w1 := same_upd (o := HO.lst (ws.take j)) nq1
      have hq1 := upd_same (H := Hc) (a := q1) (o := HO.lst (ws.take j))
      generalize upd Hc q1 (HO.lst (ws.take j)) = G1 at w1 hq1 ⊢
      have t1 := s13.trans w1
      refine ⟨ws, SqL.of (t1 _ _ hp), _, at_of (j := j + 1) (by omega) gvb, ws, SqL.of (t1 _ _ hp), _, at_of (j := j) rfl gva, by decide, fun q2 nq2 => ?_⟩
      have w2 := same_upd (o := HO.lst [V.ref tb, V.ref ta]) nq2
      have hq2 := upd_same (H := G1) (a := q2) (o := HO.lst [V.ref tb, V.ref ta])
      have hq1 := w2 _ _ hq1
      generalize upd G1 q2 (HO.lst [V.ref tb, V.ref ta]) = G2 at w2 hq2 hq1 ⊢
      have t2 := t1.trans w2
      have tl : (ws.take j).length ≤ ws.length := by rw [List.length_take]; omega
      refine ⟨q1, q2, _, _, rfl, rfl, hq1, hq2, Nat.le_of_lt (len_big (by show _ + 2 ≤ 100000; omega)), fun q3 nq3 => ?_⟩
      have w3 := same_upd (o := HO.lst (ws.take j ++ [V.ref tb, V.ref ta])) nq3
      have hq3 := upd_same (H := G2) (a := q3) (o := HO.lst (ws.take j ++ [V.ref tb, V.ref ta]))
      generalize upd G2 q3 (HO.lst (ws.take j ++ [V.ref tb, V.ref ta])) = G3 at w3 hq3 ⊢
      have t3 := t2.trans w3
      refine ⟨ws, SqL.of (t3 _ _ hp), fun q4 nq4 => ?_⟩
      rw [cut_drop]
      have w4 := same_upd (o := HO.lst (ws.drop (j + 2))) nq4
      have hq4 := upd_same (H := G3) (a := q4) (o := HO.lst (ws.drop (j + 2)))
      have hq3 := w4 _ _ hq3
      generalize upd G3 q4 (HO.lst (ws.drop (j + 2))) = G4 at w4 hq4 hq3 ⊢
      have t4 := t3.trans w4
      have dl : (ws.drop (j + 2)).length ≤ ws.length := by rw [List.length_drop]; omega
      refine ⟨q3, q4, _, _, rfl, rfl, hq3, hq4, Nat.le_of_lt (len_big (by rw [List.length_append]; show _ + 2 + _ ≤ 100000; omega)), fun q5 nq5 => ?_⟩
      have w5 := same_upd (o := HO.lst (ws.take j ++ [V.ref tb, V.ref ta] ++ ws.drop (j + 2))) nq5
      have t5 := t4.trans w5
      refine nxt _ (L.take j ++ [b, a] ++ L.drop (j + 2)) q5 _ _ _ _ _ ((swp_perm ga gb).trans pm) (sm.trans t5) ((sm.trans t4).free nq5) upd_same ?_
      exact paired_append (paired_append (paired_take (lw.kt (KT.same t5)) j) (Paired.cons ⟨tb, rfl, t5 _ _ htb⟩ (Paired.cons ⟨ta, rfl, t5 _ _ hta⟩ Paired.nil))) (paired_drop (lw.kt (KT.same t5)) (j + 2))
end

/-! ### _law_reordered, _law_padded, _law_twin -/
abbrev sLro : Stmt := topS 35
abbrev sLpd : Stmt := topS 36
abbrev sLtw : Stmt := topS 37
theorem cutV_map {α : Type} (f : α → V) (l : List α) (lo hi : Option Int) : ∃ m : List α, cutV (l.map f) lo hi = m.map f ∧ m.length ≤ l.length ∧ ∀ x ∈ m, x ∈ l := by
  unfold cutV
  rw [← List.map_drop, ← List.map_take]
  refine ⟨_, rfl, ?_, fun x hx => List.mem_of_mem_drop (List.mem_of_mem_take hx)⟩
  rw [List.length_take, List.length_drop]
  omega
theorem lastF_id {L : List Cl} (nd : (L.map (·.1)).Nodup) : lastF L = L := by
  induction L with
  | nil => rfl
  | cons c S ih =>
    obtain ⟨n1, n2⟩ := List.nodup_cons.mp nd
    show (if c.1 ∈ S.map (·.1) then lastF S else c :: lastF S) = _
    rw [if_neg n1, ih n2]
theorem lastF_early (P : List Cl) (e : Cl) : ∀ u v : List Cl, e.1 ∈ v.map (·.1) → lastF (u ++ [e] ++ v) = lastF (u ++ v)
  | [], v, h => by
    show (if e.1 ∈ v.map (·.1) then lastF v else e :: lastF v) = lastF v
    rw [if_pos h]
  | c :: u, v, h => by
    show (if c.1 ∈ (u ++ [e] ++ v).map (·.1) then lastF (u ++ [e] ++ v) else c :: lastF (u ++ [e] ++ v)) = (if c.1 ∈ (u ++ v).map (·.1) then lastF (u ++ v) else c :: lastF (u ++ v))
    rw [lastF_early P e u v h]
    have m : c.1 ∈ (u ++ [e] ++ v).map (·.1) ↔ c.1 ∈ (u ++ v).map (·.1) := by
      simp only [List.map_append, List.mem_append, List.map_cons, List.map_nil, List.mem_singleton]
      constructor
      · rintro ((z | z) | z)
        · exact .inl z
        · exact .inr (by rw [z]; exact h)
        · exact .inr z
      · rintro (z | z)
        · exact .inl (.inl z)
        · exact .inr z
    by_cases c1 : c.1 ∈ (u ++ v).map (·.1)
    · rw [if_pos c1, if_pos (m.mpr c1)]
    · rw [if_neg c1, if_neg fun z => c1 (m.mp z)]
section
variable {P : Program} {w : World} {K : PySem.W.Frag} {mg : Str → Option Value} {base : Heap}
theorem scLro : FnScope ["numbers", "calls", "doors", "rooms", "way", "k", "turned", "j"] ["numbers", "calls", "doors", "rooms"] (defScope sLro) := ⟨rfl, rfl, rfl, by decide +kernel, rfl, by decide +kernel, by decide +kernel⟩
def spLro : Sp := fun vs H Q _ => ∃ (n g l : Addr) (ns : List Int) (gs us : List V) (C : List Cl) (D : List Pr) (r : Nat), vs = [.ref n, .ref g, .ref l, .int r] ∧ H n = some (.lst (ns.map V.int)) ∧ ns.length = 20 ∧ H g = some (.lst gs) ∧ LG H gs C ∧ C.length ≤ 12 ∧ H l = some (.lst us) ∧ PL H us D ∧ r ≤ 12 ∧
  ∀ (L : List Cl) (ws : List V) (p : Addr) (H' : Hp), L.Perm C → Same H H' → H p = none → H' p = some (.lst ws) → LG H' ws L → Q (.ref p) H'
theorem ok_lro {f fN fQ : Addr} {fd fdN fdQ : FuncData} (F : Fun K "_law_reordered" "_law_reordered" sLro f fd) (T : Bi mg) (d__law_names : Df P w K mg base "_law_names" ["numbers", "at", "rooms"] 1 (spNam K) fN fdN) (d__law_quiet : Df P w K mg base "_law_quiet" ["doors", "rooms", "calls", "numbers"] 2 spLqu fQ fdQ) : FnOk P w K mg base CX0 3 f fd ["numbers", "calls", "doors", "rooms"] spLro := by
  refine F.ok scLro (fun vs H Q E h => ?_) (fun cdv A0 outer s H vs Q E hr h => ?_)
  · obtain ⟨n, g, l, ns, gs, us, C, D, r, rfl, _⟩ := h
    rfl
  · obtain ⟨n, g, l, ns, gs, us, C, D, r, rfl, hn, nl, hg, lg, len, hl, pl, r12, ret⟩ := h
    refine ⟨_, (pss_cons (ps_set (i := 4) scLro.nd rfl (Or.inl rfl) (pe_op op_mod (pe_callTy cr_intI (by rfl) T.int (by decide +kernel) (pa_cons (pe_ix ix_list (pv 0) pe_int (fun _ _ => rfl)) pa_nil)) pe_int))
      (pss_cons (ps_if (pt_cmpR op_eqI (pv 4) pe_int (nomark _))
      (pss_one (ps_ret (pe_lc (own := [("k", 5)]) (te := (tOp (rIxL K) (tVar 1) (tVar 5))) (by rfl) scLro.nd (pi_list (pe_call d__law_names.ok (hr.mono (by decide)) (by rfl) d__law_names.at_ d__law_names.kp d__law_names.b .nil pass0 (pa_cons (pv 0) (pa_cons pe_int (pa_cons (pe_callB call_len_seq (by rfl) T.len (by decide +kernel) (pa_cons (pv 1) pa_nil)) pa_nil))))) (blkOk_by (N := ["numbers", "calls", "doors", "rooms", "way", "k", "turned", "j"]) (sc := defScope sLro) (by decide +kernel)) (fun _ _ _ _ _ => pg_name (i := 5) scLro.nd rfl (Or.inl rfl)) (fun _ _ _ _ _ => pts_nil) (fun _ _ _ _ _ => (pe_ix ix_list (pv 1) (pv 5) (fun _ _ => rfl))))))
      pss_nil)
      (pss_cons (ps_if (pt_cmpR op_eqI (pv 4) pe_int (nomark _))
      (pss_one (ps_ret (pe_revL (pv 1))))
      pss_nil)
      (pss_cons (ps_if (pt_cmpR op_gt (pv 4) pe_int (nomark _))
      (pss_one (ps_ret (pe_call d__law_quiet.ok (hr.mono (by decide)) (by rfl) d__law_quiet.at_ d__law_quiet.kp d__law_quiet.b .nil pass0 (pa_cons (pv 2) (pa_cons (pv 3) (pa_cons (pv 1) (pa_cons (pe_slice sl_list (pv 0) (po_some pe_int) (po_some pe_int)) pa_nil)))))))
      pss_nil)
      (pss_cons (ps_set (i := 6) scLro.nd rfl (Or.inl rfl) (pe_callTy call_list_of (by rfl) T.list (by decide +kernel) (pa_cons (pv 1) pa_nil)))
      (pss_cons (ps_for PassesOwn.never rfl (pi_range1 (by rfl) T.range (pa_cons (pe_op op_add pe_int (pe_op op_mod (pe_callTy cr_intI (by rfl) T.int (by decide +kernel) (pa_cons (pe_ix ix_list (pv 0) pe_int (fun _ _ => rfl)) pa_nil)) pe_int)) pa_nil)) (pg_name (i := 5) scLro.nd rfl (Or.inl rfl))
      (pss_one (ps_if (pt_cmpR op_gt (pe_callB call_len_seq (by rfl) T.len (by decide +kernel) (pa_cons (pv 6) pa_nil)) pe_int (nomark _))
        (pss_cons (ps_set (i := 7) scLro.nd rfl (Or.inl rfl) (pe_op op_mod (pe_callTy cr_intI (by rfl) T.int (by decide +kernel) (pa_cons (pe_ix ix_list (pv 0) (pe_op op_add pe_int (pv 5)) (fun _ _ => rfl)) pa_nil)) (pe_op op_sub (pe_callB call_len_seq (by rfl) T.len (by decide +kernel) (pa_cons (pv 6) pa_nil)) pe_int)))
          (pss_one (ps_set (i := 6) scLro.nd rfl (Or.inl rfl) (pe_op op_cat (pe_op op_cat (pe_slice sl_list (pv 6) po_none (po_some (pv 7))) (pe_lst (pa_cons (pe_ix ix_list (pv 6) (pe_op op_add (pv 7) pe_int) (fun _ _ => rfl)) (pa_cons (pe_ix ix_list (pv 6) (pv 7) (fun _ _ => rfl)) pa_nil)))) (pe_slice sl_list (pv 6) (po_some (pe_op op_add (pv 7) pe_int)) po_none)))))
        pss_nil)))
      (pss_one (ps_ret (pv 6))))))))), ?_⟩
    have gN : ∀ j : Nat, j < 20 → ∃ x, (ns.map V.int)[j]? = some (.int x) := fun j hj => ⟨ns[j]'(by omega), by rw [List.getElem?_map, List.getElem?_eq_getElem (by omega)]; rfl⟩
    obtain ⟨n0, g0⟩ := gN 0 (by decide)
    obtain ⟨n1, g1⟩ := gN 1 (by decide)
    have gl := lg.len
    walk_at "rd"
    refine ⟨_, SqL.of hn, .int n0, at_of (j := 0) rfl g0, n0, rfl, by decide, ?_⟩
    refine ite2 (fun _ => ?_) (fun _ => ite2 (fun _ => ?_) (fun _ => ite2 (fun _ => ?_) (fun _ => ?_)))
    · refine lcW ?_
      walk_at "rd"
      refine ⟨gs, .inl (SqL.of hg), ?_⟩
      rw [gl]
      refine ⟨n, ns, 1, C.length, rfl, SqL.of hn, by omega, by omega, fun xs px H1 pm s1 npx hpx => ?_⟩
      refine ⟨px, rfl, ⟨_, SqL.of hpx⟩, lc_pick (g := g) (C := C) rfl (s1 _ _ hg) (lg.kt (KT.same s1)) hpx pm (by omega) (by simp) fun o vs H2 s2 no ho lo => ?_⟩
      exact ret _ vs o H2 (pickC_perm pm) (s1.trans s2) (s1.free no) ho lo
    · unfold tRevL
      walk_at "rd"
      refine ⟨gs, SqL.of hg, fun p np => ?_⟩
      exact ret _ _ p _ (List.reverse_perm C) (same_upd np) np upd_same (LG.kt (prev lg) (KT.new np))
    · obtain ⟨ms, em, _, _⟩ := cutV_map V.int ns (some 1) (some 17)
      refine ⟨_, SqL.of hn, fun p np => ?_⟩
      rw [em]
      have s1 := same_upd (o := HO.lst (ms.map V.int)) np
      exact ⟨l, g, p, us, gs, D, C, ms, r, rfl, s1 _ _ hl, pl.kt (KT.same s1), s1 _ _ hg, lg.kt (KT.same s1), by omega, upd_same, r12, fun L ws q H' pm s2 nq hq lq => ret L ws q H' pm (s1.trans s2) (s1.free nq) hq lq⟩
    · refine ⟨gs, .inl (SqL.of hg), fun c0 nc0 => ?_⟩
      have s0 := same_upd (o := HO.lst gs) nc0
      have hc0 := upd_same (H := H) (a := c0) (o := HO.lst gs)
      generalize upd H c0 (HO.lst gs) = H0 at s0 hc0 ⊢
      refine for_iterW ?_
      walk_at "rd"
      obtain ⟨Pv, hPv⟩ : ∃ Pv : Nat → L2.St → Hp → Prop, Pv = (fun i σ Hx => ∃ (ws : List V) (L : List Cl) (p : Addr) (v5 v7 : Option V), σ = [some (.ref n), some (.ref g), some (.ref l), some (.int r), some (.int (n0 % 8)), v5, some (.ref p), v7] ∧ L.Perm C ∧ Same H Hx ∧ H p = none ∧ Hx p = some (.lst ws) ∧ LG Hx ws L) := ⟨_, rfl⟩
      refine ⟨_, SqL.of (s0 _ _ hn), .int n1, at_of (j := 1) rfl g1, n1, rfl, by decide, by omega, by omega, for_range (lo := 0) (n := (1 + n1 % 4).toNat) Pv (by rw [hPv]; exact ⟨gs, C, c0, none, none, rfl, List.Perm.refl _, s0, nc0, hc0, lg.kt (KT.same s0)⟩) (fun i σ Hx hi pv => ?_) (fun σ Hx pv => ?_)⟩
      rotate_left
      · rw [hPv] at pv
        obtain ⟨ws, L, p, v5, v7, rfl, pm, sm, np, hp, lw⟩ := pv
        walk_at "rd"
        exact ret L ws p Hx pm sm np hp lw
      have nxt : ∀ (ws : List V) (L : List Cl) (p : Addr) (v5 v7 : Option V) (Hx : Hp), L.Perm C → Same H Hx → H p = none → Hx p = some (.lst ws) → LG Hx ws L → Pv (i + 1) [some (.ref n), some (.ref g), some (.ref l), some (.int r), some (.int (n0 % 8)), v5, some (.ref p), v7] Hx := fun ws L p v5 v7 Hx h1 h2 h3 h4 h5 => by
        rw [hPv]
        exact ⟨ws, L, p, v5, v7, rfl, h1, h2, h3, h4, h5⟩
      rw [hPv] at pv
      obtain ⟨ws, L, p, v5, v7, rfl, pm, sm, np, hp, lw⟩ := pv
      have wl := lw.len
      have ll := pm.length_eq
      obtain ⟨x, gx⟩ := gN (2 + i) (by omega)
      walk_at "rd"
      refine ⟨ws, .inl (SqL.of hp), ?_⟩
      refine ite2 (fun w1 => ?_) (fun _ => nxt ws L p _ _ Hx pm sm np hp lw)
      have e0 := Int.emod_nonneg x (show ((ws.length : Int) - 1) ≠ 0 by omega)
      have e1 := Int.emod_lt_of_pos x (show (0 : Int) < (ws.length : Int) - 1 by omega)
      obtain ⟨j, ej⟩ : ∃ j : Nat, x % ((ws.length : Int) - 1) = j := ⟨(x % ((ws.length : Int) - 1)).toNat, by omega⟩
      have jl : j + 1 < L.length := by omega
      obtain ⟨a, ga⟩ : ∃ a, L[j]? = some a := ⟨_, List.getElem?_eq_getElem (by omega)⟩
      obtain ⟨b, gb⟩ : ∃ b, L[j + 1]? = some b := ⟨_, List.getElem?_eq_getElem (by omega)⟩
      obtain ⟨va, gva, ta, rfl, hta⟩ := pget2 lw ga
      obtain ⟨vb, gvb, tb, rfl, htb⟩ := pget2 lw gb
      refine ⟨_, SqL.of (sm _ _ hn), .int x, at_of (j := 2 + i) (by omega) gx, x, rfl, ws, .inl (SqL.of hp), by omega, ?_⟩
      rw [ej]
      have sc := Same.refl Hx
      refine ⟨ws, SqL.of hp, fun q1 nq1 => ?_⟩
      rw [cut_takeQ]
      have w1 := same_upd (o := HO.lst (ws.take j)) nq1
      have hq1 := upd_same (H := Hx) (a := q1) (o := HO.lst (ws.take j))
      generalize upd Hx q1 (HO.lst (ws.take j)) = G1 at w1 hq1 ⊢
      refine ⟨ws, SqL.of (w1 _ _ hp), _, at_of (j := j + 1) (by omega) gvb, ws, SqL.of (w1 _ _ hp), _, at_of (j := j) rfl gva, by decide, fun q2 nq2 => ?_⟩
      have w2 := same_upd (o := HO.lst [V.ref tb, V.ref ta]) nq2
      have hq2 := upd_same (H := G1) (a := q2) (o := HO.lst [V.ref tb, V.ref ta])
      have hq1 := w2 _ _ hq1
      generalize upd G1 q2 (HO.lst [V.ref tb, V.ref ta]) = G2 at w2 hq2 hq1 ⊢
      have t2 := w1.trans w2
      have tl : (ws.take j).length ≤ ws.length := by rw [List.length_take]; omega
      refine ⟨q1, q2, _, _, rfl, rfl, hq1, hq2, Nat.le_of_lt (len_big (by show _ + 2 ≤ 100000; omega)), fun q3 nq3 => ?_⟩
      have w3 := same_upd (o := HO.lst (ws.take j ++ [V.ref tb, V.ref ta])) nq3
      have hq3 := upd_same (H := G2) (a := q3) (o := HO.lst (ws.take j ++ [V.ref tb, V.ref ta]))
      generalize upd G2 q3 (HO.lst (ws.take j ++ [V.ref tb, V.ref ta])) = G3 at w3 hq3 ⊢
      have t3 := t2.trans w3
      refine ⟨ws, SqL.of (t3 _ _ hp), fun q4 nq4 => ?_⟩
      rw [show ((j : Int) + 2) = ((j + 2 : Nat) : Int) by omega, cut_drop]
      have w4 := same_upd (o := HO.lst (ws.drop (j + 2))) nq4
      have hq4 := upd_same (H := G3) (a := q4) (o := HO.lst (ws.drop (j + 2)))
      have hq3 := w4 _ _ hq3
      generalize upd G3 q4 (HO.lst (ws.drop (j + 2))) = G4 at w4 hq4 hq3 ⊢
      have t4 := t3.trans w4
      have dl : (ws.drop (j + 2)).length ≤ ws.length := by rw [List.length_drop]; omega
      refine ⟨q3, q4, _, _, rfl, rfl, hq3, hq4, Nat.le_of_lt (len_big (by rw [List.length_append]; show _ + 2 + _ ≤ 100000; omega)), fun q5 nq5 => ?_⟩
      have w5 := same_upd (o := HO.lst (ws.take j ++ [V.ref tb, V.ref ta] ++ ws.drop (j + 2))) nq5
      have t5 := t4.trans w5
      have lsw : LG (upd G4 q5 (HO.lst (ws.take j ++ [V.ref tb, V.ref ta] ++ ws.drop (j + 2)))) (ws.take j ++ [V.ref tb, V.ref ta] ++ ws.drop (j + 2)) (L.take j ++ [b, a] ++ L.drop (j + 2)) := paired_append (paired_append (paired_take (lw.kt (KT.same t5)) j) (Paired.cons ⟨tb, rfl, t5 _ _ htb⟩ (Paired.cons ⟨ta, rfl, t5 _ _ hta⟩ Paired.nil))) (paired_drop (lw.kt (KT.same t5)) (j + 2))
      exact nxt _ _ q5 _ _ _ ((swp_perm ga gb).trans pm) (sm.trans t5) ((sm.trans t4).free nq5) upd_same lsw
theorem scLpd : FnScope ["numbers", "calls", "words", "padded", "k", "at", "place", "early"] ["numbers", "calls", "words"] (defScope sLpd) := ⟨rfl, rfl, rfl, by decide +kernel, rfl, by decide +kernel, by decide +kernel⟩
def spLpd : Sp := fun vs H Q _ => ∃ (n g z : Addr) (ns : List Int) (gs : List V) (C : List Cl) (Z : List Str) (r : Nat), vs = [.ref n, .ref g, .ref z] ∧ H n = some (.lst (ns.map V.int)) ∧ ns.length ≤ 300 ∧ H g = some (.lst gs) ∧ LG H gs C ∧ C.length ≤ 100 ∧ InR r C ∧ (∀ c ∈ C, wk 17 c.2) ∧ H z = some (.lst (Z.map V.str)) ∧ 1 ≤ Z.length ∧ (∀ y ∈ Z, wk 17 y) ∧
  ∀ (L : List Cl) (ws : List V) (p : Addr) (H' : Hp), lastF L = lastF C → L.length ≤ C.length + ns.length / 3 → InR r L → (∀ c ∈ L, wk 17 c.2) → Same H H' → H p = none → H' p = some (.lst ws) → LG H' ws L → Q (.ref p) H'
theorem ok_lpd {f : Addr} {fd : FuncData} (F : Fun K "_law_padded" "_law_padded" sLpd f fd) (T : Bi mg) : FnOk P w K mg base CX0 1 f fd ["numbers", "calls", "words"] spLpd := by
  refine F.ok scLpd (fun vs H Q E h => ?_) (fun cdv A0 outer s H vs Q E hr h => ?_)
  · obtain ⟨n, g, z, ns, gs, C, Z, r, rfl, _⟩ := h
    rfl
  · obtain ⟨n, g, z, ns, gs, C, Z, r, rfl, hn, nl, hg, lg, len, inr, wks, hz, z1, zw, ret⟩ := h
    refine ⟨_, (pss_cons (ps_set (i := 3) scLpd.nd rfl (Or.inl rfl) (pe_callTy call_list_of (by rfl) T.list (by decide +kernel) (pa_cons (pv 1) pa_nil)))
      (pss_cons (ps_for PassesOwn.never rfl (pi_range1 (by rfl) T.range (pa_cons (pe_op op_fdiv (pe_callB call_len_seq (by rfl) T.len (by decide +kernel) (pa_cons (pv 0) pa_nil)) pe_int) pa_nil)) (pg_name (i := 4) scLpd.nd rfl (Or.inl rfl))
      (pss_one (ps_if (pt_cmpR op_gt (pe_callB call_len_seq (by rfl) T.len (by decide +kernel) (pa_cons (pv 3) pa_nil)) pe_int (nomark _))
        (pss_cons (ps_set (i := 5) scLpd.nd rfl (Or.inl rfl) (pe_op op_mod (pe_callTy cr_intI (by rfl) T.int (by decide +kernel) (pa_cons (pe_ix ix_list (pv 0) (pe_op op_mul pe_int (pv 4)) (fun _ _ => rfl)) pa_nil)) (pe_callB call_len_seq (by rfl) T.len (by decide +kernel) (pa_cons (pv 3) pa_nil))))
          (pss_cons (ps_set (i := 6) scLpd.nd rfl (Or.inl rfl) (pe_op op_mod (pe_callTy cr_intI (by rfl) T.int (by decide +kernel) (pa_cons (pe_ix ix_list (pv 0) (pe_op op_add (pe_op op_mul pe_int (pv 4)) pe_int) (fun _ _ => rfl)) pa_nil)) (pe_op op_add (pv 5) pe_int)))
          (pss_cons (ps_set (i := 7) scLpd.nd rfl (Or.inl rfl) (pe_tup (pa_cons (pe_ix ix_tup (pe_ix ix_list (pv 3) (pv 5) (fun _ _ => rfl)) pe_int (fun _ _ => rfl)) (pa_cons (pe_ix ix_list (pv 2) (pe_op op_mod (pe_callTy cr_intI (by rfl) T.int (by decide +kernel) (pa_cons (pe_ix ix_list (pv 0) (pe_op op_add (pe_op op_mul pe_int (pv 4)) pe_int) (fun _ _ => rfl)) pa_nil)) (pe_callB call_len_seq (by rfl) T.len (by decide +kernel) (pa_cons (pv 2) pa_nil))) (fun _ _ => rfl)) pa_nil))))
          (pss_one (ps_set (i := 3) scLpd.nd rfl (Or.inl rfl) (pe_op op_cat (pe_op op_cat (pe_slice sl_list (pv 3) po_none (po_some (pv 6))) (pe_lst (pa_cons (pv 7) pa_nil))) (pe_slice sl_list (pv 3) (po_some (pv 6)) po_none)))))))
        pss_nil)))
      (pss_one (ps_ret (pv 3))))), ?_⟩
    have gN : ∀ j : Nat, j < ns.length → ∃ x, (ns.map V.int)[j]? = some (.int x) := fun j hj => ⟨ns[j]'(by omega), by rw [List.getElem?_map, List.getElem?_eq_getElem (by omega)]; rfl⟩
    walk_at "rd"
    refine ⟨gs, .inl (SqL.of hg), fun c0 nc0 => ?_⟩
    have s0 := same_upd (o := HO.lst gs) nc0
    have hc0 := upd_same (H := H) (a := c0) (o := HO.lst gs)
    generalize upd H c0 (HO.lst gs) = H0 at s0 hc0 ⊢
    refine for_iterW ?_
    walk_at "rd"
    obtain ⟨Pv, hPv⟩ : ∃ Pv : Nat → L2.St → Hp → Prop, Pv = (fun i σ Hx => ∃ (ws : List V) (L : List Cl) (p : Addr) (v4 v5 v6 v7 : Option V), σ = [some (.ref n), some (.ref g), some (.ref z), some (.ref p), v4, v5, v6, v7] ∧ lastF L = lastF C ∧ L.length ≤ C.length + i ∧ InR r L ∧ (∀ c ∈ L, wk 17 c.2) ∧ Same H Hx ∧ H p = none ∧ Hx p = some (.lst ws) ∧ LG Hx ws L) := ⟨_, rfl⟩
    have hmap : (ns.map V.int).length = ns.length := List.length_map _
    refine ⟨_, .inl (SqL.of (s0 _ _ hn)), (by unfold CDiv; first | exact .inr (by decide) | decide | omega), by omega, by omega, for_range (lo := 0) (n := ((((ns.map V.int).length : Nat) : Int) / 3).toNat) Pv (by rw [hPv]; exact ⟨gs, C, c0, none, none, none, none, rfl, rfl, Nat.le_refl _, inr, wks, s0, nc0, hc0, lg.kt (KT.same s0)⟩) (fun i σ Hx hi pv => ?_) (fun σ Hx pv => ?_)⟩
    rotate_left
    · rw [hPv] at pv
      obtain ⟨ws, L, p, v4, v5, v6, v7, rfl, lf, ll, ir, wl, sm, np, hp, lw⟩ := pv
      walk_at "rd"
      exact ret L ws p Hx lf (by omega) ir wl sm np hp lw
    have nxt : ∀ (ws : List V) (L : List Cl) (p : Addr) (v4 v5 v6 v7 : Option V) (Hx : Hp), lastF L = lastF C → L.length ≤ C.length + (i + 1) → InR r L → (∀ c ∈ L, wk 17 c.2) → Same H Hx → H p = none → Hx p = some (.lst ws) → LG Hx ws L → Pv (i + 1) [some (.ref n), some (.ref g), some (.ref z), some (.ref p), v4, v5, v6, v7] Hx := fun ws L p v4 v5 v6 v7 Hx h1 h2 h3 h4 h5 h6 h7 h8 => by
      rw [hPv]
      exact ⟨ws, L, p, v4, v5, v6, v7, rfl, h1, h2, h3, h4, h5, h6, h7, h8⟩
    rw [hPv] at pv
    obtain ⟨ws, L, p, v4, v5, v6, v7, rfl, lf, ll, ir, wl, sm, np, hp, lw⟩ := pv
    have hwl := lw.len
    obtain ⟨x0, gx0⟩ := gN (3 * i) (by omega)
    obtain ⟨x1, gx1⟩ := gN (3 * i + 1) (by omega)
    obtain ⟨x2, gx2⟩ := gN (3 * i + 2) (by omega)
    have hnx := sm _ _ hn
    have hzx := sm _ _ hz
    walk_at "rd"
    refine ⟨ws, .inl (SqL.of hp), ?_⟩
    refine ite2 (fun w1 => ?_) (fun _ => nxt ws L p _ _ _ _ Hx lf (by omega) ir wl sm np hp lw)
    have e0 := Int.emod_nonneg x0 (show (ws.length : Int) ≠ 0 by omega)
    have e1 := Int.emod_lt_of_pos x0 (show (0 : Int) < (ws.length : Int) by omega)
    obtain ⟨j, ej⟩ : ∃ j : Nat, x0 % (ws.length : Int) = j := ⟨(x0 % (ws.length : Int)).toNat, by omega⟩
    have f0 := Int.emod_nonneg x1 (show ((j : Int) + 1) ≠ 0 by omega)
    have f1 := Int.emod_lt_of_pos x1 (show (0 : Int) < (j : Int) + 1 by omega)
    obtain ⟨pl, epl⟩ : ∃ q : Nat, x1 % ((j : Int) + 1) = q := ⟨(x1 % ((j : Int) + 1)).toNat, by omega⟩
    have z0 := Int.emod_nonneg x2 (show (Z.length : Int) ≠ 0 by omega)
    have z2 := Int.emod_lt_of_pos x2 (show (0 : Int) < (Z.length : Int) by omega)
    obtain ⟨iz, eiz⟩ : ∃ q : Nat, x2 % (Z.length : Int) = q := ⟨(x2 % (Z.length : Int)).toNat, by omega⟩
    obtain ⟨y, gy, ky⟩ : ∃ y, (Z.map V.str)[iz]? = some (.str y) ∧ wk 17 y := ⟨Z[iz]'(by omega), by rw [List.getElem?_map, List.getElem?_eq_getElem (by omega)]; rfl, zw _ (List.getElem_mem _)⟩
    have jl : j < L.length := by omega
    obtain ⟨a, ga⟩ : ∃ a, L[j]? = some a := ⟨_, List.getElem?_eq_getElem (by omega)⟩
    obtain ⟨va, gva, ta, rfl, hta⟩ := pget2 lw ga
    refine ⟨.inl (by decide), _, SqL.of hnx, .int x0, at_of (j := 3 * i) (by omega) gx0, x0, rfl, ws, .inl (SqL.of hp), by omega, ?_⟩
    rw [ej]
    refine ⟨.inl (by decide), _, SqL.of hnx, .int x1, at_of (j := 3 * i + 1) (by omega) gx1, x1, rfl, by omega, ws, SqL.of hp, _, at_of (j := j) rfl gva, ta, rfl, _, SqT.of hta, .int a.1, rfl, .inl (by decide), _, SqL.of hnx, .int x2, at_of (j := 3 * i + 2) (by omega) gx2, x2, rfl, _, .inl (SqL.of hzx), by rw [List.length_map]; omega, _, SqL.of hzx, .str y, by rw [List.length_map, eiz]; exact atI_nat gy, by decide, fun te nte => ?_⟩
    rw [epl]
    have w1 := same_upd (o := HO.tup [V.int a.1, V.str y]) nte
    have hte := upd_same (H := Hx) (a := te) (o := HO.tup [V.int a.1, V.str y])
    generalize upd Hx te (HO.tup [V.int a.1, V.str y]) = G1 at w1 hte ⊢
    have hp1 := w1 _ _ hp
    refine ⟨ws, SqL.of hp1, fun q1 nq1 => ?_⟩
    rw [cut_takeQ]
    have w2 := same_upd (o := HO.lst (ws.take pl)) nq1
    have hq1 := upd_same (H := G1) (a := q1) (o := HO.lst (ws.take pl))
    generalize upd G1 q1 (HO.lst (ws.take pl)) = G2 at w2 hq1 ⊢
    refine ⟨by decide, fun q2 nq2 => ?_⟩
    have w3 := same_upd (o := HO.lst [V.ref te]) nq2
    have hq2 := upd_same (H := G2) (a := q2) (o := HO.lst [V.ref te])
    have hq1 := w3 _ _ hq1
    generalize upd G2 q2 (HO.lst [V.ref te]) = G3 at w3 hq2 hq1 ⊢
    have tl : (ws.take pl).length ≤ ws.length := by rw [List.length_take]; omega
    refine ⟨q1, q2, _, _, rfl, rfl, hq1, hq2, Nat.le_of_lt (len_big (by show _ + 1 ≤ 100000; omega)), fun q3 nq3 => ?_⟩
    have w4 := same_upd (o := HO.lst (ws.take pl ++ [V.ref te])) nq3
    have hq3 := upd_same (H := G3) (a := q3) (o := HO.lst (ws.take pl ++ [V.ref te]))
    generalize upd G3 q3 (HO.lst (ws.take pl ++ [V.ref te])) = G4 at w4 hq3 ⊢
    have t4 := w1.trans (w2.trans (w3.trans w4))
    refine ⟨ws, SqL.of (t4 _ _ hp), fun q4 nq4 => ?_⟩
    rw [cut_drop]
    have w5 := same_upd (o := HO.lst (ws.drop pl)) nq4
    have hq4 := upd_same (H := G4) (a := q4) (o := HO.lst (ws.drop pl))
    have hq3 := w5 _ _ hq3
    generalize upd G4 q4 (HO.lst (ws.drop pl)) = G5 at w5 hq4 hq3 ⊢
    have t5 := t4.trans w5
    have dl : (ws.drop pl).length ≤ ws.length := by rw [List.length_drop]; omega
    refine ⟨q3, q4, _, _, rfl, rfl, hq3, hq4, Nat.le_of_lt (len_big (by rw [List.length_append]; show _ + 1 + _ ≤ 100000; omega)), fun q5 nq5 => ?_⟩
    have w6 := same_upd (o := HO.lst (ws.take pl ++ [V.ref te] ++ ws.drop pl)) nq5
    have t6 := t5.trans w6
    have mem : ∀ c ∈ L.take pl ++ [(a.1, y)] ++ L.drop pl, c ∈ L ∨ c = (a.1, y) := fun c hc => by
      rcases List.mem_append.mp hc with z | z
      · rcases List.mem_append.mp z with z | z
        · exact .inl (List.mem_of_mem_take z)
        · exact .inr (List.mem_singleton.mp z)
      · exact .inl (List.mem_of_mem_drop z)
    refine nxt _ (L.take pl ++ [(a.1, y)] ++ L.drop pl) q5 _ _ _ _ _ ?_ ?_ (fun c hc => ?_) (fun c hc => ?_) (sm.trans t6) ((sm.trans t5).free nq5) upd_same ?_
    · rw [lastF_early L, List.take_append_drop]
      · exact lf
      · refine List.mem_map.mpr ⟨a, List.mem_of_getElem? (i := j - pl) ?_, rfl⟩
        rw [List.getElem?_drop, show pl + (j - pl) = j by omega]
        exact ga
    · rw [List.length_append, List.length_append, List.length_take, List.length_drop, List.length_singleton]
      omega
    · rcases mem c hc with z | z
      · exact ir c z
      · rw [z]
        exact ir a (List.mem_of_getElem? ga)
    · rcases mem c hc with z | z
      · exact wl c z
      · rw [z]
        exact ky
    · exact paired_append (paired_append (paired_take (lw.kt (KT.same t6)) pl) (Paired.cons ⟨te, rfl, w6 _ _ (w5 _ _ (w4 _ _ (w3 _ _ (w2 _ _ hte))))⟩ Paired.nil)) (paired_drop (lw.kt (KT.same t6)) pl)
theorem scLtw : FnScope ["cell", "calls", "words", "doors", "rooms", "numbers", "many", "pads"] ["cell", "calls", "words", "doors", "rooms"] (defScope sLtw) := ⟨rfl, rfl, rfl, by decide +kernel, rfl, by decide +kernel, by decide +kernel⟩
def spLtw : Sp := fun vs H Q _ => ∃ (x : Int) (g z l : Addr) (gs us : List V) (C : List Cl) (Z : List Str) (D : List Pr) (r : Nat), vs = [.int x, .ref g, .ref z, .ref l, .int r] ∧ H g = some (.lst gs) ∧ LG H gs C ∧ C.length ≤ 12 ∧ (C.map (·.1)).Nodup ∧ InR r C ∧ (∀ c ∈ C, wk 17 c.2) ∧ H z = some (.lst (Z.map V.str)) ∧ 1 ≤ Z.length ∧ (∀ y ∈ Z, wk 17 y) ∧ H l = some (.lst us) ∧ PL H us D ∧ r ≤ 12 ∧
  ∀ (R L : List Cl) (ws : List V) (p : Addr) (H' : Hp), R.Perm C → lastF L = R → L.length ≤ 100 → InR r L → (∀ c ∈ L, wk 17 c.2) → Same H H' → H p = none → H' p = some (.lst ws) → LG H' ws L → Q (.ref p) H'
theorem ok_ltw {f fN fR fP : Addr} {fd fdN fdR fdP : FuncData} (F : Fun K "_law_twin" "_law_twin" sLtw f fd) (T : Bi mg) (d__law_numbers : Df P w K mg base "_law_numbers" ["cell", "count"] 1 (spNum K) fN fdN) (d__law_reordered : Df P w K mg base "_law_reordered" ["numbers", "calls", "doors", "rooms"] 3 spLro fR fdR) (d__law_padded : Df P w K mg base "_law_padded" ["numbers", "calls", "words"] 1 spLpd fP fdP) : FnOk P w K mg base CX0 4 f fd ["cell", "calls", "words", "doors", "rooms"] spLtw := by
  refine F.ok scLtw (fun vs H Q E h => ?_) (fun cdv A0 outer s H vs Q E hr h => ?_)
  · obtain ⟨x, g, z, l, gs, us, C, Z, D, r, rfl, _⟩ := h
    rfl
  · obtain ⟨x, g, z, l, gs, us, C, Z, D, r, rfl, hg, lg, len, nd, inr, wks, hz, z1, zw, hl, pl, r12, ret⟩ := h
    refine ⟨_, (pss_cons (ps_set (i := 5) scLtw.nd rfl (Or.inl rfl) (pe_call d__law_numbers.ok (hr.mono (by decide)) (by rfl) d__law_numbers.at_ d__law_numbers.kp d__law_numbers.b .nil pass0 (pa_cons (pv 0) (pa_cons pe_int pa_nil))))
      (pss_cons (ps_set (i := 6) scLtw.nd rfl (Or.inl rfl) (pe_op op_mod (pe_callTy cr_intI (by rfl) T.int (by decide +kernel) (pa_cons (pe_ix ix_list (pv 5) pe_int (fun _ _ => rfl)) pa_nil)) pe_int))
      (pss_cons (ps_if (pt_cmpR op_eqI (pe_op op_mod (pe_callTy cr_intI (by rfl) T.int (by decide +kernel) (pa_cons (pe_ix ix_list (pv 5) pe_int (fun _ _ => rfl)) pa_nil)) pe_int) pe_int (nomark _))
      (pss_one (ps_set (i := 6) scLtw.nd rfl (Or.inl rfl) (pe_op op_mod (pe_callTy cr_intI (by rfl) T.int (by decide +kernel) (pa_cons (pe_ix ix_list (pv 5) pe_int (fun _ _ => rfl)) pa_nil)) (pe_op op_sub pe_int (pe_callB call_len_seq (by rfl) T.len (by decide +kernel) (pa_cons (pv 1) pa_nil))))))
      pss_nil)
      (pss_cons (ps_set (i := 7) scLtw.nd rfl (Or.inl rfl) (pe_slice sl_list (pe_call d__law_numbers.ok (hr.mono (by decide)) (by rfl) d__law_numbers.at_ d__law_numbers.kp d__law_numbers.b .nil pass0 (pa_cons (pv 0) (pa_cons (pe_op op_add pe_int (pe_op op_mul pe_int (pv 6))) pa_nil))) (po_some pe_int) po_none))
      (pss_one (ps_ret (pe_call d__law_padded.ok (hr.mono (by decide)) (by rfl) d__law_padded.at_ d__law_padded.kp d__law_padded.b .nil pass0 (pa_cons (pv 7) (pa_cons (pe_call d__law_reordered.ok (hr.mono (by decide)) (by rfl) d__law_reordered.at_ d__law_reordered.kp d__law_reordered.b .nil pass0 (pa_cons (pv 5) (pa_cons (pv 1) (pa_cons (pv 3) (pa_cons (pv 4) pa_nil))))) (pa_cons (pv 2) pa_nil)))))))))), ?_⟩
    have gl := lg.len
    refine sq3 fun N hN => ?_
    walk_at "rd"
    refine ⟨x, 20, rfl, by decide, fun nl ln H1 N1 s1 fn1 hln => ?_⟩
    have gN : ∀ j : Nat, j < 20 → ∃ x, (nl.map V.int)[j]? = some (.int x) := fun j hj => ⟨nl[j]'(by rw [N1.1]; exact hj), by rw [List.getElem?_map, List.getElem?_eq_getElem (by rw [N1.1]; exact hj)]; rfl⟩
    obtain ⟨n18, g18⟩ := gN 18 (by decide)
    obtain ⟨n19, g19⟩ := gN 19 (by decide)
    have tail : ∀ m : Nat, m ≤ 60 → N [some (.int x), some (.ref g), some (.ref z), some (.ref l), some (.int r), some (.ref ln), some (.int m), none] H1 := fun m m60 => by
      refine hN _ _ ?_
      clear hN N
      walk_at "rd"
      refine ⟨.inl (by decide), x, 20 + 3 * m, by rw [show (20 : Int) + 3 * (m : Int) = ((20 + 3 * m : Nat) : Int) by omega], by omega, fun nl2 ln2 H2 N2 s2 fn2 hln2 => ?_⟩
      obtain ⟨ms, em, ml, _⟩ := cutV_map V.int nl2 (some 20) none
      refine ⟨ln2, rfl, _, SqL.of hln2, fun p np => ?_⟩
      rw [em]
      have s3 := same_upd (o := HO.lst (ms.map V.int)) np
      have hp := upd_same (H := H2) (a := p) (o := HO.lst (ms.map V.int))
      generalize upd H2 p (HO.lst (ms.map V.int)) = H3 at s3 hp ⊢
      have s13 := s2.trans s3
      have s03 := s1.trans s13
      refine ⟨ln, g, l, nl, gs, us, C, D, r, rfl, s13 _ _ hln, N1.1, s03 _ _ hg, lg.kt (KT.same s03), len, s03 _ _ hl, pl.kt (KT.same s03), r12, fun R w4 p4 H4 pm s4 np4 hp4 lg4 => ?_⟩
      have s04 := s03.trans s4
      have pl4 := pm.length_eq
      have n2l := N2.1
      refine ⟨p, p4, z, ms, w4, R, Z, r, rfl, s4 _ _ hp, by omega, hp4, lg4, by omega, fun c hc => inr c (pm.mem_iff.mp hc), fun c hc => wks c (pm.mem_iff.mp hc), s04 _ _ hz, z1, zw, fun L w5 p5 H5 lf ll ir wl s5 np5 hp5 lg5 => ?_⟩
      have ndR : (R.map (·.1)).Nodup := (pm.map _).nodup_iff.mpr nd
      exact ret R L w5 p5 H5 pm (lf.trans (lastF_id ndR)) (by omega) ir wl (s04.trans s5) (s04.free np5) hp5 lg5
    refine ⟨ln, rfl, _, SqL.of hln, .int n18, at_of (j := 18) rfl g18, n18, rfl, by decide, ln, rfl, _, SqL.of hln, .int n19, at_of (j := 19) rfl g19, n19, rfl, by decide, ite2 (fun _ => ?_) (fun _ => ?_)⟩
    · have e0 := Int.emod_nonneg n18 (show (61 - (gs.length : Int)) ≠ 0 by omega)
      have e1 := Int.emod_lt_of_pos n18 (show (0 : Int) < 61 - (gs.length : Int) by omega)
      refine ⟨ln, rfl, _, SqL.of hln, .int n18, at_of (j := 18) rfl g18, n18, rfl, gs, .inl (SqL.of (s1 _ _ hg)), by omega, ?_⟩
      rw [show n18 % (61 - (gs.length : Int)) = (((n18 % (61 - (gs.length : Int))).toNat : Nat) : Int) by omega]
      exact tail _ (by omega)
    · rw [show n18 % 4 = (((n18 % 4).toNat : Nat) : Int) by omega]
      exact tail _ (by omega)
end

/-! ### dicts of texts compared -/
def rEqDS : R2 := fun x y H Q => ∃ a b ks ls, x = .ref a ∧ y = .ref b ∧ H a = some (.dK ks) ∧ H b = some (.dK ls) ∧ (∀ p ∈ ks, ∃ z, p.2 = V.str z) ∧ (∀ k v, valV ls k = some v → ∃ z, v = V.str z) ∧ ∀ c : Bool, (c = true ↔ ks.length = ls.length ∧ ∀ p ∈ ks, valV ls p.1 = some p.2) → Q (.bl c) H
theorem hits_str {κ : Type} [DecidableEq κ] {A : Around} {s : Shared} {kvs : List (κ × V)} {vb : List (κ × Value)} (rb : KV kvs vb) (ht : ∀ k v, valV kvs k = some v → ∃ z, v = V.str z) : ∀ {ks : List (κ × V)} {va : List (κ × Value)} (_ : KV ks va),
    (∀ p ∈ ks, ∃ z, p.2 = V.str z) → ∃ c : Bool, (c = true ↔ ∀ p ∈ ks, valV kvs p.1 = some p.2) ∧ PySem.W.KeqHits A s vb va c := by
  intro ks va ra
  unfold KV at ra
  induction ra with
  | nil => intro _; exact ⟨true, by simp, .nil⟩
  | @cons p q ps qs h t ih =>
    intro hp
    obtain ⟨c, hc, hk⟩ := ih fun p' hm => hp p' (List.mem_cons_of_mem _ hm)
    obtain ⟨h1, h2⟩ := h
    obtain ⟨z, ez⟩ := hp p List.mem_cons_self
    obtain ⟨k, v⟩ := q
    have h1' : p.1 = k := h1
    subst h1'
    cases e : valV kvs p.1 with
    | none =>
      have rr : RelO none (valueAt vb p.1) := by rw [← e]; exact rb.val p.1
      refine ⟨false, ?_, .miss ?_⟩
      · simp only [Bool.false_eq_true, false_iff]
        intro hh
        have := hh p List.mem_cons_self
        rw [e] at this
        cases this
      · exact rr.none_of
    | some y =>
      obtain ⟨w, rfl⟩ := ht _ _ e
      have rr : RelO (some (V.str w)) (valueAt vb p.1) := by rw [← e]; exact rb.val p.1
      obtain ⟨u, hu, ru⟩ := rr.some_of
      obtain ⟨t2, rfl⟩ := (show ∃ t, u = Value.str w t from ru)
      rw [ez] at h2
      obtain ⟨t1, rfl⟩ := (show ∃ t, v = Value.str z t from h2)
      refine ⟨_, ?_, .hit hu (SeqAt.EqAt.str_str z t1 w t2) hk⟩
      have eb : (z == w) = decide (z = w) := by
        by_cases c2 : z = w
        · subst c2; simp
        · simp [c2]
      rw [eb, Bool.and_eq_true, decide_eq_true_iff, hc]
      constructor
      · rintro ⟨rfl, hh⟩ p' hm
        rcases List.mem_cons.mp hm with rfl | hm
        · rw [e, ez]
        · exact hh p' hm
      · intro hh
        have h0 := hh p List.mem_cons_self
        rw [e, ez] at h0
        exact ⟨(V.str.inj (Option.some.inj h0)).symm, fun p' hm => hh p' (List.mem_cons_of_mem _ hm)⟩
theorem op_eqDS {X : Cx} (hu : X.A.units < cLine) : OpR X (compareOp .Eq) rEqDS := by
  intro pins s σ H x y v u Q I rx ry h
  obtain ⟨a, b, ks, ls, rfl, rfl, ea, eb, hk, hl, q⟩ := h
  obtain rfl : v = Value.ref a := rx
  obtain rfl : u = Value.ref b := ry
  obtain ⟨_, ya, va, ra, da⟩ := (show ObjOk X.prog X.w H s.heap a (.dK ks) from I.hok a _ ea)
  obtain ⟨_, yb, vb, rb, db⟩ := (show ObjOk X.prog X.w H s.heap b (.dK ls) from I.hok b _ eb)
  obtain ⟨c, hc, hits⟩ := hits_str (A := X.A.in1) (s := s) rb hl ra hk
  have hla : ks.length = va.length := ra.length
  have hlb : ls.length = vb.length := rb.length
  refine PySem.W.keq_eq (knd := mixKind X.prog X.w) (r := c) ya yb da db hu (fun _ => hits) (fin_bl I (q _ ?_) rfl)
  rw [Bool.and_eq_true, beq_iff_eq, hc, ← hla, ← hlb]

/-! ### crossed pairs and words: the theory -/
def wordP (L : List Cl) (ps : List Int) : Option Str := (lastIn ps L).map (·.2)
theorem snoc_ind {α : Type} {M : List α → Prop} (h0 : M []) (hs : ∀ S c, M S → M (S ++ [c])) (L : List α) : M L := by
  have key : ∀ K : List α, M K.reverse := by
    intro K
    induction K with
    | nil => exact h0
    | cons c K ih => rw [List.reverse_cons]; exact hs _ _ ih
  have := key L.reverse
  rw [List.reverse_reverse] at this
  exact this
theorem lastIn_snoc (R : List Int) (S : List Cl) (c : Cl) : lastIn R (S ++ [c]) = if c.1 ∈ R then some c else lastIn R S := by
  unfold lastIn
  rw [List.reverse_append]
  show List.find? _ (c :: S.reverse) = _
  by_cases h : c.1 ∈ R
  · rw [List.find?_cons_of_pos (by simp [h]), if_pos h]
  · rw [List.find?_cons_of_neg (by simp [h]), if_neg h]
theorem lastIn_none {R : List Int} {L : List Cl} : lastIn R L = none ↔ ∀ c ∈ L, c.1 ∉ R := by
  unfold lastIn
  rw [List.find?_eq_none]
  constructor
  · intro h c hc z
    exact h c (List.mem_reverse.mpr hc) (decide_eq_true z)
  · intro h c hc z
    exact h c (List.mem_reverse.mp hc) (of_decide_eq_true z)
theorem placeI_snoc (S : List Cl) (c : Cl) (x : Int) : placeI (S ++ [c]) x = if c.1 = x then (S.length : Int) else placeI S x := by
  unfold placeI
  rw [placeF_snoc]
  by_cases h : c.1 = x
  · rw [if_pos h, if_pos h]
  · rw [if_neg h, if_neg h]
theorem place_lt {L : List Cl} {x : Int} {i : Nat} (h : placeF L x = some i) : i < L.length := by
  have := List.mem_of_find?_eq_some h
  simpa using this
theorem placeI_lt (L : List Cl) (x : Int) : placeI L x < L.length := by
  unfold placeI
  cases h : placeF L x with
  | none => show (-1 : Int) < _; omega
  | some i => have := place_lt h; show (i : Int) < _; omega
/-- the latest call of some rooms -/
theorem lastIn_top {ps : List Int} {c : Cl} (L : List Cl) : lastIn ps L = some c → c.1 ∈ ps ∧ c.1 ∈ L.map (·.1) ∧ lastIn [c.1] L = some c ∧ ∀ z ∈ ps, placeI L z ≤ placeI L c.1 := by
  refine snoc_ind (M := fun L => lastIn ps L = some c → c.1 ∈ ps ∧ c.1 ∈ L.map (·.1) ∧ lastIn [c.1] L = some c ∧ ∀ z ∈ ps, placeI L z ≤ placeI L c.1) (fun z => by cases z) (fun S d ih h => ?_) L
  rw [lastIn_snoc] at h
  by_cases m : d.1 ∈ ps
  · rw [if_pos m] at h
    cases h
    refine ⟨m, by simp, by rw [lastIn_snoc, if_pos List.mem_cons_self], fun z hz => ?_⟩
    rw [placeI_snoc, placeI_snoc, if_pos rfl]
    split
    · exact Int.le_refl _
    · have := placeI_lt S z
      omega
  · rw [if_neg m] at h
    obtain ⟨h1, h2, h3, h4⟩ := ih h
    have ne : ¬ d.1 = c.1 := fun e => m (by rw [e]; exact h1)
    refine ⟨h1, by rw [List.map_append]; exact List.mem_append_left _ h2, by rw [lastIn_snoc, if_neg (fun z => ne (List.mem_singleton.mp z))]; exact h3, fun z hz => ?_⟩
    rw [placeI_snoc, placeI_snoc, if_neg (fun e => m (by rw [e]; exact hz)), if_neg ne]
    exact h4 z hz
theorem placeI_inj {L : List Cl} {x y : Int} : x ∈ L.map (·.1) → placeI L x = placeI L y → x = y := by
  refine snoc_ind (M := fun L => x ∈ L.map (·.1) → placeI L x = placeI L y → x = y) (fun z => by cases z) (fun S d ih h e => ?_) L
  rw [placeI_snoc, placeI_snoc] at e
  have l1 := placeI_lt S x
  have l2 := placeI_lt S y
  by_cases c1 : d.1 = x
  · rw [if_pos c1] at e
    by_cases c2 : d.1 = y
    · rw [← c1, ← c2]
    · rw [if_neg c2] at e
      omega
  · rw [if_neg c1] at e
    by_cases c2 : d.1 = y
    · rw [if_pos c2] at e
      omega
    · rw [if_neg c2] at e
      refine ih ?_ e
      rw [List.map_append] at h
      rcases List.mem_append.mp h with h | h
      · exact h
      · exact absurd (List.mem_singleton.mp h).symm c1
theorem cross_in {A B : List Cl} {rs : List Int} {x y : Int} (hx : x ∈ rs) (hy : y ∈ rs) (h : crossB A B x y = true) : (x, y) ∈ crossF A B rs :=
  List.mem_flatMap.mpr ⟨x, hx, List.mem_map.mpr ⟨y, List.mem_filter.mpr ⟨hy, h⟩, rfl⟩⟩
theorem mem_rg {n : Nat} {x : Int} (h0 : 0 ≤ x) (h1 : x < n) : x ∈ rg n := List.mem_map.mpr ⟨x.toNat, List.mem_range.mpr (by omega), by show ((x.toNat : Nat) : Int) = x; omega⟩
theorem comp_cross {A B : List Cl} {rs : List Int} {r : Nat} {ps : List Int} (iA : InR r A) (iB : InR r B) (hrs : ∀ x, x ∈ rs ↔ x ∈ A.map (·.1)) (eq : ∀ k : Nat, k < r → wordL A k = wordL B k) (ne : wordP A ps ≠ wordP B ps) :
    ∃ x y, (x, y) ∈ crossF A B rs ∧ x ∈ ps ∧ y ∈ ps ∧ ∀ z ∈ ps, placeI A z ≤ placeI A x ∧ placeI B z ≤ placeI B y := by
  have eqz : ∀ z : Int, wordL A z = wordL B z := fun z => by
    by_cases c : 0 ≤ z ∧ z < r
    · have := eq z.toNat (by omega)
      rw [show ((z.toNat : Nat) : Int) = z by omega] at this
      exact this
    · rw [wordL_none.mpr fun m => ?_, wordL_none.mpr fun m => ?_]
      · obtain ⟨c', hc, e⟩ := List.mem_map.mp m
        have := iB c' hc
        rw [e] at this
        exact c this
      · obtain ⟨c', hc, e⟩ := List.mem_map.mp m
        have := iA c' hc
        rw [e] at this
        exact c this
  have memAB : ∀ z, z ∈ A.map (·.1) ↔ z ∈ B.map (·.1) := fun z => by
    have h1 := wordL_none (L := A) (x := z)
    have h2 := wordL_none (L := B) (x := z)
    rw [eqz z] at h1
    have h3 := h1.symm.trans h2
    exact ⟨fun m => Classical.byContradiction fun n => h3.mpr n m, fun m => Classical.byContradiction fun n => h3.mp n m⟩
  have nn : ∀ {L M : List Cl}, (∀ z, z ∈ L.map (·.1) ↔ z ∈ M.map (·.1)) → lastIn ps L = none → lastIn ps M = none := fun {L M} h e => by
    rw [lastIn_none] at e ⊢
    intro c hc m
    obtain ⟨d, hd, e2⟩ := List.mem_map.mp ((h c.1).mpr (List.mem_map.mpr ⟨c, hc, rfl⟩))
    exact e d hd (by rw [e2]; exact m)
  cases ea : lastIn ps A with
  | none => exact absurd (by unfold wordP; rw [ea, nn memAB ea]) ne
  | some cx =>
    cases eb : lastIn ps B with
    | none => exact absurd (by unfold wordP; rw [eb, nn (fun z => (memAB z).symm) eb]) ne
    | some cy =>
      obtain ⟨x1, x2, x3, x4⟩ := lastIn_top A ea
      obtain ⟨y1, y2, y3, y4⟩ := lastIn_top B eb
      have wa : wordP A ps = wordL A cx.1 := by unfold wordP wordL; rw [ea, x3]
      have wb : wordP B ps = wordL A cy.1 := by rw [eqz]; unfold wordP wordL; rw [eb, y3]
      rw [wa, wb] at ne
      have nxy : cx.1 ≠ cy.1 := fun e => ne (by rw [e])
      refine ⟨cx.1, cy.1, cross_in ((hrs _).mpr x2) ((hrs _).mpr ((memAB _).mpr y2)) ?_, x1, y1, fun z hz => ⟨x4 z hz, y4 z hz⟩⟩
      have a1 := x4 _ y1
      have b1 := y4 _ x1
      have a2 : placeI A cy.1 ≠ placeI A cx.1 := fun e => nxy (placeI_inj x2 e.symm)
      have b2 : placeI B cx.1 ≠ placeI B cy.1 := fun e => nxy (placeI_inj y2 e.symm).symm
      unfold crossB
      rw [Bool.and_eq_true, Bool.and_eq_true, decide_eq_true_iff, decide_eq_true_iff, decide_eq_true_iff]
      exact ⟨ne, by omega, by omega⟩
def optS (o : Option Str) : V := match o with
  | some z => .str z
  | none => .non
theorem optS_scal (o o' : Option Str) : scal (optS o) (optS o') = true := by cases o <;> cases o' <;> rfl
theorem optS_inj {o o' : Option Str} (h : optS o = optS o') : o = o' := by
  cases o with
  | none =>
    cases o' with
    | none => rfl
    | some z => cases h
  | some y =>
    cases o' with
    | none => cases h
    | some z => exact congrArg some (V.str.inj h)
theorem wordL_snoc (S : List Cl) (c : Cl) (x : Int) : wordL (S ++ [c]) x = if c.1 = x then some c.2 else wordL S x := by
  unfold wordL lastIn
  rw [List.reverse_append]
  show Option.map _ (List.find? _ (c :: S.reverse)) = _
  by_cases h : c.1 = x
  · rw [List.find?_cons_of_pos (by simp [h]), if_pos h]
    rfl
  · rw [List.find?_cons_of_neg (by simp [h]), if_neg h]
theorem wordsF_get {r : Nat} {L : List Cl} (inr : InR r L) {k : Nat} (hk : k < r) : (wordsF r L)[k]? = some (optS (wordL L k)) := by
  have key : ∀ j, j ≤ L.length → (wordsF r (L.take j))[k]? = some (optS (wordL (L.take j) k)) := by
    intro j
    induction j with
    | zero =>
      intro _
      show (List.replicate r V.non)[k]? = _
      rw [List.getElem?_replicate, if_pos hk]
      rfl
    | succ j ih =>
      intro hj
      have gc : L[j]? = some L[j] := List.getElem?_eq_getElem (by omega)
      have ic := inr L[j] (List.getElem_mem _)
      rw [wordsF_step gc, List.take_add_one, gc]
      show _ = some (optS (wordL (L.take j ++ [L[j]]) k))
      rw [wordL_snoc]
      have ih := ih (by omega)
      generalize L[j] = c at ic
      by_cases h : c.1 = (k : Int)
      · rw [if_pos h, show c.1.toNat = k by omega, List.getElem?_set_self (by rw [wordsF_len]; exact hk)]
        rfl
      · rw [if_neg h, List.getElem?_set_ne (by omega)]
        exact ih
  have := key L.length (Nat.le_refl _)
  rw [List.take_length] at this
  exact this
theorem placeI_mem (L : List Cl) (z : Int) : (z ∈ L.map (·.1) → 0 ≤ placeI L z) ∧ (z ∉ L.map (·.1) → placeI L z = -1) := by
  refine snoc_indJ (M := fun L => (z ∈ L.map (·.1) → 0 ≤ placeI L z) ∧ (z ∉ L.map (·.1) → placeI L z = -1)) ⟨fun h => by simp at h, fun _ => rfl⟩ (fun S c ih => ?_) L
  rw [placeI_snoc]
  by_cases h : c.1 = z
  · rw [if_pos h]
    exact ⟨fun _ => Int.natCast_nonneg _, fun n => absurd (by rw [List.map_append, ← h]; simp) n⟩
  · rw [if_neg h]
    have e : z ∈ (S ++ [c]).map (·.1) ↔ z ∈ S.map (·.1) := by
      rw [List.map_append, List.mem_append]
      exact ⟨fun m => m.elim id fun m => absurd (List.mem_singleton.mp m).symm h, .inl⟩
    rw [e]
    exact ih
theorem lastF_snocJ (S : List Cl) (c : Cl) : lastF (S ++ [c]) = (lastF S).filter (fun a => decide (a.1 ≠ c.1)) ++ [c] := by
  induction S with
  | nil => rfl
  | cons d S ih =>
    show (if d.1 ∈ (S ++ [c]).map (·.1) then lastF (S ++ [c]) else d :: lastF (S ++ [c])) = (if d.1 ∈ S.map (·.1) then lastF S else d :: lastF S).filter _ ++ [c]
    by_cases h : d.1 ∈ S.map (·.1)
    · rw [if_pos h, if_pos (by rw [List.map_append]; exact List.mem_append_left _ h), ih]
    · rw [if_neg h]
      by_cases h2 : d.1 = c.1
      · rw [if_pos (by rw [List.map_append, h2]; simp), ih, List.filter_cons_of_neg (by simp [h2])]
      · rw [if_neg (by rw [List.map_append, List.mem_append]; exact fun m => m.elim h fun m => h2 (List.mem_singleton.mp m)), ih, List.filter_cons_of_pos (by simp [h2])]
        rfl
theorem place_pw (L : List Cl) : (lastF L).Pairwise (fun a b => placeI L a.1 < placeI L b.1) ∧ ∀ a ∈ lastF L, placeI L a.1 < L.length := by
  refine snoc_indJ (M := fun L => (lastF L).Pairwise (fun a b => placeI L a.1 < placeI L b.1) ∧ ∀ a ∈ lastF L, placeI L a.1 < L.length) ⟨List.Pairwise.nil, fun a h => by cases h⟩ (fun S c ih => ?_) L
  obtain ⟨h1, h2⟩ := ih
  rw [lastF_snocJ]
  have ne : ∀ a ∈ (lastF S).filter (fun a => decide (a.1 ≠ c.1)), a ∈ lastF S ∧ placeI (S ++ [c]) a.1 = placeI S a.1 := fun a ha => by
    obtain ⟨m, e⟩ := List.mem_filter.mp ha
    refine ⟨m, ?_⟩
    rw [placeI_snoc, if_neg fun z => of_decide_eq_true e z.symm]
  have pc : placeI (S ++ [c]) c.1 = S.length := by rw [placeI_snoc, if_pos rfl]
  refine ⟨List.pairwise_append.mpr ⟨?_, List.pairwise_singleton _ _, fun a ha b hb => ?_⟩, fun a ha => ?_⟩
  · refine List.Pairwise.imp_of_mem (fun {a b} ha hb h => ?_) (h1.filter _)
    rw [(ne a ha).2, (ne b hb).2]
    exact h
  · rw [List.mem_singleton.mp hb, (ne a ha).2, pc]
    exact h2 a (ne a ha).1
  · rw [List.length_append, List.length_singleton]
    rcases List.mem_append.mp ha with m | m
    · have := h2 a (ne a m).1
      rw [(ne a m).2]
      omega
    · rw [List.mem_singleton.mp m, pc]
      omega
/-- the rooms that are called behind the k-th call -/
def laterF (M : List Cl) (k : Nat) : List Int := (M.drop (k + 1)).map (·.1)
def earlyL (r : Nat) (M : List Cl) (k : Nat) : List Int := (rg r).filter fun z => decide (z ∉ laterF M k)
theorem lastF_memJ (L : List Cl) (x : Int) : x ∈ (lastF L).map (·.1) ↔ x ∈ L.map (·.1) := by
  induction L with
  | nil => exact Iff.rfl
  | cons c S ih =>
    show x ∈ (if c.1 ∈ S.map (·.1) then lastF S else c :: lastF S).map (·.1) ↔ _
    by_cases h : c.1 ∈ S.map (·.1)
    · rw [if_pos h, ih, List.map_cons, List.mem_cons]
      exact ⟨.inr, fun z => z.elim (fun e => by rw [e]; exact h) id⟩
    · rw [if_neg h, List.map_cons, List.map_cons, List.mem_cons, List.mem_cons, ih]
theorem later_iff {L : List Cl} {k : Nat} {c : Cl} (g : (lastF L)[k]? = some c) (z : Int) : z ∈ laterF (lastF L) k ↔ placeI L c.1 < placeI L z := by
  obtain ⟨hk, ec⟩ := List.getElem?_eq_some_iff.mp g
  have pw := List.pairwise_iff_getElem.mp (place_pw L).1
  have c0 : 0 ≤ placeI L c.1 := (placeI_mem L c.1).1 ((lastF_memJ L c.1).mp (List.mem_map.mpr ⟨c, List.mem_of_getElem? g, rfl⟩))
  constructor
  · intro h
    obtain ⟨b, hb, rfl⟩ := List.mem_map.mp h
    obtain ⟨j, hj⟩ := List.getElem?_of_mem hb
    rw [List.getElem?_drop] at hj
    obtain ⟨hj1, ej⟩ := List.getElem?_eq_some_iff.mp hj
    have := pw k (k + 1 + j) hk hj1 (by omega)
    rw [ec, ej] at this
    exact this
  · intro h
    have hz : z ∈ (lastF L).map (·.1) := (lastF_memJ L z).mpr (Classical.byContradiction fun n => by
      have := (placeI_mem L z).2 n
      omega)
    obtain ⟨b, hb, rfl⟩ := List.mem_map.mp hz
    obtain ⟨j, hj⟩ := List.getElem?_of_mem hb
    obtain ⟨hj1, ej⟩ := List.getElem?_eq_some_iff.mp hj
    have lt : k < j := by
      rcases Nat.lt_trichotomy j k with q | q | q
      · have := pw j k hj1 hk q
        rw [ec, ej] at this
        omega
      · subst q
        rw [ec] at ej
        rw [ej] at h
        omega
      · exact q
    refine List.mem_map.mpr ⟨b, List.mem_of_getElem? (i := j - (k + 1)) ?_, rfl⟩
    rw [List.getElem?_drop, show k + 1 + (j - (k + 1)) = j by omega]
    exact hj
theorem lastF_ndJ (L : List Cl) : ((lastF L).map (·.1)).Nodup := by
  induction L with
  | nil => exact List.nodup_nil
  | cons c S ih =>
    show ((if c.1 ∈ S.map (·.1) then lastF S else c :: lastF S).map (·.1)).Nodup
    by_cases h : c.1 ∈ S.map (·.1)
    · rw [if_pos h]; exact ih
    · rw [if_neg h, List.map_cons]
      exact List.nodup_cons.mpr ⟨fun z => h ((lastF_memJ S c.1).mp z), ih⟩
theorem lastF_twice (L : List Cl) : lastF (lastF L) = lastF L := lastF_id (lastF_ndJ L)
/-- the same last words -/
def SameW (A B : List Cl) : Prop := ∀ x : Int, wordL A x = wordL B x
theorem SameW.mem {A B : List Cl} (h : SameW A B) (z : Int) : z ∈ A.map (·.1) ↔ z ∈ B.map (·.1) := by
  have h1 := wordL_none (L := A) (x := z)
  have h2 := wordL_none (L := B) (x := z)
  rw [h z] at h1
  have h3 := h1.symm.trans h2
  exact ⟨fun m => Classical.byContradiction fun n => h3.mpr n m, fun m => Classical.byContradiction fun n => h3.mp n m⟩
theorem hall_mem {r : Nat} {A B : List Cl} {x y z : Int} : z ∈ hallF r A B x y ↔ (0 ≤ z ∧ z < r) ∧ placeI A z ≤ placeI A x ∧ placeI B z ≤ placeI B y := by
  unfold hallF
  rw [List.mem_filter, Bool.and_eq_true, decide_eq_true_iff, decide_eq_true_iff]
  refine and_congr_left fun _ => ⟨fun h => ?_, fun h => mem_rg h.1 h.2⟩
  obtain ⟨n, hn, rfl⟩ := List.mem_map.mp h
  have := List.mem_range.mp hn
  exact ⟨Int.natCast_nonneg _, Int.ofNat_lt.mpr this⟩
/-- rooms that hang together -/
def IsPart (D : List Pr) (r : Nat) (ys : List Int) : Prop := ys ≠ [] ∧ Up ys ∧ (∀ x ∈ ys, 0 ≤ x ∧ x < r) ∧ ∀ x ∈ ys, Rch D ys (hdI ys) x
theorem mem_crossF {A B : List Cl} {rs : List Int} {d : Pr} : d ∈ crossF A B rs ↔ d.1 ∈ rs ∧ d.2 ∈ rs ∧ crossB A B d.1 d.2 = true := by
  unfold crossF crossR
  rw [List.mem_flatMap]
  constructor
  · rintro ⟨x, hx, h⟩
    obtain ⟨y, hy, rfl⟩ := List.mem_map.mp h
    obtain ⟨h1, h2⟩ := List.mem_filter.mp hy
    exact ⟨hx, h1, h2⟩
  · rintro ⟨h1, h2, h3⟩
    exact ⟨d.1, h1, List.mem_map.mpr ⟨d.2, List.mem_filter.mpr ⟨h2, h3⟩, rfl⟩⟩
/-- the word of rooms of which x is called last -/
theorem wordP_of_top {L : List Cl} {ys : List Int} {x : Int} (hx : x ∈ ys) (hl : x ∈ L.map (·.1)) (top : ∀ z ∈ ys, placeI L z ≤ placeI L x) : wordP L ys = wordL L x := by
  cases e : lastIn ys L with
  | none =>
    obtain ⟨c, hc, ec⟩ := List.mem_map.mp hl
    exact absurd (by rw [ec]; exact hx) (lastIn_none.mp e c hc)
  | some c =>
    obtain ⟨c1, c2, c3, c4⟩ := lastIn_top L e
    have e1 := top _ c1
    have e2 := c4 _ hx
    have ex : c.1 = x := placeI_inj c2 (by omega)
    unfold wordP wordL
    rw [e, ← ex, c3]
theorem rg_up (n : Nat) : Up (rg n) := by
  unfold Up rg
  refine List.pairwise_map.mpr (List.Pairwise.imp (fun {a b} h => ?_) (List.pairwise_lt_range (n := n)))
  exact Int.ofNat_lt.mpr h
theorem mem_rg_iff {n : Nat} {x : Int} : x ∈ rg n ↔ 0 ≤ x ∧ x < n := by
  refine ⟨fun h => ?_, fun h => mem_rg h.1 h.2⟩
  obtain ⟨k, hk, rfl⟩ := List.mem_map.mp h
  have := List.mem_range.mp hk
  exact ⟨Int.natCast_nonneg _, Int.ofNat_lt.mpr this⟩
theorem parted_iff {A B : List Cl} {rs : List Int} {r : Nat} {D : List Pr} (iA : InR r A) (iB : InR r B) (hrs : ∀ x, x ∈ rs ↔ x ∈ A.map (·.1)) (eq : SameW A B) :
    (∃ ys, IsPart D r ys ∧ wordP A ys ≠ wordP B ys) ↔ ∃ d ∈ crossF A B rs, Rch D (hallF r A B d.1 d.2) d.1 d.2 := by
  constructor
  · rintro ⟨ys, ⟨_, _, hin, hc⟩, ne⟩
    obtain ⟨x, y, m, hx, hy, htop⟩ := comp_cross iA iB hrs (fun k _ => eq k) ne
    refine ⟨(x, y), m, Rch.mono ((hc x hx).symm.trans (hc y hy)) fun z hz => hall_mem.mpr ⟨hin z hz, htop z hz⟩⟩
  · rintro ⟨⟨x, y⟩, m, h⟩
    obtain ⟨mx, my, cb⟩ := mem_crossF.mp m
    simp only at mx my cb h
    unfold crossB at cb
    rw [Bool.and_eq_true, Bool.and_eq_true, decide_eq_true_iff] at cb
    have cl : ∀ z, Rch D (hallF r A B x y) x z → z ∈ (rg r).filter (fun z => @decide (Rch D (hallF r A B x y) x z) (Classical.propDecidable _)) := fun z hz =>
      List.mem_filter.mpr ⟨mem_rg_iff.mpr (hall_mem.mp hz.mem).1, by simpa using hz⟩
    obtain ⟨ys, hys⟩ : ∃ ys, ys = (rg r).filter (fun z => @decide (Rch D (hallF r A B x y) x z) (Classical.propDecidable _)) := ⟨_, rfl⟩
    rw [← hys] at cl
    have my2 : ∀ z, z ∈ ys → Rch D (hallF r A B x y) x z := fun z hz => by
      rw [hys] at hz
      simpa using (List.mem_filter.mp hz).2
    have xy : x ∈ ys := cl x (.base h.start)
    have yy : y ∈ ys := cl y h
    have inY : ∀ z, Rch D (hallF r A B x y) x z → Rch D ys x z := fun z hz => by
      induction hz with
      | base k => exact .base xy
      | step k a b ih => exact ih.step a (cl _ (k.step a b))
    have hall : ∀ z ∈ ys, placeI A z ≤ placeI A x ∧ placeI B z ≤ placeI B y := fun z hz => (hall_mem.mp (my2 z hz).mem).2
    refine ⟨ys, ⟨(fun e => by rw [e] at xy; cases xy), (by rw [hys]; exact (rg_up r).filter _), fun z hz => (hall_mem.mp (my2 z hz).mem).1, fun z hz => ?_⟩, ?_⟩
    · exact (inY _ (my2 _ (hdI_mem xy))).symm.trans (inY z (my2 z hz))
    · rw [wordP_of_top xy ((hrs x).mp mx) fun z hz => (hall z hz).1, wordP_of_top yy ((eq.mem y).mp ((hrs y).mp my)) fun z hz => (hall z hz).2, ← eq y]
      exact cb.1

/-! ### certificates.py: same_last_words, alike_certificate -/
abbrev sSlw : Stmt := topS 15
theorem same_w_iff {A B : List Cl} : (((lastF A).map kvOf).length = ((lastF B).map kvOf).length ∧ ∀ p ∈ (lastF A).map kvOf, valV ((lastF B).map kvOf) p.1 = some p.2) ↔ SameW A B := by
  have key : ∀ c ∈ lastF A, wordL A c.1 = some c.2 := fun c hc => by
    have h := lastF_val A c.1
    have nd := lastF_ndJ A
    have e : valV ((lastF A).map kvOf) (Sum.inl c.1 : Key) = some (.str c.2) := by
      clear h
      generalize lastF A = M at hc nd
      induction M with
      | nil => cases hc
      | cons d M ih =>
        obtain ⟨n1, n2⟩ := List.nodup_cons.mp nd
        rcases List.mem_cons.mp hc with rfl | hc
        · exact valV_pos rfl
        · refine (valV_neg fun z => ?_).trans (ih hc n2)
          exact n1 (List.mem_map.mpr ⟨c, hc, (Sum.inl.inj z).symm⟩)
    rw [e] at h
    cases ew : wordL A c.1 with
    | none => rw [ew] at h; cases h
    | some z =>
      rw [ew] at h
      rw [V.str.inj (Option.some.inj h)]
  rw [List.length_map, List.length_map]
  constructor
  · rintro ⟨hl, hv⟩ x
    have hv2 : ∀ c ∈ lastF A, wordL B c.1 = some c.2 := fun c hc => by
      have := hv (kvOf c) (List.mem_map.mpr ⟨c, hc, rfl⟩)
      rw [lastF_val] at this
      cases ew : wordL B c.1 with
      | none => rw [ew] at this; cases this
      | some z =>
        rw [ew] at this
        rw [V.str.inj (Option.some.inj this)]
    have sub : ∀ z ∈ (lastF A).map (·.1), z ∈ (lastF B).map (·.1) := fun z hz => by
      obtain ⟨c, hc, rfl⟩ := List.mem_map.mp hz
      refine (lastF_memJ B c.1).mpr (Classical.byContradiction fun n => ?_)
      have := hv2 c hc
      rw [wordL_none.mpr n] at this
      cases this
    have all : ∀ z ∈ (lastF B).map (·.1), z ∈ (lastF A).map (·.1) := fun z hz => Classical.byContradiction fun n => by
      have h1 := pig ((lastF B).map (·.1)) (z :: (lastF A).map (·.1)) (List.nodup_cons.mpr ⟨n, lastF_ndJ A⟩) fun y hy => by
        rcases List.mem_cons.mp hy with rfl | hy
        · exact hz
        · exact sub y hy
      rw [List.length_cons, List.length_map, List.length_map] at h1
      omega
    by_cases m : x ∈ (lastF A).map (·.1)
    · obtain ⟨c, hc, rfl⟩ := List.mem_map.mp m
      rw [key c hc, hv2 c hc]
    · rw [wordL_none.mpr fun z => m ((lastF_memJ A x).mpr z), wordL_none.mpr fun z => m (all x ((lastF_memJ B x).mpr z))]
  · intro h
    refine ⟨?_, fun p hp => ?_⟩
    · have e1 := pig ((lastF B).map (·.1)) ((lastF A).map (·.1)) (lastF_ndJ A) fun y hy => (lastF_memJ B y).mpr ((h.mem y).mp ((lastF_memJ A y).mp hy))
      have e2 := pig ((lastF A).map (·.1)) ((lastF B).map (·.1)) (lastF_ndJ B) fun y hy => (lastF_memJ A y).mpr ((h.mem y).mpr ((lastF_memJ B y).mp hy))
      rw [List.length_map, List.length_map] at e1 e2
      omega
    · obtain ⟨c, hc, rfl⟩ := List.mem_map.mp hp
      show valV ((lastF B).map kvOf) (Sum.inl c.1 : Key) = _
      rw [lastF_val, ← h c.1, key c hc]
      rfl
section
variable {P : Program} {w : World} {K : PySem.W.Frag} {mg : Str → Option Value} {base : Heap}
theorem scSlw : FnScope ["first", "second"] ["first", "second"] (defScope sSlw) := ⟨rfl, rfl, rfl, by decide +kernel, rfl, by decide +kernel, by decide +kernel⟩
def spSlw : Sp := fun vs H Q _ => ∃ (a b : Addr) (us ws : List V) (A B : List Cl), vs = [.ref a, .ref b] ∧ H a = some (.lst us) ∧ LG H us A ∧ A.length ≤ 1000 ∧ H b = some (.lst ws) ∧ LG H ws B ∧ B.length ≤ 1000 ∧ ∀ (c : Bool) (H' : Hp), (c = true ↔ SameW A B) → Same H H' → Q (.bl c) H'
theorem ok_slw {f fA : Addr} {fd fdA : FuncData} (F : Fun K "same_last_words" "same_last_words" sSlw f fd) (T : Bi mg) (nd : mg "dict" = none) (d_last_calls : Df P w K mg base "last_calls" ["log"] 1 spLast fA fdA) : FnOk P w K mg base CX0 2 f fd ["first", "second"] spSlw := by
  refine F.ok scSlw (fun vs H Q E h => ?_) (fun cdv A0 outer s H vs Q E hr h => ?_)
  · obtain ⟨a, b, us, ws, A, B, rfl, _⟩ := h
    rfl
  · obtain ⟨a, b, us, ws, A, B, rfl, ha, la, al, hb, lb, bl, ret⟩ := h
    refine ⟨_, (pss_one (ps_ret (pe_cmpR (op_eqDS (Nat.lt_of_le_of_lt (Nat.le_add_right _ 64) hr.units)) (pe_callTy (call_dictP rfl) (by rfl) nd (by decide +kernel) (pa_cons (pe_call d_last_calls.ok (hr.mono (by decide)) (by rfl) d_last_calls.at_ d_last_calls.kp d_last_calls.b .nil pass0 (pa_cons (pv 0) pa_nil)) pa_nil)) (pe_callTy (call_dictP rfl) (by rfl) nd (by decide +kernel) (pa_cons (pe_call d_last_calls.ok (hr.mono (by decide)) (by rfl) d_last_calls.at_ d_last_calls.kp d_last_calls.b .nil pass0 (pa_cons (pv 1) pa_nil)) pa_nil)) (nomark _)))), ?_⟩
    have ndk : ∀ L : List Cl, (((lastF L).map kvOf).map (·.1)).Nodup := fun L => by
      rw [List.map_map]
      show ((lastF L).map fun c => (Sum.inl c.1 : Key)).Nodup
      have := lastF_nd L
      refine List.pairwise_map.mpr (List.Pairwise.imp (fun {x y} h z => h ?_) (List.pairwise_map.mp this))
      exact Sum.inl.inj z
    have em : ∀ L : List Cl, mergeK [] ((lastF L).map kvOf) = (lastF L).map kvOf := fun L => (merge_nd _ [] (ndk L) fun k _ => List.not_mem_nil).trans (List.nil_append _)
    walk_at "rd"
    refine ⟨a, us, A, rfl, ha, la, al, fun zs t H1 s1 nt ht lz => ?_⟩
    obtain ⟨ps, rfl, pr⟩ := lg_refs (K := K) lz
    refine ⟨t, rfl, ps, SqL.of ht, _, pr, fun p np => ?_⟩
    rw [em A]
    have s2 := s1.trans (same_upd (o := HO.dK ((lastF A).map kvOf)) np)
    have hp := upd_same (H := H1) (a := p) (o := HO.dK ((lastF A).map kvOf))
    generalize upd H1 p (HO.dK ((lastF A).map kvOf)) = H2 at s2 hp ⊢
    refine ⟨b, ws, B, rfl, s2 _ _ hb, lb.kt (KT.same s2), bl, fun zs2 t2 H3 s3 nt2 ht2 lz2 => ?_⟩
    obtain ⟨ps2, rfl, pr2⟩ := lg_refs (K := K) lz2
    refine ⟨t2, rfl, ps2, SqL.of ht2, _, pr2, fun p2 np2 => ?_⟩
    rw [em B]
    have s4 := same_upd (o := HO.dK ((lastF B).map kvOf)) np2
    have hp2 := upd_same (H := H3) (a := p2) (o := HO.dK ((lastF B).map kvOf))
    generalize upd H3 p2 (HO.dK ((lastF B).map kvOf)) = H4 at s4 hp2 ⊢
    refine ⟨p, p2, _, _, rfl, rfl, s4 _ _ (s3 _ _ hp), hp2, fun q hq => ?_, fun k v hv => ?_, fun c hc => ret c H4 (hc.trans same_w_iff) (s2.trans (s3.trans s4))⟩
    · obtain ⟨c, _, rfl⟩ := List.mem_map.mp hq
      exact ⟨c.2, rfl⟩
    · obtain ⟨kv, m, e⟩ := valV_mem hv
      obtain ⟨c, _, rfl⟩ := List.mem_map.mp m
      exact ⟨c.2, e.symm⟩
end

/-! ### _law_own, _law_crossed, _law_hall -/
abbrev sLow : Stmt := topS 39
abbrev sLcr : Stmt := topS 41
abbrev sLhl : Stmt := topS 42
theorem idx_ok {K : PySem.W.Frag} {a : Addr} {ns : List Int} {x : Int} {j : Nat} {H : Hp} {Q : VK} (h : SqL K H a (ns.map V.int)) (g : ns[j]? = some x) (nd : ns.Nodup) (q : Q (.int (j : Nat)) H) : rIndex K (.ref a) [.int x] H Q := by
  refine ⟨a, ns.map V.int, .int x, j, .int x, rfl, rfl, h, rfl, flI _, by rw [List.getElem?_map, g]; rfl, by unfold eqV; simp, fun m z' hm gz => ?_, q⟩
  rw [List.getElem?_map] at gz
  cases e : ns[m]? with
  | none => rw [e] at gz; cases gz
  | some y =>
    rw [e] at gz
    have ez := Option.some.inj gz
    subst ez
    have ne : y ≠ x := fun z => by
      subst z
      have := nd_ix nd e g
      omega
    show eqV (.int y) (.int x) = false
    unfold eqV
    simpa using ne
/-- places in the order of the last calls -/
theorem ix_lt {L : List Cl} {i j : Nat} {x y : Int} (gx : ((lastF L).map (·.1))[i]? = some x) (gy : ((lastF L).map (·.1))[j]? = some y) : i < j ↔ placeI L x < placeI L y := by
  rw [List.getElem?_map] at gx gy
  cases ex : (lastF L)[i]? with
  | none => rw [ex] at gx; cases gx
  | some c =>
    cases ey : (lastF L)[j]? with
    | none => rw [ey] at gy; cases gy
    | some d =>
      rw [ex] at gx
      rw [ey] at gy
      have e1 := Option.some.inj gx
      have e2 := Option.some.inj gy
      subst e1
      subst e2
      rw [← later_iff ex]
      constructor
      · intro h
        refine List.mem_map.mpr ⟨d, List.mem_of_getElem? (i := j - (i + 1)) ?_, rfl⟩
        rw [List.getElem?_drop, show i + 1 + (j - (i + 1)) = j by omega]
        exact ey
      · intro h
        obtain ⟨b, hb, e⟩ := List.mem_map.mp h
        obtain ⟨k, hk⟩ := List.getElem?_of_mem hb
        rw [List.getElem?_drop] at hk
        have g1 : ((lastF L).map (·.1))[i + 1 + k]? = some d.1 := by rw [List.getElem?_map, hk]; exact congrArg some e
        have g2 : ((lastF L).map (·.1))[j]? = some d.1 := by rw [List.getElem?_map, ey]; rfl
        have := nd_ix (lastF_ndJ L) g1 g2
        omega
theorem fm_const {β : Type} (n : Nat) (x : β) : (List.range n).filterMap (fun _ => some x) = List.replicate n x := by
  induction n with
  | zero => rfl
  | succ n ih => rw [fm_step, ih, List.replicate_succ']
section
variable {P : Program} {w : World} {K : PySem.W.Frag} {mg : Str → Option Value} {base : Heap}
theorem scLow : FnScope ["rooms", "log", "words", "call", "r"] ["rooms", "log"] (defScope sLow) := ⟨rfl, rfl, rfl, by decide +kernel, rfl, by decide +kernel, by decide +kernel⟩
def spLow : Sp := fun vs H Q _ => ∃ (g : Addr) (gs : List V) (L : List Cl) (r : Nat), vs = [.int r, .ref g] ∧ H g = some (.lst gs) ∧ LG H gs L ∧ InR r L ∧ r ≤ 12 ∧ ∀ p H', Same H H' → H p = none → H' p = some (.lst (wordsF r L)) → Q (.ref p) H'
theorem ok_low {f : Addr} {fd : FuncData} (F : Fun K "_law_own" "_law_own" sLow f fd) (T : Bi mg) : FnOk P w K mg base CX0 1 f fd ["rooms", "log"] spLow := by
  refine F.ok scLow (fun vs H Q E h => ?_) (fun cdv A0 outer s H vs Q E hr h => ?_)
  · obtain ⟨g, gs, L, r, rfl, _⟩ := h
    rfl
  · obtain ⟨g, gs, L, r, rfl, hg, lg, inr, r12, ret⟩ := h
    refine ⟨_, (pss_cons (ps_setLc (i := 2) (own := [("r", 4)]) (te := (tC .non)) (by rfl) scLow.nd rfl rfl (sw_true rfl rfl rfl (by decide +kernel)) (pi_range1 (by rfl) T.range (pa_cons (pv 0) pa_nil)) (blkOk_by (N := ["rooms", "log", "words", "call", "r"]) (sc := defScope sLow) (by decide +kernel)) (fun _ _ _ _ _ => pg_name (i := 4) scLow.nd rfl (Or.inl rfl)) (fun _ _ _ _ _ => pts_nil) (fun _ _ _ _ _ => pe_non))
      (pss_cons (ps_for PassesOwn.never rfl (pi_list (pv 1)) (pg_name (i := 3) scLow.nd rfl (Or.inl rfl))
      (pss_one (ps_asg (pe_ix ix_tup (pv 3) pe_int (fun _ _ => rfl)) (pg_sub (pv 2) (pe_ix ix_tup (pv 3) pe_int (fun _ _ => rfl)) set_list))))
      (pss_one (ps_ret (pv 2))))), ?_⟩
    walk_at "rd"
    refine lcW ?_
    walk_at "rd"
    refine ⟨by omega, by omega, gc_range (fun _ v (b : V) => v = b) (fun _ _ _ _ h _ => h) (fun _ => some V.non) (by omega) (fun j Hx A B jl sx hA hB => ?_) fun o ys H1 s1 no ho pr => ?_⟩
    · exact hA _ _ Hx rfl (Same.refl _) rfl
    have ey : ys = wordsF r [] := by
      have e1 : ∀ {a b : List V}, Paired (fun (v b : V) => v = b) a b → a = b := fun {a b} h => by
        induction h with
        | nil => rfl
        | cons r _ ih => rw [r, ih]
      rw [e1 pr, Int.toNat_natCast]
      exact fm_const r V.non
    subst ey
    refine for_iterW ?_
    walk_at "rd"
    obtain ⟨Pv, hPv⟩ : ∃ Pv : Nat → L2.St → Hp → Prop, Pv = (fun i σ H' => ∃ v3 : Option V, σ = [some (.int r), some (.ref g), some (.ref o), v3, none] ∧ Same H H' ∧ H' o = some (.lst (wordsF r (L.take i)))) := ⟨_, rfl⟩
    refine ⟨⟨_, SqL.of (s1 _ _ hg)⟩, for_list (K := K) (a := g) (xs := gs) Pv (by rw [hPv]; exact ⟨none, rfl, s1, ho⟩) (fun i σ H' _ pv => by rw [hPv] at pv; obtain ⟨_, _, sm, _⟩ := pv; exact SqL.of (sm _ _ hg)) (fun i v σ H' gv pv => ?_) (fun σ H' pv => ?_)⟩
    · rw [hPv] at pv
      obtain ⟨v3, rfl, sm, ht⟩ := pv
      obtain ⟨c, gc, tc, rfl, htc⟩ := pget lg gv
      have rc := inr c (List.mem_of_getElem? gc)
      walk_at "rd"
      refine ⟨_, SqT.of (sm _ _ htc), .str c.2, rfl, _, SqT.of (sm _ _ htc), .int c.1, rfl, _, c.1, rfl, ht, c.1.toNat, ixn (by omega) (by rw [wordsF_len]; omega), ?_⟩
      rw [hPv]
      refine ⟨_, rfl, same_ch sm no, ?_⟩
      rw [upd_same, wordsF_step gc]
    · rw [hPv] at pv
      obtain ⟨v3, rfl, sm, ht⟩ := pv
      rw [lg.len, List.take_length] at ht
      walk_at "rd"
      exact ret o H' sm no ht
theorem scLcr : FnScope ["own", "order", "other", "pairs", "x", "y"] ["own", "order", "other"] (defScope sLcr) := ⟨rfl, rfl, rfl, by decide +kernel, rfl, by decide +kernel, by decide +kernel⟩
def spLcr : Sp := fun vs H Q _ => ∃ (w o q : Addr) (A B : List Cl) (r : Nat) (W : List V) (own : Int → Option Str), vs = [.ref w, .ref o, .ref q] ∧ H w = some (.lst W) ∧ H o = some (.lst (((lastF A).map (·.1)).map V.int)) ∧ H q = some (.lst (((lastF B).map (·.1)).map V.int)) ∧ InR r A ∧ r ≤ 12 ∧ (∀ x : Nat, x < r → W[x]? = some (optS (own x))) ∧ (∀ x, x ∈ A.map (·.1) → own x = wordL A x ∧ x ∈ B.map (·.1)) ∧
  ∀ (rs : List Int) (zs : List V) (t : Addr) (H' : Hp), rs.Pairwise (· < ·) → (∀ x, x ∈ rs ↔ x ∈ A.map (·.1)) → Same H H' → H t = none → H' t = some (.lst zs) → PL H' zs (crossF A B rs) → Q (.ref t) H'
theorem ok_lcr {f : Addr} {fd : FuncData} (F : Fun K "_law_crossed" "_law_crossed" sLcr f fd) (T : Bi mg) : FnOk P w K mg base CX0 1 f fd ["own", "order", "other"] spLcr := by
  refine F.ok scLcr (fun vs H Q E h => ?_) (fun cdv A0 outer s H vs Q E hr h => ?_)
  · obtain ⟨w, o, q, A, B, r, W, own, rfl, _⟩ := h
    rfl
  · obtain ⟨w, o, q, A, B, r, W, own, rfl, hw, ho, hq, iA, r12, hW, hown, ret⟩ := h
    refine ⟨_, (pss_cons (ps_set (i := 3) scLcr.nd rfl (Or.inl rfl) (pe_lst pa_nil))
      (pss_cons (ps_for PassesOwn.never rfl (pi_list (pe_callB cr_sorted (by rfl) T.sorted (by decide +kernel) (pa_cons (pv 1) pa_nil))) (pg_name (i := 4) scLcr.nd rfl (Or.inl rfl))
      (pss_one (ps_for PassesOwn.never rfl (pi_list (pe_callB cr_sorted (by rfl) T.sorted (by decide +kernel) (pa_cons (pv 1) pa_nil))) (pg_name (i := 5) scLcr.nd rfl (Or.inl rfl))
        (pss_one (ps_if (PW.pt (pw_and (pt_cmpR op_ne (pe_ix ix_list (pv 0) (pv 4) (fun _ _ => rfl)) (pe_ix ix_list (pv 0) (pv 5) (fun _ _ => rfl)) (nomark _)) (pw_and (pt_cmpR op_gt (pe_bm PySem.F.plainAttrs_list PySem.F.slot_list_index PySem.F.type_list_index mt_index (pv 1) (pa_cons (pv 4) pa_nil)) (pe_bm PySem.F.plainAttrs_list PySem.F.slot_list_index PySem.F.type_list_index mt_index (pv 1) (pa_cons (pv 5) pa_nil)) (nomark _)) (pw_and1 (pt_cmpR op_lt (pe_bm PySem.F.plainAttrs_list PySem.F.slot_list_index PySem.F.type_list_index mt_index (pv 2) (pa_cons (pv 4) pa_nil)) (pe_bm PySem.F.plainAttrs_list PySem.F.slot_list_index PySem.F.type_list_index mt_index (pv 2) (pa_cons (pv 5) pa_nil)) (nomark _))))))
          (pss_one (ps_expr (pe_bm PySem.F.plainAttrs_list PySem.F.slot_list_append PySem.F.type_list_append mt_append (pv 3) (pa_cons (pe_tup (pa_cons (pv 4) (pa_cons (pv 5) pa_nil))) pa_nil))))
          pss_nil)))))
      (pss_one (ps_ret (pv 3))))), ?_⟩
    walk_at "rd"
    have ndA := lastF_ndJ A
    have memA : ∀ x, x ∈ (lastF A).map (·.1) ↔ x ∈ A.map (·.1) := lastF_memJ A
    have inA : ∀ x : Int, x ∈ A.map (·.1) → 0 ≤ x ∧ x < r := fun x hx => by
      obtain ⟨c, hc, rfl⟩ := List.mem_map.mp hx
      exact iA c hc
    have lenA : ((lastF A).map (·.1)).length ≤ 12 := by
      have := ints_len (r := r) ndA fun x hx => inA x ((memA x).mp hx)
      omega
    have upOf : ∀ {ys : List Int}, ys.Perm ((lastF A).map (·.1)) → ys.Pairwise (· ≤ ·) → Up ys := fun pm so => up_of pm ndA so
    refine ⟨by decide, fun pl npl => ?_⟩
    have s0 := same_upd (o := HO.lst []) npl
    have hpl := upd_same (H := H) (a := pl) (o := HO.lst [])
    generalize upd H pl (HO.lst []) = H0 at s0 hpl ⊢
    refine for_iterW ?_
    walk_at "rd"
    refine ⟨o, _, rfl, SqL.of (s0 _ _ ho), by omega, fun rs t pm so nt => ?_⟩
    have upR : Up rs := upOf pm so
    have memR : ∀ x, x ∈ rs ↔ x ∈ A.map (·.1) := fun x => pm.mem_iff.trans (memA x)
    have lenR : rs.length ≤ 12 := by rw [pm.length_eq]; exact lenA
    have s1 := same_upd (o := HO.lst (rs.map V.int)) nt
    have ht := upd_same (H := H0) (a := t) (o := HO.lst (rs.map V.int))
    have hpl1 := s1 _ _ hpl
    have npt : pl ≠ t := ne_of_none hpl nt
    generalize upd H0 t (HO.lst (rs.map V.int)) = H1 at s1 ht hpl1 ⊢
    have s01 := s0.trans s1
    obtain ⟨Pv, hPv⟩ : ∃ Pv : Nat → L2.St → Hp → Prop, Pv = (fun i σ Hx => ∃ (zs : List V) (v4 v5 : Option V), σ = [some (.ref w), some (.ref o), some (.ref q), some (.ref pl), v4, v5] ∧ Same H Hx ∧ Hx t = some (.lst (rs.map V.int)) ∧ Hx pl = some (.lst zs) ∧ PL Hx zs ((rs.take i).flatMap (crossR A B rs))) := ⟨_, rfl⟩
    refine ⟨t, rfl, ⟨_, SqL.of ht⟩, for_list (K := K) (a := t) (xs := rs.map V.int) Pv (by rw [hPv]; exact ⟨[], none, none, rfl, s01, ht, hpl1, PL.nil0 _⟩) (fun i σ Hx _ pv => by rw [hPv] at pv; obtain ⟨_, _, _, _, _, h, _⟩ := pv; exact SqL.of h) (fun i v σ Hx gv pv => ?_) (fun σ Hx pv => ?_)⟩
    rotate_left
    · rw [hPv] at pv
      obtain ⟨zs, v4, v5, rfl, sm, _, hz, pz⟩ := pv
      rw [List.length_map, List.take_length] at pz
      walk_at "rd"
      exact ret rs zs pl Hx upR memR sm npl hz pz
    obtain ⟨x, gx, rfl⟩ : ∃ x, rs[i]? = some x ∧ v = V.int x := by
      rw [List.getElem?_map] at gv
      cases e : rs[i]? with
      | none => rw [e] at gv; cases gv
      | some y => rw [e] at gv; exact ⟨y, rfl, (Option.some.inj gv).symm⟩
    rw [hPv] at pv
    obtain ⟨zs0, v4, v5, rfl, sm, ht', hz0, pz0⟩ := pv
    have xA := (memR x).mp (List.mem_of_getElem? gx)
    have xl := inA x xA
    walk_at "rg"
    refine for_iterW ?_
    walk_at "rd"
    refine ⟨o, _, rfl, SqL.of (sm _ _ ho), by omega, fun rs2 t2 pm2 so2 nt2 => ?_⟩
    have e2 : rs2 = rs := up_uniq (upOf pm2 so2) upR fun z => (pm2.mem_iff.trans pm.mem_iff.symm)
    subst e2
    have s2 := same_upd (o := HO.lst (rs2.map V.int)) nt2
    have ht2 := upd_same (H := Hx) (a := t2) (o := HO.lst (rs2.map V.int))
    have hz1 := s2 _ _ hz0
    have ht1 := s2 _ _ ht'
    have pz1 := pz0.kt (KT.same s2)
    have npt2 : pl ≠ t2 := ne_of_none hz0 nt2
    generalize upd Hx t2 (HO.lst (rs2.map V.int)) = H2 at s2 ht2 hz1 ht1 pz1 ⊢
    have tk : rs2.take (i + 1) = rs2.take i ++ [x] := by rw [List.take_add_one, gx]; rfl
    obtain ⟨Pw, hPw⟩ : ∃ Pw : Nat → L2.St → Hp → Prop, Pw = (fun j σ Hy => ∃ (zs : List V) (v5 : Option V), σ = [some (.ref w), some (.ref o), some (.ref q), some (.ref pl), some (.int x), v5] ∧ Same H Hy ∧ Hy t = some (.lst (rs2.map V.int)) ∧ Hy t2 = some (.lst (rs2.map V.int)) ∧ Hy pl = some (.lst zs) ∧ PL Hy zs ((rs2.take i).flatMap (crossR A B rs2) ++ ((rs2.take j).filter fun y => crossB A B x y).map fun y => (x, y))) := ⟨_, rfl⟩
    refine ⟨t2, rfl, ⟨_, SqL.of ht2⟩, for_list (K := K) (a := t2) (xs := rs2.map V.int) Pw (by rw [hPw]; exact ⟨zs0, v5, rfl, sm.trans s2, ht1, ht2, hz1, by rw [List.take_zero, List.filter_nil, List.map_nil, List.append_nil]; exact pz1⟩) (fun j σ Hy _ pv => by rw [hPw] at pv; obtain ⟨_, _, _, _, _, h, _⟩ := pv; exact SqL.of h) (fun j v σ Hy gv2 pv => ?_) (fun σ Hy pv => ?_)⟩
    rotate_left
    · rw [hPw] at pv
      obtain ⟨zs, v5', rfl, sy, hty, _, hzy, pzy⟩ := pv
      rw [List.length_map, List.take_length] at pzy
      rw [hPv]
      refine ⟨zs, _, _, rfl, sy, hty, hzy, ?_⟩
      rw [tk, List.flatMap_append]
      show PL Hy zs (_ ++ (crossR A B rs2 x ++ []))
      rw [List.append_nil]
      exact pzy
    obtain ⟨y, gy, rfl⟩ : ∃ y, rs2[j]? = some y ∧ v = V.int y := by
      rw [List.getElem?_map] at gv2
      cases e : rs2[j]? with
      | none => rw [e] at gv2; cases gv2
      | some y => rw [e] at gv2; exact ⟨y, rfl, (Option.some.inj gv2).symm⟩
    rw [hPw] at pv
    obtain ⟨zs, v5', rfl, sy, hty, hty2, hzy, pzy⟩ := pv
    have yA := (memR y).mp (List.mem_of_getElem? gy)
    have yl := inA y yA
    have tk2 : rs2.take (j + 1) = rs2.take j ++ [y] := by rw [List.take_add_one, gy]; rfl
    walk_at "rd"
    obtain ⟨nx, rfl⟩ : ∃ n : Nat, x = n := ⟨x.toNat, by omega⟩
    obtain ⟨ny, rfl⟩ : ∃ n : Nat, y = n := ⟨y.toNat, by omega⟩
    have gW : ∀ n : Nat, n < r → atI W (n : Int) = some (optS (own n)) := fun n hn => atI_nat (hW n hn)
    obtain ⟨ox, xB⟩ := hown _ xA
    obtain ⟨oy, yB⟩ := hown _ yA
    obtain ⟨i1, gi1⟩ := List.getElem?_of_mem ((memA _).mpr xA)
    obtain ⟨i2, gi2⟩ := List.getElem?_of_mem ((memA _).mpr yA)
    obtain ⟨j1, gj1⟩ := List.getElem?_of_mem ((lastF_memJ B _).mpr xB)
    obtain ⟨j2, gj2⟩ := List.getElem?_of_mem ((lastF_memJ B _).mpr yB)
    have skip : crossB A B nx ny = false → Pw (j + 1) [some (.ref w), some (.ref o), some (.ref q), some (.ref pl), some (.int (nx : Int)), some (.int (ny : Int))] Hy := fun c => by
      rw [hPw]
      refine ⟨zs, _, rfl, sy, hty, hty2, hzy, ?_⟩
      rw [tk2, List.filter_append, List.filter_cons_of_neg (by rw [c]; decide), List.filter_nil, List.append_nil]
      exact pzy
    refine ⟨W, SqL.of (sy _ _ hw), _, gW nx (by omega), W, SqL.of (sy _ _ hw), _, gW ny (by omega), optS_scal _ _, _, rfl, ?_⟩
    by_cases c1 : own nx = own ny
    · rw [c1, decide_eq_true rfl]
      refine iteF ?_
      refine skip ?_
      unfold crossB
      rw [decide_eq_false (by rw [← ox, ← oy, c1]; exact fun z => z rfl), Bool.false_and]
    rw [decide_eq_false (fun z => c1 (optS_inj z))]
    refine iteT ?_
    refine ⟨.inl ⟨rfl, _, SqL.of (sy _ _ ho)⟩, idx_ok (SqL.of (sy _ _ ho)) gi1 ndA ⟨.inl ⟨rfl, _, SqL.of (sy _ _ ho)⟩, idx_ok (SqL.of (sy _ _ ho)) gi2 ndA ⟨_, rfl, _, rfl, ?_⟩⟩⟩
    have l1 := ix_lt gi2 gi1
    have l2 := ix_lt gj1 gj2
    refine ite2 (fun c2 => ?_) (fun c2 => ?_)
    rotate_left
    · rw [if_neg id]
      refine skip ?_
      unfold crossB
      rw [decide_eq_false (p := placeI A ny < placeI A nx) (fun z => c2 (Int.ofNat_lt.mpr (l1.mpr z))), Bool.false_and, Bool.and_false]
    refine ⟨.inl ⟨rfl, _, SqL.of (sy _ _ hq)⟩, idx_ok (SqL.of (sy _ _ hq)) gj1 (lastF_ndJ B) ⟨.inl ⟨rfl, _, SqL.of (sy _ _ hq)⟩, idx_ok (SqL.of (sy _ _ hq)) gj2 (lastF_ndJ B) ⟨_, rfl, _, rfl, ?_⟩⟩⟩
    refine ite2 (fun c3 => ?_) (fun c3 => ?_)
    rotate_left
    · refine skip ?_
      unfold crossB
      rw [decide_eq_false (p := placeI B nx < placeI B ny) (fun z => c3 (Int.ofNat_lt.mpr (l2.mpr z))), Bool.and_false, Bool.and_false]
    have cB : crossB A B nx ny = true := by
      unfold crossB
      rw [decide_eq_true (l1.mp (Int.ofNat_lt.mp c2)), decide_eq_true (l2.mp (Int.ofNat_lt.mp c3)), decide_eq_true (by rw [← ox, ← oy]; exact c1)]
      rfl
    refine ⟨.inl ⟨rfl, _, SqL.of hzy⟩, by decide, fun tt ntt => ?_⟩
    have w1 := same_upd (o := HO.tup [V.int nx, V.int ny]) ntt
    have htt := upd_same (H := Hy) (a := tt) (o := HO.tup [V.int nx, V.int ny])
    generalize upd Hy tt (HO.tup [V.int nx, V.int ny]) = G1 at w1 htt ⊢
    have hz2 := w1 _ _ hzy
    have zl : zs.length ≤ 300 := by
      have h1 := pzy.len
      have h2 := cross_len A B rs2 (rs2.take i)
      have h3 := List.length_filter_le (fun y => crossB A B nx y) (rs2.take j)
      have h4 : (rs2.take i).length * rs2.length ≤ 12 * 12 := Nat.mul_le_mul (by rw [List.length_take]; omega) (by omega)
      rw [List.length_append, List.length_map] at h1
      rw [List.length_take] at h3
      omega
    have kt : KT G1 (upd G1 pl (HO.lst (zs ++ [V.ref tt]))) := KT.lst hz2
    refine ⟨zs, hz2, len_big (by omega), ?_⟩
    rw [hPw]
    refine ⟨zs ++ [.ref tt], _, rfl, same_ch (sy.trans w1) npl, by rw [upd_ne npt.symm]; exact w1 _ _ hty, by rw [upd_ne npt2.symm]; exact w1 _ _ hty2, upd_same, ?_⟩
    rw [tk2, List.filter_append, List.filter_cons_of_pos cB, List.filter_nil, List.map_append, ← List.append_assoc]
    exact PL.snoc ((pzy.kt (KT.same w1)).kt kt) ⟨tt, rfl, kt _ _ htt⟩
theorem scLhl : FnScope ["rooms", "order", "other", "pair", "later", "r"] ["rooms", "order", "other", "pair"] (defScope sLhl) := ⟨rfl, rfl, rfl, by decide +kernel, rfl, by decide +kernel, by decide +kernel⟩
def spLhl : Sp := fun vs H Q _ => ∃ (o q t : Addr) (A B : List Cl) (r : Nat) (x y : Int) (rest : List V), vs = [.int r, .ref o, .ref q, .ref t] ∧ H o = some (.lst (((lastF A).map (·.1)).map V.int)) ∧ H q = some (.lst (((lastF B).map (·.1)).map V.int)) ∧ (lastF A).length ≤ 100 ∧ (lastF B).length ≤ 100 ∧ H t = some (.tup (.int x :: .int y :: rest)) ∧ x ∈ A.map (·.1) ∧ y ∈ B.map (·.1) ∧ r ≤ 12 ∧
  ∀ (z : Addr) (H' : Hp), Same H H' → H z = none → H' z = some (.lst ((hallF r A B x y).map V.int)) → Q (.ref z) H'
theorem ok_lhl {f : Addr} {fd : FuncData} (F : Fun K "_law_hall" "_law_hall" sLhl f fd) (T : Bi mg) : FnOk P w K mg base CX0 1 f fd ["rooms", "order", "other", "pair"] spLhl := by
  refine F.ok scLhl (fun vs H Q E h => ?_) (fun cdv A0 outer s H vs Q E hr h => ?_)
  · obtain ⟨o, q, t, A, B, r, x, y, rest, rfl, _⟩ := h
    rfl
  · obtain ⟨o, q, t, A, B, r, x, y, rest, rfl, ho, hq, al, bl, ht, xA, yB, r12, ret⟩ := h
    refine ⟨_, (pss_cons (ps_set (i := 4) scLhl.nd rfl (Or.inr rfl) (pe_op op_cat (pe_slice sl_list (pv 1) (po_some (pe_op op_add (pe_bm PySem.F.plainAttrs_list PySem.F.slot_list_index PySem.F.type_list_index mt_index (pv 1) (pa_cons (pe_ix ix_tup (pv 3) pe_int (fun _ _ => rfl)) pa_nil)) pe_int)) po_none) (pe_slice sl_list (pv 2) (po_some (pe_op op_add (pe_bm PySem.F.plainAttrs_list PySem.F.slot_list_index PySem.F.type_list_index mt_index (pv 2) (pa_cons (pe_ix ix_tup (pv 3) pe_int (fun _ _ => rfl)) pa_nil)) pe_int)) po_none)))
      (pss_one (ps_ret (pe_lc (own := [("r", 5)]) (te := (tVar 5)) (tt := (tTest (tOp (rIn K true) (tVar 5) (tVar 4)))) (by rfl) scLhl.nd (pi_range1 (by rfl) T.range (pa_cons (pv 0) pa_nil)) (blkOk_by (N := ["rooms", "order", "other", "pair", "later", "r"]) (sc := defScope sLhl) (by decide +kernel)) (fun _ _ _ _ _ => pg_name (i := 5) scLhl.nd rfl (Or.inl rfl)) (fun _ _ _ _ _ => (pts_one (pt_cmpR op_notIn_seq (pv 5) (pv 4) (by rfl)))) (fun _ _ _ _ _ => (pv 5)))))), ?_⟩
    obtain ⟨i, gi⟩ := List.getElem?_of_mem ((lastF_memJ A _).mpr xA)
    obtain ⟨j, gj⟩ := List.getElem?_of_mem ((lastF_memJ B _).mpr yB)
    walk_at "rd"
    obtain ⟨ca, gca, eca⟩ : ∃ c, (lastF A)[i]? = some c ∧ c.1 = x := by
      rw [List.getElem?_map] at gi
      cases e : (lastF A)[i]? with
      | none => rw [e] at gi; cases gi
      | some c => rw [e] at gi; exact ⟨c, rfl, Option.some.inj gi⟩
    obtain ⟨cb, gcb, ecb⟩ : ∃ c, (lastF B)[j]? = some c ∧ c.1 = y := by
      rw [List.getElem?_map] at gj
      cases e : (lastF B)[j]? with
      | none => rw [e] at gj; cases gj
      | some c => rw [e] at gj; exact ⟨c, rfl, Option.some.inj gj⟩
    refine ⟨.inl ⟨rfl, _, SqL.of ho⟩, _, SqT.of ht, .int x, atI_nat (xs := V.int x :: V.int y :: rest) (j := 0) rfl, idx_ok (SqL.of ho) gi (lastF_ndJ A) ⟨_, rfl, _, SqL.of ho, fun p np => ?_⟩⟩
    rw [show ((i : Int) + 1) = ((i + 1 : Nat) : Int) by omega, cut_drop]
    have s1 := same_upd (o := HO.lst ((((lastF A).map (·.1)).map V.int).drop (i + 1))) np
    have hp := upd_same (H := H) (a := p) (o := HO.lst ((((lastF A).map (·.1)).map V.int).drop (i + 1)))
    generalize upd H p (HO.lst ((((lastF A).map (·.1)).map V.int).drop (i + 1))) = H1 at s1 hp ⊢
    refine ⟨.inl ⟨rfl, _, SqL.of (s1 _ _ hq)⟩, _, SqT.of (s1 _ _ ht), .int y, atI_nat (xs := V.int x :: V.int y :: rest) (j := 1) rfl, idx_ok (SqL.of (s1 _ _ hq)) gj (lastF_ndJ B) ⟨_, rfl, _, SqL.of (s1 _ _ hq), fun p2 np2 => ?_⟩⟩
    rw [show ((j : Int) + 1) = ((j + 1 : Nat) : Int) by omega, cut_drop]
    have s2 := same_upd (o := HO.lst ((((lastF B).map (·.1)).map V.int).drop (j + 1))) np2
    have hp2 := upd_same (H := H1) (a := p2) (o := HO.lst ((((lastF B).map (·.1)).map V.int).drop (j + 1)))
    generalize upd H1 p2 (HO.lst ((((lastF B).map (·.1)).map V.int).drop (j + 1))) = H2 at s2 hp2 ⊢
    refine ⟨p, p2, _, _, rfl, rfl, s2 _ _ hp, hp2, Nat.le_of_lt (len_big (by rw [List.length_drop, List.length_drop, List.length_map, List.length_map, List.length_map, List.length_map]; omega)), fun p3 np3 => ?_⟩
    have eL : (((lastF A).map (·.1)).map V.int).drop (i + 1) ++ (((lastF B).map (·.1)).map V.int).drop (j + 1) = (laterF (lastF A) i ++ laterF (lastF B) j).map V.int := by
      unfold laterF
      rw [List.map_append, List.map_drop, List.map_drop, List.map_drop, List.map_drop]
    rw [eL]
    have s3 := same_upd (o := HO.lst ((laterF (lastF A) i ++ laterF (lastF B) j).map V.int)) np3
    have hp3 := upd_same (H := H2) (a := p3) (o := HO.lst ((laterF (lastF A) i ++ laterF (lastF B) j).map V.int))
    generalize upd H2 p3 (HO.lst ((laterF (lastF A) i ++ laterF (lastF B) j).map V.int)) = H3 at s3 hp3 ⊢
    refine lcW ?_
    walk_at "rd"
    refine ⟨by omega, by omega, lc_notin (m := 4) rfl (.inl (SqL.of hp3)) (by omega) (by simp) fun z H4 s4 nz hz => ?_⟩
    have s13 := s1.trans (s2.trans s3)
    refine ret z H4 (s13.trans s4) (s13.free nz) ?_
    rw [hz, Int.toNat_natCast]
    unfold hallF
    congr 3
    refine List.filter_congr fun u _ => ?_
    have l1 := later_iff gca u
    have l2 := later_iff gcb u
    rw [eca] at l1
    rw [ecb] at l2
    rw [Bool.eq_iff_iff, Bool.and_eq_true, decide_eq_true_iff, decide_eq_true_iff, decide_eq_true_iff, List.mem_append, l1, l2]
    omega
end

/-! ### sorted(xs, key=len), xs a list of tuples -/
def leN (f : V → Nat) (a b : V) : Bool := decide ((f a : Int) ≤ (f b : Int))
def tSortLen (K : PySem.W.Frag) (te : TE) : TE := fun σ H Q => te σ H fun x H1 => ∃ (a : Addr) (xs : List V) (f : V → Nat), x = .ref a ∧ SqL K H1 a xs ∧ (∀ y ∈ xs, ∃ t ys, y = V.ref t ∧ SqT K H1 t ys ∧ ys.length = f y) ∧
  ∀ p, H1 p = none → Q (.ref p) (upd H1 p (.lst (xs.mergeSort (leN f))))
theorem vals_each : ∀ {xs : List V} {us : List Value}, Vals xs us → PySem.W.EachIs (fun u x => RelV x u) us xs
  | _, _, .nil => .nil
  | _, _, .cons r t => .cons r (vals_each t)
theorem each_vals : ∀ {us : List Value} {xs : List V}, PySem.W.EachIs (fun u x => RelV x u) us xs → Vals xs us
  | _, _, .nil => .nil
  | _, _, .cons r t => .cons r (each_vals t)
theorem pe_sortLen {X : Cx} {te : TE} {e : Expr} {p p2 kpos pos : Pos} (hu : X.A.units + 64 < cLine) (hg : Gl X "sorted") (hm : X.mg "sorted" = none) (hg2 : Gl X "len") (hm2 : X.mg "len" = none) (he : PE X e te)
    (b0 : starEach [e] X.env = (false, eval e X.env) :: starEach [] X.env := by rfl) (b1 : backTo pos (starEach [e] X.env) = (false, eval e X.env) :: backTo pos (starEach [] X.env) := by rfl) (b2 : (backTo pos (starEach [e] X.env)).any (·.1) = false := by rfl) :
    PE X (.Call (.Name "sorted" p) [e] [⟨some "key", .Name "len" p2, kpos⟩] pos) (tSortLen X.K te) := by
  refine ⟨fun pins s σ H Q I h => ?_⟩
  refine wpAny_Call_Name_kw (ld_blt I hg hm boot_sorted ?_)
  refine PyProof.Rows.callWith_kw ?_ b1 b2
  refine thn ((pa_cons he pa_nil b0).run pos pins s σ H (fun vs H1 => match vs with
    | [x] => ∃ (a : Addr) (xs : List V) (f : V → Nat), x = .ref a ∧ SqL X.K H1 a xs ∧ (∀ y ∈ xs, ∃ t ys, y = V.ref t ∧ SqT X.K H1 t ys ∧ ys.length = f y) ∧
    ∀ p, H1 p = none → Q (.ref p) (upd H1 p (.lst (xs.mergeSort (leN f))))
    | _ => False) I h) ?_
  rintro us s1 ⟨vs, H1, I1, r1, hv⟩
  match vs, r1, hv with
  | [x], r1, ⟨a, xs, f, ex, hs, hx, q⟩ => ?_
  subst ex
  obtain ⟨u, rfl, ru⟩ := vals1 r1
  cases ru
  show wpAny _ _ (evalAll [(do let v ← eval (.Name "len" p2) X.env; standAt pos; pure v)]) _ _ _
  refine wpAny_evalAll_cons (wpAny_bind (ld_blt I1 hg2 hm2 boot_len (wpAny_bind (wpAny_standAt (wpAny_pure (wpAny_evalAll_nil ?_))))))
  show wpAny _ _ (call (.builtin "sorted") [.ref a] [(Str.ofString "key", .builtin "len")]) _ _ _
  obtain ⟨its, rv, hl, hz⟩ := I1.list hs
  have each := vals_each rv
  refine PySem.W.sorted_key_data (b := false) (R := fun u x => RelV x u) (bs := xs) (fun x => .int (f x)) hl.isList each (PySem.W.AllAlike.of fun _ _ => by simp [PySem.W.alike]) (PySem.W.Sortable.others fun _ => ⟨by simp, by simp⟩) hz (fun x _ => ?_) (PyProof.Rows.ksk_s1 _ _) (fun _ => PyProof.Rows.ksk_l1 _ _) (fun _ => PyProof.Rows.ksk_t4 _ _) (fun v x rx hxm h tk kp => ?_) (fun out c h' tk kp hn hD _ eo => ?_)
  · show X.A.units + 2 + 0 < cLine
    omega
  · obtain ⟨t, ys, rfl, ht, e⟩ := hx x hxm
    cases (show v = Value.ref t from rx)
    obtain ⟨its2, rv2, ⟨o, ho, hc, n, hd⟩, hz2⟩ := I1.tuple ht
    have hlen := rv2.length
    have hn := line63
    refine PyProof.Rows.len_tuple (items := its2.toArray) ⟨o, kp _ _ ho, hc, n, hd⟩ (by simp only [List.size_toArray] <;> omega) ⟨h, _, rfl, fun _ _ z => z, ?_⟩
    rw [List.size_toArray, ← hlen, e]
    exact .int _ _
  · have hv := each_vals eo
    have ex : xs.mergeSort (PySem.W.dataLe false fun x => PyData.int (f x)) = xs.mergeSort (leN f) := by
      rw [PySem.W.dataLe_int]
      rfl
    rw [ex] at hv
    refine ⟨.ref (s1.heap.objs.size + 1), upd H1 (s1.heap.objs.size + 1) (.lst (xs.mergeSort (leN f))), I1.laid (t' := tk) kp (Nat.le_succ _) ⟨?_, out, c, hv, hD⟩, rfl, q _ (I1.hok.fresh (Nat.le_succ _))⟩
    rw [List.length_mergeSort]
    exact hz
/-! ### sorted(xs), xs a list of data -/
def rSortD (K : PySem.W.Frag) : List V → Hp → VK → Prop := fun vs H Q => ∃ (a : Addr) (xs : List V) (enc : V → PyData), vs = [V.ref a] ∧ SqL K H a xs ∧ (∀ y ∈ xs, Dp K H y (enc y) ∧ (enc y).depth ≤ 8 ∧ ∃ u r, enc y = .tuple (u :: r)) ∧ (∀ x ∈ xs, ∀ y ∈ xs, PySem.W.alike (enc x) (enc y) = true) ∧
  ∀ p, H p = none → Q (.ref p) (upd H p (.lst (xs.mergeSort (PySem.W.dataLe false enc))))
theorem cr_sortD {X : Cx} (hu : X.A.units + 64 < cLine) : CallR X (.builtin "sorted") (rSortD X.K) := by
  intro pins s σ H vs us Q I r h
  obtain ⟨a, xs, enc, rfl, hs, hx, hal, q⟩ := h
  obtain ⟨u, rfl, ru⟩ := vals1 r
  cases ru
  obtain ⟨its, rv, hl, hz⟩ := I.list hs
  have each := vals_each rv
  have er : PySem.W.EachIs (fun v b => ∃ as, PySem.Reads s.heap v (enc b) as) its xs := by
    have key : ∀ {us : List Value} {ys : List V}, PySem.W.EachIs (fun u x => RelV x u) us ys → (∀ y ∈ ys, y ∈ xs) → PySem.W.EachIs (fun v b => ∃ as, PySem.Reads s.heap v (enc b) as) us ys := by
      intro us ys h
      induction h with
      | nil => intro _; exact .nil
      | cons r t ih => intro hm; exact .cons (Dp.reads I _ _ _ (hx _ (hm _ List.mem_cons_self)).1 r) (ih fun y hy => hm y (List.mem_cons_of_mem _ hy))
    exact key each fun y hy => hy
  refine PySem.W.sorted_data (R := fun u x => RelV x u) (enc := enc) (bs := xs) hl.isList each er (fun d hd d' hd' => ?_) (.inl fun d hd => ?_) hz (fun x hxm => ?_) (fun out hol eo => ?_)
  · obtain ⟨x, h1, rfl⟩ := List.mem_map.mp hd
    obtain ⟨y, h2, rfl⟩ := List.mem_map.mp hd'
    exact hal x h1 y h2
  · obtain ⟨x, h1, rfl⟩ := List.mem_map.mp hd
    exact (hx x h1).2.2
  · have := (hx x hxm).2.1
    omega
  · have hv := each_vals eo
    obtain ⟨ep, he⟩ := PyProof.Rows.sortedAll_at s.heap its (List.toArray out)
    refine ⟨.ref (s.heap.objs.size + 1), upd H (s.heap.objs.size + 1) (.lst (xs.mergeSort (PySem.W.dataLe false enc))), I.laid (t' := s.toks) (fun _ _ => PyProof.Rows.sortedAll_old) (Nat.le_succ _) ⟨?_, out, ep, hv, he⟩, rfl, q _ (I.hok.fresh (Nat.le_succ _))⟩
    rw [List.length_mergeSort]
    exact hz

/-! ### all(test for x in a list or tuple) -/
section
variable {X : Cx} {pins : List (Addr × Obj)} {σ : L2.St} {H : Hp} {s : Shared}
/-- the element: a test of the value v, among what stood when the walk began (but for the table at P) -/
def EltV (X : Cx) (pins : List (Addr × Obj)) (σ : L2.St) (H1 : Hp) (P : Addr) (scope : Scope) (x : Str) (elt : Expr) (xs : List V) (pb : V → Bool) : Prop :=
  ∀ (cenv : Env) (A' : Around) (E' : Value → Shared → Prop) (v : V) (u : Value) (sa s2 : Shared) (m2 : Str → Option Value), cenv.scope = scope → cenv.cells = cloFrom X.env.cells scope.names [] → v ∈ xs → L2.RelV v u → s2.heap.Ns cenv.locals m2 → m2 x = some u →
    Inv X pins σ H1 sa → (∀ b o, b ≠ P → sa.heap.get? b = some o → s2.heap.get? b = some o) → wpAny (model X.prog X.w) A' (eval elt cenv) (fun y s3 => y = .bool (pb v) ∧ Keeps s2 s3) E' s2
/-- the generator expression's own scope, by looks at the two scopes -/
structure GenS0 (esc scope : Scope) (x : Str) : Prop where
  kind : scope.kind = .function
  co : scope.isCoroutine = false
  cell : ∀ y ∈ scope.names, y.2 ≠ .cell
  dot : scope.names.lookup (".0" : Str) = some NameKind.local
  loc : scope.names.lookup x = some .local
  free : ∀ y ∈ scope.names, y.2 = .free → esc.names.lookup y.1 = some .cell ∨ esc.names.lookup y.1 = some .free
theorem GenS0.of {scope : Scope} {x : Str} (S : GenS0 X.env.scope scope x) (ok : X.Ok) : GxR.GenS X.env scope x :=
  ⟨S.kind, S.co, S.cell, S.dot, S.loc, fun y hy e => (S.free y hy e).elim (fun z => ok.has _ (.inl z)) fun z => ok.has _ (.inr z)⟩
def trV (pb : V → Bool) (l : List V) (q0 : Nat) : Bool := match l[q0]? with
  | some b => pb b
  | none => false
theorem trV_some {pb : V → Bool} {l : List V} {q0 : Nat} {b : V} (h : l[q0]? = some b) : trV pb l q0 = pb b := by
  unfold trV
  rw [h]
theorem all_trV (l : List V) (pb : V → Bool) : (List.range l.length).all (trV pb l) = l.all pb := by
  rw [Bool.eq_iff_iff, List.all_eq_true, List.all_eq_true]
  constructor
  · intro h b hb
    obtain ⟨q0, q0l, e⟩ := List.getElem_of_mem hb
    have q := h q0 (List.mem_range.mpr q0l)
    rw [trV_some (List.getElem?_eq_getElem q0l), e] at q
    exact q
  · intro h q0 q0l
    have hj' := List.mem_range.mp q0l
    rw [trV_some (List.getElem?_eq_getElem hj')]
    exact h _ (List.getElem_mem hj')
/-- a list's or a tuple's iterator -/
theorem iter_vals {K : PySem.W.Frag} {yl : Addr} {xs : List V} {Q' : Value → Shared → Prop} (I : Inv X pins σ H s) (h : SqL X.K H yl xs ∨ SqT X.K H yl xs)
    (q : ∀ (us : List Value) (o : Obj) (St : Nat → Heap → Prop), Vals xs us → yl < s.heap.objs.size → (∃ oy, s.heap.get? yl = some oy ∧ ∀ us, oy.data ≠ .fields us) → (∀ A' : Around, A'.handled = none → Walks X.prog X.w A' s.heap.objs.size [s.heap.objs.size, yl] [s.heap.objs.size] us.toArray.size (fun i v => us.toArray[i]? = some v) St) →
      St 0 (s.heap.push o) → Q' (.ref s.heap.objs.size) { s with heap := s.heap.push o }) : wpAny (model X.prog X.w) X.A (pyIter (.ref yl)) Q' X.xe s := by
  rcases h with h | h
  · obtain ⟨us, rv, hl, hz⟩ := I.list h
    have lst := hl.isList
    have lt : yl < s.heap.objs.size := by
      obtain ⟨_, e, _⟩ := _root_.id lst
      exact Heap.lt_size e
    refine wpAny_pyIter_list lst (q us _ _ rv lt ?_ (fun A' hand => Walks.list hand _ _ (Nat.ne_of_lt lt) _) ⟨⟨_, Heap.get?_push_size _ rfl, rfl, rfl⟩, ?_⟩)
    · obtain ⟨ob, e, _, _, hd⟩ := _root_.id lst
      exact ⟨ob, e, fun us z => by rw [hd] at z; cases z⟩
    · obtain ⟨ob, e, r⟩ := _root_.id lst
      exact ⟨ob, Heap.get?_push_of_some _ e, r⟩
  · obtain ⟨us, rv, hl, hz⟩ := I.tuple h
    have lt : yl < s.heap.objs.size := by
      obtain ⟨_, e, _⟩ := _root_.id hl
      exact Heap.lt_size e
    refine wpAny_pyIter_tuple hl (q us _ _ rv lt ?_ (fun A' hand => Walks.tuple hand _ _ (Nat.ne_of_lt lt) _) ⟨⟨_, Heap.get?_push_size _ rfl, rfl, rfl⟩, ?_⟩)
    · obtain ⟨ob, e, _, _, hd⟩ := _root_.id hl
      exact ⟨ob, e, fun us z => by rw [hd] at z; cases z⟩
    · obtain ⟨ob, e, r⟩ := _root_.id hl
      exact ⟨ob, Heap.get?_push_of_some _ e, r⟩
/-- the generator g over the values xs, ready to be walked, in the state s5; H1: what was held before -/
def ReadyV (X : Cx) (pins : List (Addr × Obj)) (σ : L2.St) (H1 : Hp) (P : Addr) (xs : List V) (pb : V → Bool) (g : Addr) (s5 : Shared) : Prop :=
  ∃ (ft wt : List Addr) (G : Array GenState → Array GenState → Prop) (F : Nat → Value → Prop) (St : Nat → Shared → Prop),
    WalksS X.prog X.w X.A.in1 g ft wt G xs.length F St ∧ St 0 s5 ∧ TruthOf X.prog X.w X.A.in1 F (trV pb xs) ∧ ∀ s', Moved wt G s5 s' → ∃ H2, GxR.Tabbed P H1 H2 ∧ Inv X pins σ H2 s'
theorem gen_vals {c P : Addr} {elt iter : Expr} {x : Str} {px gpos : Pos} {scope : Scope} {pb : Hp → V → Bool} {te : TE} {k : Nat} {Q' : Value → Shared → Prop} {R : List V → Hp → Prop}
    (hr : Room k X.A) (TB : GxR.TabB X.base X.mg c P) (hcode : X.env.code = .ref c) (S : GxR.GenS X.env scope x) (hi : PE X iter te) (hs : ∀ v, genFold iter X.env v = pure v) (I : Inv X pins σ H s)
    (h : te σ H fun v H1 => ∃ (yl : Addr) (xs : List V), v = .ref yl ∧ (SqL X.K H1 yl xs ∨ SqT X.K H1 yl xs) ∧ (∀ pins, EltV X pins σ H1 P scope x elt xs (pb H1)) ∧ GxR.TabG H1 P ∧ R xs H1)
    (hQ : ∀ xs H1 g s5, R xs H1 → ReadyV X pins σ H1 P xs (pb H1) g s5 → Q' (.ref g) s5) :
    wpAny (model X.prog X.w) X.A (eval (.GeneratorExp elt [⟨.Name x px, iter, [], 0⟩] scope gpos) X.env) Q' X.xe s := by
  refine wpAny_GeneratorExp_walksQ hr.hd S.co (closure_ok S.free) S.cell S.dot S.loc S.kind (by have := hr.dp; omega) ?_ hs
  refine thn (hi.run pins s σ H _ I h) fun uv sa ⟨v, H1, I1, r1, q1⟩ => ?_
  obtain ⟨yl, xs, rfl, hyl, hel, ⟨ps, hP, ht⟩, q1⟩ := q1
  obtain rfl : uv = Value.ref yl := r1
  refine iter_vals (K := X.K) I1 hyl fun us o St rv ylt hyo W hst => ?_
  obtain ⟨oy, hoy, hyd⟩ := hyo
  have vlen : us.length = xs.length := rv.length.symm
  have vat : ∀ (i : Nat) (u : Value), us.toArray[i]? = some u → ∃ b, xs[i]? = some b ∧ L2.RelV b u := fun i u hv => by
    have gv : us[i]? = some u := by simpa using hv
    have ilt : i < us.length := (List.getElem?_eq_some_iff.mp gv).1
    obtain ⟨b, hb⟩ : ∃ b, xs[i]? = some b := ⟨xs[i]'(by omega), List.getElem?_eq_getElem _⟩
    obtain ⟨u2, hu, ru⟩ := rv.get hb
    rw [gv] at hu
    cases hu
    exact ⟨b, hb, ru⟩
  have tbs : sa.heap.get? P = some { cls := .none, data := .fields ps } := I1.hok P _ hP
  have tlt : P < sa.heap.objs.size := Heap.lt_size tbs
  have tb2 : (sa.heap.push o).get? P = some { cls := .none, data := .fields ps } := Heap.get?_push_of_some _ tbs
  have cd : PySem.W.CodeHd (sa.heap.push o) c P := TB.code.keeps fun b u e => Heap.get?_push_of_some _ (I1.bk b u e)
  have nl2 : (sa.heap.push o).NoLimit := I1.nolimit.push o
  have goes : ∀ (code : Value) (hw : Heap) (tk : Nat) (ps' : Array Value), Heap.ExtBut P (sa.heap.push o) hw → (sa.heap.push o).objs.size ≤ hw.objs.size → hw.get? P = some { cls := .none, data := .fields ps' } → (∃ add, ps' = ps ++ add) → TriplesOk ps'.toList →
      wpAny (model X.prog X.w) X.A (builtinsFor X.env.globals X.env.builtins) (fun bi z4 =>
        ∃ Ia ft wt nn Pf St0 pz F, Value.ref sa.heap.objs.size = .ref Ia ∧ (∀ A' : Around, A'.handled = none → Walks X.prog X.w A' Ia ft wt nn Pf St0) ∧ St0 0 z4.heap ∧ (∀ b ∈ ft, b < z4.heap.objs.size) ∧ z4.heap.NoLimit ∧ cStatics ∉ wt ∧
          (∀ hrf : Heap, (∀ b o, z4.heap.get? b = some o → hrf.get? b = some o) →
            QuietGen X.prog X.w (genEnv scope (cloFrom X.env.cells scope.names []) z4.heap.objs.size code bi X.env) x [] elt (List.range z4.heap.objs.size) wt Pf pz F hrf) ∧
          (∀ a hn5_ tk gst, gst.bare = true → z4.heap.objs.size < a → hn5_.objs.size = a + 1 → (∀ b o, z4.heap.get? b = some o → hn5_.get? b = some o) →
            WalksS X.prog X.w X.A.in4 a (a :: z4.heap.objs.size :: List.range z4.heap.objs.size) (z4.heap.objs.size :: wt) (GenOnlyQ z4.gens.size) (passing pz nn 0).length
              (fun q0 y => ∃ i, (passing pz nn 0)[q0]? = some i ∧ F i y) (GenAt X.prog X.w X.A.in4 a z4.gens.size z4.heap.objs.size (List.range z4.heap.objs.size) wt pz nn F) →
            GenAt X.prog X.w X.A.in4 a z4.gens.size z4.heap.objs.size (List.range z4.heap.objs.size) wt pz nn F 0 { z4 with gens := z4.gens.push gst, toks := tk, heap := hn5_ } →
            Q' (.ref a) { z4 with gens := z4.gens.push gst, toks := tk, heap := hn5_ })) X.xe { sa with heap := hw, toks := tk } := by
    intro code hw tk ps' hx hsz tb3 mre tr3
    obtain ⟨bm, ob, e1, e2, e3, e4, e5, e6, e7, e8⟩ := TB.bm
    have cnP : cStatics ≠ P := fun e => by
      obtain ⟨_, hns, _⟩ := I1.nolimit
      obtain ⟨o', es, ep, ho, hd, _⟩ := hns
      rw [e, tbs] at ho
      cases ho
      cases hd
    have clt : cStatics < sa.heap.objs.size := let ⟨_, hns, _⟩ := I1.nolimit; hns.lt
    have sze : (sa.heap.push o).objs.size = sa.heap.objs.size + 1 := Heap.size_push ..
    have kp3 : ∀ b u, b ≠ P → sa.heap.get? b = some u → hw.get? b = some u := fun b u hb e => hx b u hb (Heap.get?_push_of_some _ e)
    refine wpAny_builtinsFor (m := X.mg) (by rw [I1.ok.glob]; exact ((I1.mod.glob.keeps I1.bk).push o).extBut hx TB.gP) e1 e2 (kp3 _ _ e4 (I1.bk _ _ e5)) e6 e7 e8 ?_
    have ynP : yl ≠ P := fun z => by
      rw [z, tbs] at hoy
      cases hoy
      exact hyd _ rfl
    refine ⟨sa.heap.objs.size, [sa.heap.objs.size, yl], [sa.heap.objs.size], us.toArray.size, (fun i v => us.toArray[i]? = some v), St, (fun _ => true),
      (fun i y => ∃ b, xs[i]? = some b ∧ y = .bool (pb H1 b)), rfl, W, ?_, ?_, nl2.extBut hx cnP, ?_, ?_, ?_⟩
    · refine (W X.A hr.hd).frame _ _ _ hst fun b hb u e => hx b u (fun z => ?_) e
      rcases List.mem_cons.mp hb with z2 | z2
      · exact Nat.ne_of_lt tlt (z.symm.trans z2)
      · rcases List.mem_cons.mp z2 with z3 | z3
        · exact ynP (z3.symm.trans z)
        · cases z3
    · intro b hb
      rcases List.mem_cons.mp hb with z | z
      · rw [z]
        show sa.heap.objs.size < hw.objs.size
        omega
      · rcases List.mem_cons.mp z with z | z
        · rw [z]
          have e9 : sa.heap.objs.size ≤ hw.objs.size := by omega
          exact Nat.lt_of_lt_of_le ylt e9
        · cases z
    · intro z
      rcases List.mem_cons.mp z with z | z
      · exact Nat.ne_of_lt clt z
      · cases z
    · intro hrf khr
      refine ⟨fun A' E' i v s2 mm hand vP hn mvd hk => ?_, fun A' E' i v s2 mm hand vP hp hn mvd hk => ?_⟩
      · simp only [List.forIn_nil]
        exact wpAny_pure ⟨rfl, GxR.keeps_refl _⟩
      · obtain ⟨b, hb, rb⟩ := vat i v vP
        refine wpAny_mono (hel pins _ A' E' b v sa s2 mm rfl rfl (List.mem_of_getElem? hb) rb hn mvd I1 fun d u nd e => ?_) (fun y s3 r => ⟨⟨b, hb, r.1⟩, r.2⟩) fun _ _ e => e
        have e3 := kp3 d u nd e
        refine hk d (List.mem_range.mpr (Heap.lt_size e3)) (fun z => ?_) u (khr d u e3)
        rcases List.mem_cons.mp z with z | z
        · exact Nat.ne_of_lt (Heap.lt_size e) z
        · cases z
    · intro g hg5 tkg gst gbr agt sz5 kg5 Wg gat
      simp only [GxR.passing_true, List.length_range] at Wg
      have hn5 : us.toArray.size = xs.length := by rw [List.size_toArray, vlen]
      rw [hn5] at Wg gat
      refine hQ xs H1 g _ q1 ⟨_, _, _, _, _, Wg.in4_1, gat, ?_, fun s' mvd => ?_⟩
      · intro q0 y sj Qj Ej hy hQj
        obtain ⟨i, hij, b, hb, rfl⟩ := hy
        obtain ⟨q0l, ej⟩ := List.getElem?_eq_some_iff.mp hij
        rw [List.getElem_range] at ej
        subst ej
        have hQ2 : Qj (trV (pb H1) xs q0) sj := hQj
        rw [trV_some hb] at hQ2
        exact wpAny_truthy_bool hQ2
      · obtain ⟨add, eadd⟩ := mre
        have notw : ∀ b u, sa.heap.get? b = some u → b ∉ hw.objs.size :: [sa.heap.objs.size] := fun b u e hb => by
          have hl := Heap.lt_size e
          rcases List.mem_cons.mp hb with z | z
          · rw [z] at hl
            have h9 : (hw.objs.size : Nat) < sa.heap.objs.size := hl
            omega
          · rcases List.mem_cons.mp z with z | z
            · rw [z] at hl
              exact Nat.lt_irrefl _ hl
            · cases z
        have J := GxR.inv_tab (more := add) (h' := s'.heap) (g' := s'.gens) (d' := s'.drawn) (t' := s'.toks) I1 hP (fun b u hb e => mvd.heap b u (notw b u e) (kg5 b u (kp3 b u hb e)))
          (by rw [← eadd]; exact mvd.heap P _ (notw P _ tbs) (kg5 P _ tb3)) (AllBare.movedS (I1.bare.push gbr) mvd)
        rw [GxR.sh_eta sa s' mvd.os] at J
        refine ⟨upd H1 P (.tbl (ps ++ add)), ⟨⟨ps ++ add, upd_same, by rw [← eadd]; exact tr3⟩, fun b hb => upd_ne hb⟩, J⟩
  refine ⟨nl2, ?_⟩
  cases hf : codeAmong gpos ps.toList with
  | none =>
    refine wpAny_genexprCodeX hcode (cd.code tb2 ht) (cd.tab tb2) hf fun c' h' tk hx hge hlt hco' _ htab' _ => ?_
    obtain ⟨o1, vs, f1, tf, fl, tg, inF, tx, tt, op, _, _, _, _, _, _, _, _, _, htr, _⟩ := hco'
    exact goes _ h' tk _ hx (Nat.le_trans hge (Nat.le_of_lt hlt)) htab'.2 ⟨_, rfl⟩ htr
  | some cv =>
    refine wpAny_genexprCode_hit hcode (cd.code tb2 ht) hf ?_
    exact goes cv (sa.heap.push o) sa.toks ps (Heap.ExtBut.refl _ _) (Nat.le_refl _) tb2 ⟨#[], by simp⟩ ht
/-- all(test for x in e), e a list or a tuple; behind it the def's table may have grown -/
def tAllV (X : Cx) (P : Addr) (scope : Scope) (x : Str) (elt : Expr) (pb : Hp → V → Bool) (te : TE) : TE := fun σ H Q => te σ H fun v H1 => ∃ (yl : Addr) (xs : List V), v = .ref yl ∧ (SqL X.K H1 yl xs ∨ SqT X.K H1 yl xs) ∧ (∀ pins, EltV X pins σ H1 P scope x elt xs (pb H1)) ∧ GxR.TabG H1 P ∧ ∀ H2, GxR.Tabbed P H1 H2 → Q (.bl (xs.all (pb H1))) H2
theorem pe_allV {c P : Addr} {elt iter : Expr} {x : Str} {px p pos gpos : Pos} {scope : Scope} {pb : Hp → V → Bool} {te : TE} {k : Nat}
    (hr : Room k X.A) (hg : Gl X "all") (mvd : X.mg "all" = none) (hb : bootBuiltins "all" = some (.builtin "all")) (TB : GxR.TabB X.base X.mg c P) (hcode : X.env.code = .ref c) (S : GenS0 X.env.scope scope x) (hi : PE X iter te)
    (hs : ∀ v, genFold iter X.env v = pure v)
    (he : starEach [.GeneratorExp elt [⟨.Name x px, iter, [], 0⟩] scope gpos] X.env = (false, eval (.GeneratorExp elt [⟨.Name x px, iter, [], 0⟩] scope gpos) X.env) :: starEach [] X.env := by rfl) :
    PE X (.Call (.Name "all" p) [.GeneratorExp elt [⟨.Name x px, iter, [], 0⟩] scope gpos] [] pos) (tAllV X P scope x elt pb te) := by
  refine ⟨fun pins s σ H Q I h => ?_⟩
  refine wpAny_Call_Name_kw (ld_blt I hg mvd hb ?_)
  refine PyProof.Rows.callWith_builtin1 ?_ he (by rfl)
  rw [he]
  show wpAny _ _ (spliced ((false, eval (.GeneratorExp elt [⟨.Name x px, iter, [], 0⟩] scope gpos) X.env) :: backTo pos (starEach [] X.env))) _ _ s
  refine Calls.spliced_cons (gen_vals (pb := pb) (R := fun xs H1 => ∀ H2, GxR.Tabbed P H1 H2 → Q (.bl (xs.all (pb H1))) H2) hr TB hcode (S.of I.ok) hi hs I h fun xs H1 g s5 hR hG => ?_)
  obtain ⟨ft, wt, G, F, St, W, hst, htr, hI⟩ := hG
  refine Calls.spliced_nil ?_
  refine call_all_walkS (W.self 0 _ _ _ hst ⟨g, ft, wt, G, _, F, St, _, rfl, W, hst, htr, fun s' hmv => ?_⟩)
  obtain ⟨H2, hT, J⟩ := hI s' hmv
  refine ⟨.bl _, H2, J, rfl, ?_⟩
  rw [all_trV]
  exact hR H2 hT
end
/-! ### a code object's table, told only as a table -/
def TbO (a : Addr) : HO := .ext fun h => ∃ ps : Array Value, h.get? a = some { cls := .none, data := .fields ps } ∧ TriplesOk ps.toList
theorem tbO_ne (a : Addr) : (∀ x, TbO a ≠ .own x) ∧ (∀ xs, TbO a ≠ .tup xs) ∧ (∀ o u, TbO a ≠ .frz o u) ∧ ∀ ps, TbO a ≠ .tbl ps := by
  unfold TbO
  refine ⟨?_, ?_, ?_, ?_⟩ <;> intros <;> intro z <;> cases z
theorem hok_swap {P : Program} {w : World} {H : Hp} {h : Heap} {a : Addr} {o1 o2 : HO} (x : HOk P w H h) (e : H a = some o1) (n1 : ∀ y, o1 ≠ .own y) (n2 : ∀ xs, o1 ≠ .tup xs) (new : ObjOk P w (upd H a o2) h a o2) : HOk P w (upd H a o2) h := fun b o q => by
  by_cases hb : b = a
  · rw [hb, upd_same] at q
    cases q
    rw [hb]
    exact new
  · rw [upd_ne hb] at q
    refine (x b o q).stay (fun _ _ _ z => z) (fun d z => ?_) fun d xs z => ?_
    · rw [upd_ne (ne_of z e fun z2 => n1 _ z2.symm)]
      exact z
    · rw [upd_ne (ne_of z e fun z2 => n2 _ z2.symm)]
      exact z
theorem un_swap {fs : List Addr} {H H' : Hp} {h h' : Heap} {a : Addr} {o1 o2 o4 : HO} (e1 : H a = some o1) (u : Un fs [] (upd H a o2) H' h h') (n : ∀ xs, o1 ≠ .tup xs) (n2 : ∀ o x, o1 ≠ .frz o x) (n3 : ∀ ps, o1 = .tbl ps → ∃ more, o4 = .tbl (ps ++ more)) : Un fs [] H (upd H' a o4) h h' := by
  have nn : ∀ b, H b = none → b ≠ a := fun b z q => by
    rw [q, e1] at z
    cases z
  refine ⟨fun b o q z hb hx => u.keep b o q (by rw [upd_ne (nn b z)]; exact z) hb hx, fun b o q z hb hx => u.slot b o q (by rw [upd_ne (nn b z)]; exact z) hb hx, fun b o q z hx => ?_, u.there, fun b xs z => ?_, fun b o x z => ?_, fun b ps z => ?_⟩
  · rw [upd_ne (nn b z)]
    exact u.free b o q (by rw [upd_ne (nn b z)]; exact z) hx
  · have hb := ne_of z e1 fun q => n _ q.symm
    rw [upd_ne hb]
    exact u.tups b xs (by rw [upd_ne hb]; exact z)
  · have hb := ne_of z e1 fun q => n2 _ _ q.symm
    rw [upd_ne hb]
    exact u.frzs b o x (by rw [upd_ne hb]; exact z)
  · by_cases hb : b = a
    · rw [hb, e1] at z
      obtain ⟨more, q⟩ := n3 ps (Option.some.inj z)
      exact ⟨more, by rw [hb, upd_same, q]⟩
    · rw [upd_ne hb]
      exact u.tbls b ps (by rw [upd_ne hb]; exact z)
section
variable {P : Program} {w : World} {K : PySem.W.Frag} {mg : Str → Option Value} {base : Heap} {k : Nat} {f : Addr} {fd : FuncData} {ps : List Str} {sp : Sp}
theorem env0_swap {A : Around} {outer : List Env} {s : Shared} {H : Hp} {a : Addr} {o1 o2 : HO} (e0 : Env0 P w K mg base A outer s H) (e : H a = some o1) (n1 : ∀ y, o1 ≠ .own y) (n2 : ∀ xs, o1 ≠ .tup xs) (new : ObjOk P w (upd H a o2) s.heap a o2) : Env0 P w K mg base A outer s (upd H a o2) := by
  have nn : ∀ b, H b = none → b ≠ a := fun b z q => by
    rw [q, e] at z
    cases z
  exact ⟨e0.frames, e0.mod, fun b o q => ⟨(e0.bs b o q).1, by rw [upd_ne (nn b (e0.bs b o q).2)]; exact (e0.bs b o q).2⟩, e0.bsz, e0.funs, fun b hb => by rw [upd_ne (nn b (e0.frf b hb))]; exact e0.frf b hb, hok_swap e0.hok e n1 n2 new, e0.bare⟩
/-- a def that works with its table: told of the table only that it is one -/
theorem FnOk.tb (a : Addr) (F : FnOk P w K mg base CX0 k f fd ps sp) : FnOk P w K mg base CX0 k f fd ps (fun vs H Q E => H a = some (TbO a) ∧ ∀ tb : Array Value, TriplesOk tb.toList → sp vs (upd H a (.tbl tb)) (fun v H' => ∃ tb' : Array Value, H' a = some (.tbl tb') ∧ TriplesOk tb'.toList ∧ Q v (upd H' a (TbO a))) E) := by
  refine ⟨fun vs H Q E h => F.len _ _ _ _ (h.2 #[] True.intro), fun A outer s H args us vs Q E hr e0 hb r h => ?_⟩
  obtain ⟨ha, h⟩ := h
  obtain ⟨⟨tb, hg, ht⟩, _, _⟩ := e0.hok a _ ha
  obtain ⟨t1, t2, t3, t4⟩ := tbO_ne a
  refine codeAny_mono (F.run A outer s (upd H a (.tbl tb)) args us vs _ E hr (env0_swap e0 ha t1 t2 hg) hb r (h tb ht)) fun q s' hq => ?_
  cases q with
  | error e => exact hq
  | ok fl =>
    cases fl with
    | next => exact False.elim hq
    | brk => exact False.elim hq
    | cont => exact False.elim hq
    | ret u =>
      obtain ⟨v, H', os, bare, un, hok, rv, tb', h', ht', q⟩ := hq
      have hg' : s'.heap.get? a = some { cls := .none, data := .fields tb' } := hok a _ h'
      exact ⟨v, _, os, bare, un_swap ha un t2 t3 (fun ps z => absurd z (t4 ps)), hok_swap (o2 := TbO a) hok h' (fun _ z => by cases z) (fun _ z => by cases z) ⟨⟨tb', hg', ht'⟩, ⟨_, hg'⟩, fun h1 h2 ⟨ps, z, t⟩ st => ⟨ps, st _ z, t⟩⟩, rv, q⟩
/-- .. and back, for a row's end: the table is empty at the start -/
theorem FnOk.untb (a : Addr) (F : FnOk P w K mg base CX0 k f fd ps sp) : FnOk P w K mg base CX0 k f fd ps (fun vs H Q E => H a = some (.tbl #[]) ∧ sp vs (upd H a (TbO a)) (fun v H' => H' a = some (TbO a) ∧ ∀ tb' : Array Value, Q v (upd H' a (.tbl tb'))) E) := by
  refine ⟨fun vs H Q E h => F.len _ _ _ _ h.2, fun A outer s H args us vs Q E hr e0 hb r h => ?_⟩
  obtain ⟨ha, h⟩ := h
  have hg : s.heap.get? a = some { cls := .none, data := .fields #[] } := e0.hok a _ ha
  obtain ⟨t1, t2, t3, t4⟩ := tbO_ne a
  refine codeAny_mono (F.run A outer s (upd H a (TbO a)) args us vs _ E hr (env0_swap e0 ha (fun _ z => by cases z) (fun _ z => by cases z) ⟨⟨#[], hg, True.intro⟩, ⟨_, hg⟩, fun h1 h2 ⟨ps, z, t⟩ st => ⟨ps, st _ z, t⟩⟩) hb r h) fun q s' hq => ?_
  cases q with
  | error e => exact hq
  | ok fl =>
    cases fl with
    | next => exact False.elim hq
    | brk => exact False.elim hq
    | cont => exact False.elim hq
    | ret u =>
      obtain ⟨v, H', os, bare, un, hok, rv, h', q⟩ := hq
      obtain ⟨⟨tb', hg', ht'⟩, _, _⟩ := hok a _ h'
      exact ⟨v, _, os, bare, un_swap ha un (fun _ z => by cases z) (fun _ _ z => by cases z) (fun ps z => ⟨tb', by cases z; rw [Array.empty_append]⟩), hok_swap (o2 := .tbl tb') hok h' t1 t2 hg', rv, q tb'⟩
end
/-- x in y, x the walk's name, y a name of the def -/
theorem elt_in {X : Cx} {pins : List (Addr × Obj)} {σ : L2.St} {H1 : Hp} {P b : Addr} {scope : Scope} {x y : Str} {j : Nat} {xs items : List V} {p1 p2 p3 : Pos} (S : GenS0 X.env.scope scope x) (hy : (y, NameKind.free) ∈ scope.names) (hy2 : scope.names.lookup y = some .free) (hc : X.env.scope.names.lookup y = some .cell)
    (hj : X.N[j]? = some y) (hs : σ[j]? = some (some (V.ref b))) (hb : H1 b = some (.lst items) ∨ H1 b = some (.tup items)) (tb : GxR.TabG H1 P) (fi : items.all flatV = true) (fx : ∀ v ∈ xs, flatV v = true)
    (hd : (x == ("__debug__" : Str)) = false := by decide) (hd2 : (y == ("__debug__" : Str)) = false := by decide) (hn : (y == ("__classdict__" : Str)) = false := by decide) :
    EltV X pins σ H1 P scope x (.Compare (.Name x p1) [.In] [.Name y p2] p3) xs (fun v => inV v items) := by
  intro cenv A' E' v u s1 s2 m2 ecs ecc hv ru hns hm I keep
  obtain ⟨ps, hP, _⟩ := tb
  have nP : b ≠ P := fun z => by
    rw [z, hP] at hb
    rcases hb with h | h <;> cases h
  obtain ⟨m, hnm, hl⟩ := I.loc
  obtain ⟨ub, rb, look⟩ := hl j y (.ref b) hj hs (.inr (.inl hc))
  obtain rfl : ub = Value.ref b := rb
  obtain ⟨c, hcl, hcell⟩ : ∃ c, X.env.cells.lookup y = some c ∧ s1.heap.IsCell c (some (Value.ref b)) := by
    rcases look with ⟨z, _⟩ | ⟨_, a', ha', hcell⟩
    · have z' : X.env.scope.names.lookup y = some .local := z
      rw [hc] at z'
      cases z'
    · exact ⟨a', ha', hcell⟩
  have ncP : c ≠ P := fun z => by
    have := I.freeC y c hcl
    rw [z, hP] at this
    cases this
  have hcell2 : s2.heap.IsCell c (some (Value.ref b)) := by
    obtain ⟨o, ho, hd⟩ := hcell
    exact ⟨o, keep _ _ ncP ho, hd⟩
  have hcl2 : cenv.cells.lookup y = some c := by
    rw [ecc]
    exact NdefX.clo_has (S.of I.ok).free hy hcl
  refine wpAny_Compare1 ?_
  refine wpAny_Name (wpAny_loadName_local (by rw [ecs]; exact S.kind) (show cenv.scope.names.lookup x = some .local by rw [ecs]; exact S.loc) hns hm ?_) hd
  refine wpAny_Name (wpAny_loadName_free (by rw [ecs]; exact S.kind) (show cenv.scope.names.lookup y = some .free by rw [ecs]; exact hy2) hcl2 hcell2 ?_ hn) hd2
  rcases hb with hb | hb
  · obtain ⟨its, r, pl, hz⟩ := I.list (SqL.of hb)
    have hIL : s2.heap.IsList b its.toArray := by
      obtain ⟨ob, e, q⟩ := _root_.id pl.isList
      exact ⟨ob, keep _ _ nP e, q⟩
    refine SeqAt.in_listAt (eqU v) hIL (fun w hw => mem_eqAt ru (fx v hv) r fi w (by simpa using hw)) ⟨?_, GxR.keeps_refl _⟩
    rw [show its.toArray.any (eqU v) = its.any (eqU v) by simp, any_eqU r fi]
    rfl
  · obtain ⟨its, r, pl, hz⟩ := I.tuple (SqT.of hb)
    have hIL : s2.heap.IsTuple b its.toArray := by
      obtain ⟨ob, e, q⟩ := _root_.id pl
      exact ⟨ob, keep _ _ nP e, q⟩
    refine SeqAt.in_tupleAt (eqU v) hIL (fun w hw => mem_eqAt ru (fx v hv) r fi w (by simpa using hw)) ⟨?_, GxR.keeps_refl _⟩
    rw [show its.toArray.any (eqU v) = its.any (eqU v) by simp, any_eqU r fi]
    rfl
/-- a def whose code object is known -/
structure FunC (K : PySem.W.Frag) (x qual : Str) (st : Stmt) (f : Addr) (fd : FuncData) (c : Addr) : Prop where
  ex : ∃ (oc : Value) (od : Option Addr) (kV doc pm : Value) (an : Option Addr) (ct : Value) (osl : Array (Option Value)),
    fd = PySem.W.fnOf x qual (defArgs st) (defBody st) (defScope st) .none kV doc pm an (.ref c) ct ∧ K.lookup f = some ⟨oc, od, .func fd, osl⟩ ∧ PySem.W.codeIn K (.ref c) qual = true
theorem FunC.ok {P : Program} {w : World} {K : PySem.W.Frag} {mg : Str → Option Value} {base : Heap} {x qual : Str} {st : Stmt} {f c : Addr} {fd : FuncData} {N ps : List Str} {k : Nat} {sp : Sp} (F : FunC K x qual st f fd c) (S : FnScope N ps (defScope st)) (len : ∀ vs H Q E, sp vs H Q E → vs.length = ps.length)
    (hb : ∀ (A : Around) (outer : List Env) (s : Shared) (H : Hp) (vs : List V) (Q : VK) (E : XK), Room k (A.deeper (envOfC qual (defScope st) s.heap.objs.size f (.ref c))) → sp vs H Q E →
      ∃ t, PSs (cxOf CX0 P w K mg base N qual (defScope st) f (.ref c) A outer s H E).nox (defBody st) t ∧ t { nx := fun _ H' => Q .non H', rt := Q } (L2.start N vs) H) : FnOk P w K mg base CX0 (k + 1) f fd ps sp := by
  obtain ⟨oc, od, kV, doc, pm, an, ct, osl, rfl, lk, hcd⟩ := F.ex
  refine fn_of lk hcd S len fun A outer s H vs Q E hr hsp => ?_
  obtain ⟨t, h, q⟩ := hb A outer s H vs Q E hr hsp
  exact ⟨t, h.nox, q⟩

/-! ### lies_in -/
abbrev sLi : Stmt := topS 12
/-- the generator expression of return all(..) -/
def genOf : Stmt → Expr
  | .Return (some (.Call _ [e] _ _)) _ => e
  | _ => .Constant .none 0 ⟨0, 0, 0, 0⟩
def genScope : Expr → Scope
  | .GeneratorExp _ _ sc _ => sc
  | _ => defScope (.Pass ⟨0, 0, 0, 0⟩)
abbrev gLi : Expr := genOf ((defBody sLi).headD (.Pass ⟨0, 0, 0, 0⟩))
section
variable {P : Program} {w : World} {K : PySem.W.Frag} {mg : Str → Option Value} {base : Heap}
theorem scLi : FnScope ["rooms", "others"] ["rooms", "others"] (defScope sLi) := ⟨rfl, rfl, rfl, by decide +kernel, rfl, by decide +kernel, by decide +kernel⟩
theorem gsLi : GenS0 (defScope sLi) (genScope gLi) "room" := ⟨by decide +kernel, by decide +kernel, by decide +kernel, by decide +kernel, by decide +kernel, by decide +kernel⟩
/-- the promise with the def's table -/
def spLi0 (t : Addr) : Sp := fun vs H Q _ => ∃ (a b : Addr) (xs ys : List Int), vs = [.ref a, .ref b] ∧ (H a = some (.lst (xs.map V.int)) ∨ H a = some (.tup (xs.map V.int))) ∧ (H b = some (.lst (ys.map V.int)) ∨ H b = some (.tup (ys.map V.int))) ∧ GxR.TabG H t ∧ ∀ H2, GxR.Tabbed t H H2 → Q (.bl (xs.all fun x => decide (x ∈ ys))) H2
theorem ok_li0 {f c t : Addr} {fd : FuncData} (F : FunC K "lies_in" "lies_in" sLi f fd c) (am : mg "all" = none) (TB : GxR.TabB base mg c t) : FnOk P w K mg base CX0 2 f fd ["rooms", "others"] (spLi0 t) := by
  refine F.ok scLi (fun vs H Q E h => ?_) (fun A0 outer s H vs Q E hr h => ?_)
  · obtain ⟨a, b, xs, ys, rfl, _⟩ := h
    rfl
  · obtain ⟨a, b, xs, ys, rfl, ha, hb, tb, ret⟩ := h
    refine ⟨_, pss_one (ps_ret (pe_allV (c := c) (P := t) (pb := fun _ v => inV v (ys.map V.int)) hr (by rfl) am (by rfl) TB rfl gsLi (pv 0) (fun _ => by rfl))), ?_⟩
    refine ⟨.ref a, rfl, a, xs.map V.int, rfl, ?_, fun pins => ?_, tb, fun H2 h2 => ?_⟩
    · rcases ha with ha | ha
      · exact .inl (SqL.of ha)
      · exact .inr (SqT.of ha)
    · exact elt_in (j := 1) gsLi (by decide +kernel) (by decide +kernel) (show (defScope sLi).names.lookup (Str.ofString "others") = some NameKind.cell by decide +kernel) rfl rfl hb tb (flI _) fun v hv => by
        obtain ⟨i, _, rfl⟩ := List.mem_map.mp hv
        rfl
    · have e : (xs.map V.int).all (fun v => inV v (ys.map V.int)) = xs.all fun x => decide (x ∈ ys) := by
        rw [List.all_map]
        congr 1
        funext x
        exact inI x ys
      refine (show Q (.bl ((xs.map V.int).all fun v => inV v (ys.map V.int))) H2 from ?_)
      rw [e]
      exact ret H2 h2
/-- lies_in, its table told as a table -/
def spLi (t : Addr) : Sp := fun vs H Q _ => ∃ (a b : Addr) (xs ys : List Int), vs = [.ref a, .ref b] ∧ (H a = some (.lst (xs.map V.int)) ∨ H a = some (.tup (xs.map V.int))) ∧ (H b = some (.lst (ys.map V.int)) ∨ H b = some (.tup (ys.map V.int))) ∧ H t = some (TbO t) ∧ Q (.bl (xs.all fun x => decide (x ∈ ys))) H
theorem seq_upd {H : Hp} {a t : Addr} {xs : List V} {o : HO} (h : H a = some (.lst xs) ∨ H a = some (.tup xs)) (ht : H t = some (TbO t)) : upd H t o a = some (.lst xs) ∨ upd H t o a = some (.tup xs) := by
  have ne : a ≠ t := fun z => by
    unfold TbO at ht
    rw [z, ht] at h
    rcases h with h | h <;> cases h
  rw [upd_ne ne]
  exact h
theorem tabbed_back {H H2 : Hp} {t : Addr} {o : HO} (ht : H t = some (TbO t)) (h : GxR.Tabbed t (upd H t o) H2) : upd H2 t (TbO t) = H := by
  funext b
  by_cases hb : b = t
  · rw [hb, upd_same, ht]
  · rw [upd_ne hb, h.2 b hb, upd_ne hb]
theorem ok_li {f co tb_lies_in : Addr} {fd : FuncData} (F : FunC K "lies_in" "lies_in" sLi f fd co) (am : mg "all" = none) (TB : GxR.TabB base mg co tb_lies_in) : FnOk P w K mg base CX0 2 f fd ["rooms", "others"] (spLi tb_lies_in) := by
  refine (FnOk.tb tb_lies_in (ok_li0 (P := P) (w := w) F am TB)).imp fun vs H Q E h => ?_
  obtain ⟨a, b, xs, ys, rfl, ha, hb, ht, q⟩ := h
  refine ⟨ht, fun tb htb => ⟨a, b, xs, ys, rfl, seq_upd ha ht, seq_upd hb ht, ⟨tb, upd_same, htb⟩, fun H2 h2 => ?_⟩⟩
  obtain ⟨ps, h3, h4⟩ := h2.1
  refine ⟨ps, h3, h4, ?_⟩
  rw [tabbed_back ht h2]
  exact q
end

/-! ### a law's end with tables of code objects -/
section
variable {P : Program} {w : World} {K : PySem.W.Frag} {mg : Str → Option Value} {base : Heap} {k : Nat} {f : Addr} {fd : FuncData} {ps : List Str} {sp : Sp}
/-- the promise, asked where the tables are empty -/
def spUn : List Addr → Sp → Sp
  | [], sp => sp
  | a :: as, sp => fun vs H Q E => H a = some (.tbl #[]) ∧ spUn as sp vs (upd H a (TbO a)) (fun v H' => H' a = some (TbO a) ∧ ∀ tb' : Array Value, Q v (upd H' a (.tbl tb'))) E
theorem FnOk.untbs (F : FnOk P w K mg base CX0 k f fd ps sp) : ∀ as : List Addr, FnOk P w K mg base CX0 k f fd ps (spUn as sp)
  | [] => F
  | a :: as => FnOk.untb a (FnOk.untbs F as)
/-- a law's promise, its tables told as tables -/
def spLawT (K : PySem.W.Frag) (as : List Addr) : Sp := fun vs H Q _ => ∃ (a : Addr) (ns : List Int), vs = [.ref a] ∧ SqL K H a (ns.map V.int) ∧ ns.length ≤ 63 ∧ (∀ t ∈ as, H t = some (TbO t)) ∧ ∀ H', Same H H' → Q (.bl true) H'
theorem sqL_updT {H : Hp} {a t : Addr} {xs : List V} {o : HO} {tb : Array Value} (h : SqL K H a xs) (ht : H t = some (.tbl tb)) : SqL K (upd H t o) a xs := by
  rcases h with (h | ⟨ob, h⟩) | h
  · refine .inl (.inl ?_)
    rw [upd_ne fun z => by rw [z, ht] at h; cases h]
    exact h
  · refine .inl (.inr ⟨ob, ?_⟩)
    rw [upd_ne fun z => by rw [z, ht] at h; cases h]
    exact h
  · exact .inr h
theorem spUn_law {all : List Addr} {l : Addr} {ns : List Int} (l63 : ns.length ≤ 63) {E : XK} : ∀ (as done : List Addr) (H : Hp) (Q : VK), (∀ t ∈ all, t ∈ as ∨ t ∈ done) → (∀ t ∈ as, H t = some (.tbl #[])) → as.Nodup → (∀ t ∈ as, t ∉ done) → (∀ t ∈ done, H t = some (TbO t)) → SqL K H l (ns.map V.int) →
    (∀ H' : Hp, (∀ t ∈ done, H' t = some (TbO t)) → Q (.bl true) H') → spUn as (spLawT K all) [.ref l] H Q E
  | [], done, H, Q, hall, _, _, _, hd, hS, q => ⟨l, ns, rfl, hS, l63, fun t ht => hd t ((hall t ht).resolve_left (by intro z; cases z)), fun H' s => q H' fun t ht => s _ _ (hd t ht)⟩
  | a :: as, done, H, Q, hall, hT, nd, nn, hd, hS, q => by
    have ha := hT a List.mem_cons_self
    obtain ⟨n1, n2⟩ := List.nodup_cons.mp nd
    have nad : a ∉ done := nn a List.mem_cons_self
    refine ⟨ha, spUn_law l63 as (a :: done) _ _ (fun t ht => ?_) (fun t ht => ?_) n2 (fun t ht => ?_) (fun t ht => ?_) (sqL_updT hS ha) fun H' h' => ⟨h' a List.mem_cons_self, fun tb' => q _ fun t ht => ?_⟩⟩
    · rcases hall t ht with z | z
      · rcases List.mem_cons.mp z with rfl | z
        · exact .inr List.mem_cons_self
        · exact .inl z
      · exact .inr (List.mem_cons_of_mem _ z)
    · rw [upd_ne fun z => n1 (by rw [← z]; exact ht)]
      exact hT t (List.mem_cons_of_mem _ ht)
    · intro z
      rcases List.mem_cons.mp z with rfl | z
      · exact n1 ht
      · exact nn t (List.mem_cons_of_mem _ ht) z
    · rcases List.mem_cons.mp ht with rfl | ht
      · exact upd_same
      · rw [upd_ne fun z => nad (by rw [← z]; exact ht)]
        exact hd t ht
    · rw [upd_ne fun z => nad (by rw [← z]; exact ht)]
      exact h' t (List.mem_cons_of_mem _ ht)
end
/-- a def's code object and its table, at a law's head -/
structure TabH (q : Program) (K : Params → PySem.W.Frag) (x : Str) (c t : Addr) : Prop where
  rec_ : ∃ d, (recsOf q).find? (fun e => e.name == x) = some d
  tab : ∀ w : World, PySem.W.tabIn (K w.params) x = some (c, t)
  out : ∀ w : World, (K w.params).lookup t = none
theorem TabH.of {q : Program} {K : Params → PySem.W.Frag} {x : Str} {f c t : Addr} {oc oc2 : Value} {od od2 : Option Addr} {sl sl2 : Array (Option Value)} {fd : FuncData} {vs : Array Value} (r : ((recsOf q).find? (fun e => e.name == x)).isSome = true)
    (n : ∀ w : World, PySem.W.nsIn (K w.params) mainGlobals x = some (some (.ref f))) (l : ∀ w : World, (K w.params).lookup f = some ⟨oc, od, .func fd, sl⟩) (e : fd.code = .ref c) (l2 : ∀ w : World, (K w.params).lookup c = some ⟨oc2, od2, .fields vs, sl2⟩) (v : vs[11]? = some (.ref t)) (o : ∀ w : World, (K w.params).lookup t = none) : TabH q K x c t :=
  ⟨Option.isSome_iff_exists.mp r, fun w => by unfold PySem.W.tabIn; rw [n w]; simp only [l w, e, l2 w, v], o⟩
theorem walkT {l : PySem.W.OpenLaw} {k : Nat} {q : Program} {loose : List Str} {XP : (Str → Option Value) → Heap → Prop} {YP : World → Heap → Prop} {d : DefRec} {K : Params → PySem.W.Frag} {cs : List (Addr × Addr)} (hn : l.most = some 63) (hdf : d.params.defaults = []) (hr : Room k callerA)
    (hY : ∀ (w : World) (h : Heap), YP w h → (K w.params).In h) (nd : (cs.map (·.2)).Nodup) (ht : ∀ p ∈ cs, ∃ x, TabH q K x p.1 p.2)
    (F : ∀ (w : World) (mg : Str → Option Value) (fa : Addr) (h : Heap), (K w.params).In h → h.Ns mainGlobals mg → mg d.name = some (.ref fa) →
      ∃ fd : FuncData, (∀ (s : Shared) (u : Value), BindsTo s fd ⟨[u], []⟩ [("script", u)]) ∧ ∀ base : Heap, (K w.params).In base → base.Ns mainGlobals mg → (∀ p ∈ cs, LamX.TabB base mg p.1 p.2) → FnOk l.prog w (K w.params) mg base CX0 k fa fd ["script"] (spLawT (K w.params) (cs.map (·.2)))) :
    PySem.W.WalkO q loose XP YP l.row.toRowW d [] (fun f vs => PySem.call f vs) := by
  refine Att.attach_callB hn hdf fun w s₀ s₁ mg mb fa o pm cd doc a vs ns G Y ho hd hcd hmg hobj hints hlen hbits hg => ?_
  have KX := hY w _ Y
  obtain ⟨fd, hb, hF⟩ := F w mg fa _ KX G.T.g hmg
  have ts : ∀ p ∈ cs, PySem.W.CodeHd s₁.heap p.1 p.2 ∧ s₁.heap.get? p.2 = some { cls := .none, data := .fields #[] } := fun p hp => by
    obtain ⟨x, h⟩ := ht p hp
    obtain ⟨dd, hdd⟩ := h.rec_
    exact PySem.W.tab_of G.T KX hdd (h.tab w)
  refine LamX.law_callTs (cs := cs) KX G.T.g G.T.b G.T.builtins G.T.nolimit hg (fun p hp => (ts p hp).2) (fun p hp => by obtain ⟨x, h⟩ := ht p hp; exact h.out w) (fun p hp => (ts p hp).1) G.T.bmain hobj hints (Nat.le_trans hlen (by decide)) hr
    (fun base h1 h2 h3 => FnOk.untbs (hF base h1 h2 h3) (cs.map (·.2))) hb (fun H hH hS => ?_) fun H e s' z => z
  refine spUn_law hlen (cs.map (·.2)) [] H (fun v _ => v = V.bl true) (fun t h => .inl h) (fun t h => ?_) nd (fun t _ z => by cases z) (fun t z => by cases z) hS fun H' _ => rfl
  obtain ⟨p, hp, rfl⟩ := List.mem_map.mp h
  exact hH p hp

/-! ### all(test for x, y in zip(a, b)), a and b both lists or both tuples -/
section
variable {X : Cx} {pins : List (Addr × Obj)} {σ : L2.St} {H : Hp} {s : Shared}
def EltZ (X : Cx) (scope : Scope) (xa xb : Str) (elt : Expr) (ps : List (V × V)) (pb : V → V → Bool) : Prop :=
  ∀ (cenv : Env) (A' : Around) (E' : Value → Shared → Prop) (p : V × V) (u v : Value) (s2 : Shared) (m2 : Str → Option Value), cenv.scope = scope → p ∈ ps → L2.RelV p.1 u → L2.RelV p.2 v → s2.heap.Ns cenv.locals m2 → m2 xa = some u → m2 xb = some v →
    wpAny (model X.prog X.w) A' (eval elt cenv) (fun y s3 => y = .bool (pb p.1 p.2) ∧ Keeps s2 s3) E' s2
def trZ (pb : V → V → Bool) (l : List (V × V)) (j : Nat) : Bool := match l[j]? with
  | some b => pb b.1 b.2
  | none => false
theorem trZ_some {pb : V → V → Bool} {l : List (V × V)} {j : Nat} {b : V × V} (h : l[j]? = some b) : trZ pb l j = pb b.1 b.2 := by
  unfold trZ
  rw [h]
theorem all_trZ (l : List (V × V)) (pb : V → V → Bool) : (List.range l.length).all (trZ pb l) = l.all fun p => pb p.1 p.2 := by
  rw [Bool.eq_iff_iff, List.all_eq_true, List.all_eq_true]
  constructor
  · intro h b hb
    obtain ⟨j, hj, e⟩ := List.getElem_of_mem hb
    have q := h j (List.mem_range.mpr hj)
    rw [trZ_some (List.getElem?_eq_getElem hj), e] at q
    exact q
  · intro h j hj
    have hj' := List.mem_range.mp hj
    rw [trZ_some (List.getElem?_eq_getElem hj')]
    exact h _ (List.getElem_mem hj')
structure GenZ (scope : Scope) (xa xb : Str) : Prop where
  kind : scope.kind = .function
  co : scope.isCoroutine = false
  cell : ∀ y ∈ scope.names, y.2 ≠ .cell
  dot : scope.names.lookup (".0" : Str) = some NameKind.local
  la : scope.names.lookup xa = some .local
  lb : scope.names.lookup xb = some .local
  ne : xa ≠ xb
  free : ∀ y ∈ scope.names, y.2 ≠ .free
/-- zip of two lists or two tuples, and its iterator -/
theorem zip_made {a b : Addr} {xs ys : List V} {Q' : Value → Shared → Prop} (I : Inv X pins σ H s) (h : (SqL X.K H a xs ∧ SqL X.K H b ys) ∨ (SqT X.K H a xs ∧ SqT X.K H b ys))
    (q : ∀ (us ws : List Value) (h2 : Heap) (St : Nat → Heap → Prop) (Md : Nat → Addr → Heap → Prop), Vals xs us → Vals ys ws → a < s.heap.objs.size → b < s.heap.objs.size → (∀ {c : Addr} {fs : Array Value}, s.heap.get? c = some { cls := .none, data := .fields fs } → a ≠ c ∧ b ≠ c) →
      (∀ c o, s.heap.get? c = some o → h2.get? c = some o) → h2.objs.size = s.heap.objs.size + 5 →
      (∀ A' : Around, A'.handled = none → WalksU X.prog X.w A' (s.heap.objs.size + 4) ((s.heap.objs.size + 4) :: (s.heap.objs.size + 2) :: (s.heap.objs.size + 3) :: ([s.heap.objs.size, a] ++ [s.heap.objs.size + 1, b])) [s.heap.objs.size + 4, s.heap.objs.size + 3, s.heap.objs.size, s.heap.objs.size + 1] (min us.toArray.size ws.toArray.size)
        (fun i vals => ∃ u v, us.toArray[i]? = some u ∧ ws.toArray[i]? = some v ∧ vals = #[u, v]) St Md) → St 0 h2 → Q' (.ref (s.heap.objs.size + 4)) { s with heap := h2 }) :
    wpAny (model X.prog X.w) X.A (call (.type "zip") [.ref a, .ref b]) (fun xv s1 => wpAny (model X.prog X.w) X.A (pyIter xv) Q' X.xe s1) X.xe s := by
  rcases h with ⟨ha, hb⟩ | ⟨ha, hb⟩
  · obtain ⟨us, r1, l1, _⟩ := I.list ha
    obtain ⟨ws, r2, l2, _⟩ := I.list hb
    have i1 := l1.isList
    have i2 := l2.isList
    have alt : a < s.heap.objs.size := by
      obtain ⟨_, e, _⟩ := _root_.id i1
      exact Heap.lt_size e
    have blt : b < s.heap.objs.size := by
      obtain ⟨_, e, _⟩ := _root_.id i2
      exact Heap.lt_size e
    refine zip_begins2 (begins_list a us.toArray) (begins_list b ws.toArray) i1 i2 fun h2 hz hTI hTO g1 g2 sz k2 => ?_
    refine wpAny_pyIter_zip hz (q us ws h2 _ _ r1 r2 alt blt ?_ k2 sz (fun A' hA => (WalksT.zipD2 (zip_sep2 (fp1 := [a]) (fp2 := [b]) (fun c hc => by rw [List.mem_singleton.mp hc]; exact alt) (fun c hc => by rw [List.mem_singleton.mp hc]; exact blt)) (Draws.list (A := A'.in1) hA _ _ (Nat.ne_of_lt alt) us.toArray) (Draws.list (A := A'.in1) hA _ _ (Nat.ne_of_lt (Nat.lt_succ_of_lt blt)) ws.toArray)).toU) ⟨hz, hTI, ⟨_, _, hTO⟩, ⟨⟨_, g1, rfl, rfl⟩, ?_⟩, ⟨⟨_, g2, rfl, rfl⟩, ?_⟩⟩)
    · intro c fs e
      obtain ⟨o1, e1, _, _, d1⟩ := _root_.id i1
      obtain ⟨o2, e2, _, _, d2⟩ := _root_.id i2
      refine ⟨fun z => ?_, fun z => ?_⟩
      · rw [z, e] at e1
        cases e1
        cases d1
      · rw [z, e] at e2
        cases e2
        cases d2
    · obtain ⟨ob, e, r⟩ := _root_.id i1
      exact ⟨ob, k2 _ _ e, r⟩
    · obtain ⟨ob, e, r⟩ := _root_.id i2
      exact ⟨ob, k2 _ _ e, r⟩
  · obtain ⟨us, r1, i1, _⟩ := I.tuple ha
    obtain ⟨ws, r2, i2, _⟩ := I.tuple hb
    have alt : a < s.heap.objs.size := by
      obtain ⟨_, e, _⟩ := _root_.id i1
      exact Heap.lt_size e
    have blt : b < s.heap.objs.size := by
      obtain ⟨_, e, _⟩ := _root_.id i2
      exact Heap.lt_size e
    refine zip_begins2 (begins_tuple a us.toArray) (begins_tuple b ws.toArray) i1 i2 fun h2 hz hTI hTO g1 g2 sz k2 => ?_
    refine wpAny_pyIter_zip hz (q us ws h2 _ _ r1 r2 alt blt ?_ k2 sz (fun A' hA => (WalksT.zipD2 (zip_sep2 (fp1 := [a]) (fp2 := [b]) (fun c hc => by rw [List.mem_singleton.mp hc]; exact alt) (fun c hc => by rw [List.mem_singleton.mp hc]; exact blt)) (Draws.tuple (A := A'.in1) hA _ _ (Nat.ne_of_lt alt) us.toArray) (Draws.tuple (A := A'.in1) hA _ _ (Nat.ne_of_lt (Nat.lt_succ_of_lt blt)) ws.toArray)).toU) ⟨hz, hTI, ⟨_, _, hTO⟩, ⟨⟨_, g1, rfl, rfl⟩, ?_⟩, ⟨⟨_, g2, rfl, rfl⟩, ?_⟩⟩)
    · intro c fs e
      obtain ⟨o1, e1, _, _, d1⟩ := _root_.id i1
      obtain ⟨o2, e2, _, _, d2⟩ := _root_.id i2
      refine ⟨fun z => ?_, fun z => ?_⟩
      · rw [z, e] at e1
        cases e1
        cases d1
      · rw [z, e] at e2
        cases e2
        cases d2
    · obtain ⟨ob, e, r⟩ := _root_.id i1
      exact ⟨ob, k2 _ _ e, r⟩
    · obtain ⟨ob, e, r⟩ := _root_.id i2
      exact ⟨ob, k2 _ _ e, r⟩
def ReadyZ (X : Cx) (pins : List (Addr × Obj)) (σ : L2.St) (H1 : Hp) (P : Addr) (ps : List (V × V)) (pb : V → V → Bool) (g : Addr) (s5 : Shared) : Prop :=
  ∃ (ft wt : List Addr) (G : Array GenState → Array GenState → Prop) (F : Nat → Value → Prop) (St : Nat → Shared → Prop),
    WalksS X.prog X.w X.A.in1 g ft wt G ps.length F St ∧ St 0 s5 ∧ TruthOf X.prog X.w X.A.in1 F (trZ pb ps) ∧ ∀ s', Moved wt G s5 s' → ∃ H2, GxR.Tabbed P H1 H2 ∧ Inv X pins σ H2 s'
theorem gen_zip {c P : Addr} {elt e1 e2 : Expr} {xa xb : Str} {pa pb_ pt px zp gpos : Pos} {kt : Nat} {scope : Scope} {pb : V → V → Bool} {ta : TA} {k : Nat} {Q' : Value → Shared → Prop} {R : List V → List V → Hp → Prop}
    (hr : Room k X.A) (hg : Gl X "zip") (hm : X.mg "zip" = none) (TB : GxR.TabB X.base X.mg c P) (hcode : X.env.code = .ref c) (S : GenZ scope xa xb) (hi : PA X [e1, e2] ta) (hs : ∀ v, genFold (.Call (.Name "zip" px) [e1, e2] [] zp) X.env v = pure v) (I : Inv X pins σ H s)
    (h : ta σ H fun vs H1 => ∃ (a b : Addr) (xs ys : List V), vs = [.ref a, .ref b] ∧ ((SqL X.K H1 a xs ∧ SqL X.K H1 b ys) ∨ (SqT X.K H1 a xs ∧ SqT X.K H1 b ys)) ∧ EltZ X scope xa xb elt (xs.zip ys) pb ∧ GxR.TabG H1 P ∧ R xs ys H1)
    (hQ : ∀ xs ys H1 g s5, R xs ys H1 → ReadyZ X pins σ H1 P (xs.zip ys) pb g s5 → Q' (.ref g) s5)
    (hs1 : starEach [e1, e2] X.env = (false, eval e1 X.env) :: starEach [e2] X.env := by rfl) (hpl : (backTo zp (starEach [e2] X.env)).any (·.1) = false := by rfl) :
    wpAny (model X.prog X.w) X.A (eval (.GeneratorExp elt [⟨.Tuple [.Name xa pa, .Name xb pb_] kt pt, .Call (.Name "zip" px) [e1, e2] [] zp, [], 0⟩] scope gpos) X.env) Q' X.xe s := by
  refine wpAny_GeneratorExp_walksQT hr.hd S.co (closure_ok fun y hy e => absurd e (S.free y hy)) S.cell S.dot S.la S.lb S.ne S.kind (by have := hr.dp; omega) ?_ hs
  refine Call_ (ld_blt I hg hm PyProof.Rows.boot_zip (PyProof.Rows.callWith_type1 (thn (hi.run zp pins s σ H _ I h) fun uv sa ⟨vs, H1, I1, r1, q1⟩ => ?_) hs1 hpl))
  obtain ⟨a, b, xs, ys, rfl, hab, hel, ⟨ps, hP, ht⟩, q1⟩ := q1
  cases r1 with
  | cons r rr =>
  cases rr with
  | cons r' rr =>
  cases rr
  cases r
  cases r'
  refine zip_made I1 hab fun us ws h2 St Md rv rw_ alt blt apart k2 sz W hst => ?_
  have nlt1 : ¬ (sa.heap.objs.size + 1 : Nat) < sa.heap.objs.size := by omega
  have nlt2 : ¬ (sa.heap.objs.size + 2 : Nat) < sa.heap.objs.size := by omega
  have nlt3 : ¬ (sa.heap.objs.size + 3 : Nat) < sa.heap.objs.size := by omega
  have nlt4 : ¬ (sa.heap.objs.size + 4 : Nat) < sa.heap.objs.size := by omega
  have memL : ∀ {c : Addr}, c ∈ ((sa.heap.objs.size + 4) :: (sa.heap.objs.size + 2) :: (sa.heap.objs.size + 3) :: ([sa.heap.objs.size, a] ++ [sa.heap.objs.size + 1, b])) → c = sa.heap.objs.size + 4 ∨ c = sa.heap.objs.size + 2 ∨ c = sa.heap.objs.size + 3 ∨ c = sa.heap.objs.size ∨ c = a ∨ c = sa.heap.objs.size + 1 ∨ c = b := fun {c} hc => by simpa using hc
  have memW : ∀ {c : Addr}, c ∈ [sa.heap.objs.size + 4, sa.heap.objs.size + 3, sa.heap.objs.size, sa.heap.objs.size + 1] → c = sa.heap.objs.size + 4 ∨ c = sa.heap.objs.size + 3 ∨ c = sa.heap.objs.size ∨ c = sa.heap.objs.size + 1 := fun {c} hc => by simpa using hc
  have vat : ∀ (i : Nat) (u v : Value), (∃ x y, us.toArray[i]? = some x ∧ ws.toArray[i]? = some y ∧ (#[u, v] : Array Value) = #[x, y]) → ∃ p, (xs.zip ys)[i]? = some p ∧ L2.RelV p.1 u ∧ L2.RelV p.2 v := fun i u v hv => by
    obtain ⟨x, y, hx, hy, e⟩ := hv
    obtain ⟨ex, ey⟩ : u = x ∧ v = y := by simpa using congrArg Array.toList e
    subst ex
    subst ey
    have gu : us[i]? = some u := by simpa using hx
    have gv : ws[i]? = some v := by simpa using hy
    have iu : i < us.length := (List.getElem?_eq_some_iff.mp gu).1
    have iv : i < ws.length := (List.getElem?_eq_some_iff.mp gv).1
    obtain ⟨x2, hx2⟩ : ∃ x2, xs[i]? = some x2 := ⟨xs[i]'(by rw [rv.length]; exact iu), List.getElem?_eq_getElem _⟩
    obtain ⟨y2, hy2⟩ : ∃ y2, ys[i]? = some y2 := ⟨ys[i]'(by rw [rw_.length]; exact iv), List.getElem?_eq_getElem _⟩
    obtain ⟨u2, hu2, ru⟩ := rv.get hx2
    obtain ⟨v2, hv2, rv2⟩ := rw_.get hy2
    rw [gu] at hu2
    rw [gv] at hv2
    cases hu2
    cases hv2
    exact ⟨(x2, y2), by rw [List.getElem?_zip_eq_some]; exact ⟨hx2, hy2⟩, ru, rv2⟩
  have tbs : sa.heap.get? P = some { cls := .none, data := .fields ps } := I1.hok P _ hP
  have tlt : P < sa.heap.objs.size := Heap.lt_size tbs
  have tb2 : h2.get? P = some { cls := .none, data := .fields ps } := k2 _ _ tbs
  have cd : PySem.W.CodeHd h2 c P := TB.code.keeps fun b u e => k2 _ _ (I1.bk b u e)
  have nl2 : h2.NoLimit := I1.nolimit.keeps k2
  have goes : ∀ (code : Value) (hw : Heap) (tk : Nat) (ps' : Array Value), Heap.ExtBut P h2 hw → h2.objs.size ≤ hw.objs.size → hw.get? P = some { cls := .none, data := .fields ps' } → (∃ add, ps' = ps ++ add) → TriplesOk ps'.toList →
      wpAny (model X.prog X.w) X.A (builtinsFor X.env.globals X.env.builtins) (fun bi z4 =>
        ∃ Ia ft wt nn Pf St0 Md pz F, Value.ref (sa.heap.objs.size + 4) = .ref Ia ∧ (∀ A' : Around, A'.handled = none → WalksU X.prog X.w A' Ia ft wt nn Pf St0 Md) ∧ (∀ i vals, Pf i vals → ∃ va vb, vals = #[va, vb]) ∧ St0 0 z4.heap ∧ (∀ b ∈ ft, b < z4.heap.objs.size) ∧ z4.heap.NoLimit ∧ cStatics ∉ wt ∧
          (∀ hrf : Heap, (∀ b o, z4.heap.get? b = some o → hrf.get? b = some o) →
            QuietGenT X.prog X.w (genEnv scope (cloFrom X.env.cells scope.names []) z4.heap.objs.size code bi X.env) xa xb [] elt (List.range z4.heap.objs.size) wt Pf pz F hrf) ∧
          (∀ a hn5_ tk gst, gst.bare = true → z4.heap.objs.size < a → hn5_.objs.size = a + 1 → (∀ b o, z4.heap.get? b = some o → hn5_.get? b = some o) →
            WalksS X.prog X.w X.A.in4 a (a :: z4.heap.objs.size :: List.range z4.heap.objs.size) (z4.heap.objs.size :: wt) (GenOnlyQ z4.gens.size) (passing pz nn 0).length
              (fun q0 y => ∃ i, (passing pz nn 0)[q0]? = some i ∧ F i y) (GenAt X.prog X.w X.A.in4 a z4.gens.size z4.heap.objs.size (List.range z4.heap.objs.size) wt pz nn F) →
            GenAt X.prog X.w X.A.in4 a z4.gens.size z4.heap.objs.size (List.range z4.heap.objs.size) wt pz nn F 0 { z4 with gens := z4.gens.push gst, toks := tk, heap := hn5_ } →
            Q' (.ref a) { z4 with gens := z4.gens.push gst, toks := tk, heap := hn5_ })) X.xe { sa with heap := hw, toks := tk } := by
    intro code hw tk ps' hx hsz tb3 mre tr3
    obtain ⟨bm, ob, e1, e2, e3, e4, e5, e6, e7, e8⟩ := TB.bm
    have cnP : cStatics ≠ P := fun e => by
      obtain ⟨_, hns, _⟩ := I1.nolimit
      obtain ⟨o', es, ep, ho, hd, _⟩ := hns
      rw [e, tbs] at ho
      cases ho
      cases hd
    have clt : cStatics < sa.heap.objs.size := let ⟨_, hns, _⟩ := I1.nolimit; hns.lt
    have kp3 : ∀ b u, b ≠ P → sa.heap.get? b = some u → hw.get? b = some u := fun b u hb e => hx b u hb (k2 _ _ e)
    refine wpAny_builtinsFor (m := X.mg) (by rw [I1.ok.glob]; exact ((I1.mod.glob.keeps I1.bk).keeps k2).extBut hx TB.gP) e1 e2 (kp3 _ _ e4 (I1.bk _ _ e5)) e6 e7 e8 ?_
    have hsw : sa.heap.objs.size + 5 ≤ hw.objs.size := by rw [← sz]; exact hsz
    refine ⟨sa.heap.objs.size + 4, _, _, _, _, St, Md, (fun _ => true),
      (fun i y => ∃ p, (xs.zip ys)[i]? = some p ∧ y = .bool (pb p.1 p.2)), rfl, W, (fun i vals hv => by obtain ⟨u, v, _, _, e⟩ := hv; exact ⟨u, v, e⟩), ?_, ?_, nl2.extBut hx cnP, ?_, ?_, ?_⟩
    · refine (W X.A hr.hd).frame _ _ _ hst fun b hb u e => hx b u (fun z => ?_) e
      have hb := memL hb
      rcases hb with q | q | q | q | q | q | q
      all_goals rw [q] at z
      · exact nlt4 (z ▸ tlt)
      · exact nlt2 (z ▸ tlt)
      · exact nlt3 (z ▸ tlt)
      · exact Nat.lt_irrefl _ (z ▸ tlt)
      · exact (apart tbs).1 z
      · exact nlt1 (z ▸ tlt)
      · exact (apart tbs).2 z
    · intro b hb
      have hb := memL hb
      show b < hw.objs.size
      have up : ∀ {n : Nat}, n < sa.heap.objs.size + 5 → n < hw.objs.size := fun {n} z => Nat.lt_of_lt_of_le z hsw
      rcases hb with q | q | q | q | q | q | q
      all_goals rw [q]
      · exact up (Nat.add_lt_add_left (by decide) _)
      · exact up (Nat.add_lt_add_left (by decide) _)
      · exact up (Nat.add_lt_add_left (by decide) _)
      · exact up (Nat.lt_add_of_pos_right (by decide))
      · exact up (Nat.lt_of_lt_of_le alt (Nat.le_add_right _ _))
      · exact up (Nat.add_lt_add_left (by decide) _)
      · exact up (Nat.lt_of_lt_of_le blt (Nat.le_add_right _ _))
    · intro z
      have hb := memW z
      rcases hb with q | q | q | q
      all_goals rw [q] at clt
      · exact nlt4 clt
      · exact nlt3 clt
      · exact Nat.lt_irrefl _ clt
      · exact nlt1 clt
    · intro hrf khr
      refine ⟨fun A' E' i va vb s2 mm hand vP hn ma mb hk => ?_, fun A' E' i va vb s2 mm hand vP hp hn ma mb hk => ?_⟩
      · simp only [List.forIn_nil]
        exact wpAny_pure ⟨rfl, GxR.keeps_refl _⟩
      · obtain ⟨p, hb, ra, rb⟩ := vat i va vb vP
        exact wpAny_mono (hel _ A' E' p va vb s2 mm rfl (List.mem_of_getElem? hb) ra rb hn ma mb) (fun y s3 r => ⟨⟨p, hb, r.1⟩, r.2⟩) fun _ _ e => e
    · intro g hg5 tkg gst gbr agt sz5 kg5 Wg gat
      simp only [GxR.passing_true, List.length_range] at Wg
      have hn5 : min us.toArray.size ws.toArray.size = (xs.zip ys).length := by rw [List.size_toArray, List.size_toArray, List.length_zip, rv.length, rw_.length]
      rw [hn5] at Wg gat
      refine hQ xs ys H1 g _ q1 ⟨_, _, _, _, _, Wg.in4_1, gat, ?_, fun s' mvd => ?_⟩
      · intro q0 y sj Qj Ej hy hQj
        obtain ⟨i, hij, p, hb, rfl⟩ := hy
        obtain ⟨q0l, ej⟩ := List.getElem?_eq_some_iff.mp hij
        rw [List.getElem_range] at ej
        subst ej
        have hQ2 : Qj (trZ pb (xs.zip ys) q0) sj := hQj
        rw [trZ_some hb] at hQ2
        exact wpAny_truthy_bool hQ2
      · obtain ⟨add, eadd⟩ := mre
        have notw : ∀ b u, sa.heap.get? b = some u → b ∉ hw.objs.size :: [sa.heap.objs.size + 4, sa.heap.objs.size + 3, sa.heap.objs.size, sa.heap.objs.size + 1] := fun b u e hb => by
          have hl := Heap.lt_size e
          rcases List.mem_cons.mp hb with z | z
          · rw [z] at hl
            have h9 : (hw.objs.size : Nat) < sa.heap.objs.size := hl
            omega
          · rcases memW z with z | z | z | z
            all_goals rw [z] at hl
            · exact nlt4 hl
            · exact nlt3 hl
            · exact Nat.lt_irrefl _ hl
            · exact nlt1 hl
        have J := GxR.inv_tab (more := add) (h' := s'.heap) (g' := s'.gens) (d' := s'.drawn) (t' := s'.toks) I1 hP (fun b u hb e => mvd.heap b u (notw b u e) (kg5 b u (kp3 b u hb e)))
          (by rw [← eadd]; exact mvd.heap P _ (notw P _ tbs) (kg5 P _ tb3)) (AllBare.movedS (I1.bare.push gbr) mvd)
        rw [GxR.sh_eta sa s' mvd.os] at J
        refine ⟨upd H1 P (.tbl (ps ++ add)), ⟨⟨ps ++ add, upd_same, by rw [← eadd]; exact tr3⟩, fun b hb => upd_ne hb⟩, J⟩
  refine ⟨nl2, ?_⟩
  cases hf : codeAmong gpos ps.toList with
  | none =>
    refine wpAny_genexprCodeX hcode (cd.code tb2 ht) (cd.tab tb2) hf fun c' h' tk hx hge hlt hco' _ htab' _ => ?_
    obtain ⟨o1, vs, f1, tf, fl, tg, inF, tx, tt, op, _, _, _, _, _, _, _, _, _, htr, _⟩ := hco'
    exact goes _ h' tk _ hx (Nat.le_trans hge (Nat.le_of_lt hlt)) htab'.2 ⟨_, rfl⟩ htr
  | some cv =>
    refine wpAny_genexprCode_hit hcode (cd.code tb2 ht) hf ?_
    exact goes cv h2 sa.toks ps (Heap.ExtBut.refl _ _) (Nat.le_refl _) tb2 ⟨#[], by simp⟩ ht
/-- all(test for x, y in zip(e1, e2)) -/
def tAllZ (X : Cx) (P : Addr) (scope : Scope) (xa xb : Str) (elt : Expr) (pb : V → V → Bool) (ta : TA) : TE := fun σ H Q => ta σ H fun vs H1 => ∃ (a b : Addr) (xs ys : List V), vs = [.ref a, .ref b] ∧ ((SqL X.K H1 a xs ∧ SqL X.K H1 b ys) ∨ (SqT X.K H1 a xs ∧ SqT X.K H1 b ys)) ∧ EltZ X scope xa xb elt (xs.zip ys) pb ∧ GxR.TabG H1 P ∧
  ∀ H2, GxR.Tabbed P H1 H2 → Q (.bl ((xs.zip ys).all fun p => pb p.1 p.2)) H2
theorem pe_allZ {c P : Addr} {elt e1 e2 : Expr} {xa xb : Str} {pa pb_ pt px zp p pos gpos : Pos} {kt : Nat} {scope : Scope} {pb : V → V → Bool} {ta : TA} {k : Nat}
    (hr : Room k X.A) (hg : Gl X "all") (hm : X.mg "all" = none) (hb : bootBuiltins "all" = some (.builtin "all")) (hgz : Gl X "zip") (hmz : X.mg "zip" = none) (TB : GxR.TabB X.base X.mg c P) (hcode : X.env.code = .ref c) (S : GenZ scope xa xb) (hi : PA X [e1, e2] ta)
    (hs : ∀ v, genFold (.Call (.Name "zip" px) [e1, e2] [] zp) X.env v = pure v)
    (he : starEach [.GeneratorExp elt [⟨.Tuple [.Name xa pa, .Name xb pb_] kt pt, .Call (.Name "zip" px) [e1, e2] [] zp, [], 0⟩] scope gpos] X.env = (false, eval (.GeneratorExp elt [⟨.Tuple [.Name xa pa, .Name xb pb_] kt pt, .Call (.Name "zip" px) [e1, e2] [] zp, [], 0⟩] scope gpos) X.env) :: starEach [] X.env := by rfl)
    (hs1 : starEach [e1, e2] X.env = (false, eval e1 X.env) :: starEach [e2] X.env := by rfl) (hpl : (backTo zp (starEach [e2] X.env)).any (·.1) = false := by rfl) :
    PE X (.Call (.Name "all" p) [.GeneratorExp elt [⟨.Tuple [.Name xa pa, .Name xb pb_] kt pt, .Call (.Name "zip" px) [e1, e2] [] zp, [], 0⟩] scope gpos] [] pos) (tAllZ X P scope xa xb elt pb ta) := by
  refine ⟨fun pins s σ H Q I h => ?_⟩
  refine wpAny_Call_Name_kw (ld_blt I hg hm hb ?_)
  refine PyProof.Rows.callWith_builtin1 ?_ he (by rfl)
  rw [he]
  show wpAny _ _ (spliced ((false, eval (.GeneratorExp elt [⟨.Tuple [.Name xa pa, .Name xb pb_] kt pt, .Call (.Name "zip" px) [e1, e2] [] zp, [], 0⟩] scope gpos) X.env) :: backTo pos (starEach [] X.env))) _ _ s
  refine Calls.spliced_cons (gen_zip (pb := pb) (R := fun xs ys H1 => ∀ H2, GxR.Tabbed P H1 H2 → Q (.bl ((xs.zip ys).all fun p => pb p.1 p.2)) H2) hr hgz hmz TB hcode S hi hs I h (fun xs ys H1 g s5 hR hG => ?_) hs1 hpl)
  obtain ⟨ft, wt, G, F, St, W, hst, htr, hI⟩ := hG
  refine Calls.spliced_nil ?_
  refine call_all_walkS (W.self 0 _ _ _ hst ⟨g, ft, wt, G, _, F, St, _, rfl, W, hst, htr, fun s' mvd => ?_⟩)
  obtain ⟨H2, hT, J⟩ := hI s' mvd
  refine ⟨.bl _, H2, J, rfl, ?_⟩
  rw [all_trZ]
  exact hR H2 hT
/-- x < y, ints -/
theorem elt_lt {scope : Scope} {xa xb : Str} {ps : List (V × V)} {p1 p2 p3 : Pos} (S : GenZ scope xa xb) (hp : ∀ p ∈ ps, ∃ i j : Int, p = (V.int i, V.int j)) (hd : (xa == ("__debug__" : Str)) = false := by decide) (hd2 : (xb == ("__debug__" : Str)) = false := by decide) :
    EltZ X scope xa xb (.Compare (.Name xa p1) [.Lt] [.Name xb p2] p3) ps (fun u v => match u, v with | .int i, .int j => decide (i < j) | _, _ => false) := by
  intro cenv A' E' p u v s2 m2 ecs hpm ru rv hns hma hmb
  obtain ⟨i, j, rfl⟩ := hp p hpm
  obtain ⟨t1, rfl⟩ := (show ∃ t, u = Value.int i t from ru)
  obtain ⟨t2, rfl⟩ := (show ∃ t, v = Value.int j t from rv)
  refine wpAny_Compare1 ?_
  refine wpAny_Name (wpAny_loadName_local (by rw [ecs]; exact S.kind) (show cenv.scope.names.lookup xa = some .local by rw [ecs]; exact S.la) hns hma ?_) hd
  refine wpAny_Name (wpAny_loadName_local (by rw [ecs]; exact S.kind) (show cenv.scope.names.lookup xb = some .local by rw [ecs]; exact S.lb) hns hmb ?_) hd2
  exact lt_int ⟨rfl, GxR.keeps_refl _⟩
end

/-! ### is_ascending -/
abbrev sIa : Stmt := topS 11
abbrev gIa : Expr := genOf ((defBody sIa).headD (.Pass ⟨0, 0, 0, 0⟩))
theorem asc_zip : ∀ l : List Int, ((l.map V.int).zip ((l.drop 1).map V.int)).all (fun p => match p.1, p.2 with | .int i, .int j => decide (i < j) | _, _ => false) = true ↔ Up l
  | [] => by
    constructor
    · intro _
      exact List.Pairwise.nil
    · intro _
      rfl
  | [x] => by
    constructor
    · intro _
      exact List.pairwise_singleton _ _
    · intro _
      rfl
  | x :: y :: l => by
    have ih := asc_zip (y :: l)
    have e : (((x :: y :: l).map V.int).zip (((x :: y :: l).drop 1).map V.int)).all (fun p => match p.1, p.2 with | .int i, .int j => decide (i < j) | _, _ => false) = (decide (x < y) && (((y :: l).map V.int).zip (((y :: l).drop 1).map V.int)).all (fun p => match p.1, p.2 with | .int i, .int j => decide (i < j) | _, _ => false)) := rfl
    rw [e, Bool.and_eq_true, ih, decide_eq_true_iff]
    show _ ↔ List.Pairwise (· < ·) (x :: y :: l)
    rw [List.pairwise_cons (a := x) (l := y :: l)]
    constructor
    · rintro ⟨h1, h2⟩
      refine ⟨fun z hz => ?_, h2⟩
      rcases List.mem_cons.mp hz with rfl | hz
      · exact h1
      · have := (List.pairwise_cons.mp h2).1 z hz
        omega
    · rintro ⟨h1, h2⟩
      exact ⟨h1 y List.mem_cons_self, h2⟩
section
variable {P : Program} {w : World} {K : PySem.W.Frag} {mg : Str → Option Value} {base : Heap}
theorem scIa : FnScope ["rooms"] ["rooms"] (defScope sIa) := ⟨rfl, rfl, rfl, by decide +kernel, rfl, by decide +kernel, by decide +kernel⟩
theorem gsIa : GenZ (genScope gIa) "a" "b" := ⟨by decide +kernel, by decide +kernel, by decide +kernel, by decide +kernel, by decide +kernel, by decide +kernel, by decide, by decide +kernel⟩
def spIa0 (t : Addr) : Sp := fun vs H Q _ => ∃ (a : Addr) (xs : List Int), vs = [.ref a] ∧ H a = some (.tup (xs.map V.int)) ∧ GxR.TabG H t ∧ ∀ (c : Bool) (H2 : Hp), (c = true ↔ Up xs) → (GxR.Tabbed t H H2 ∨ ∃ o u, H o = none ∧ GxR.Tabbed t (upd H o u) H2) → Q (.bl c) H2
theorem ok_ia0 {f c t : Addr} {fd : FuncData} (F : FunC K "is_ascending" "is_ascending" sIa f fd c) (am : mg "all" = none) (zm : mg "zip" = none) (TB : GxR.TabB base mg c t) : FnOk P w K mg base CX0 2 f fd ["rooms"] (spIa0 t) := by
  refine F.ok scIa (fun vs H Q E h => ?_) (fun A0 outer s H vs Q E hr h => ?_)
  · obtain ⟨a, xs, rfl, _⟩ := h
    rfl
  · obtain ⟨a, xs, rfl, ha, tb, ret⟩ := h
    refine ⟨_, pss_one (ps_ret (pe_allZ (c := c) (P := t) (pb := fun u v => match u, v with | .int i, .int j => decide (i < j) | _, _ => false) hr (by rfl) am (by rfl) (by rfl) zm TB rfl gsIa (pa_cons (pv 0) (pa_cons (pe_slice (show SlR _ (rSlA K) from sl_tupA) (pv 0) (po_some pe_int) po_none) pa_nil)) (fun _ => by rfl))), ?_⟩
    have hlt : ∀ p ∈ (xs.map V.int).zip ((xs.drop 1).map V.int), ∃ i j : Int, p = (V.int i, V.int j) := fun p hp => by
      obtain ⟨h1, h2⟩ := List.of_mem_zip (a := p.1) (b := p.2) hp
      obtain ⟨i, _, e1⟩ := List.mem_map.mp h1
      obtain ⟨j, _, e2⟩ := List.mem_map.mp h2
      exact ⟨i, j, Prod.ext e1.symm e2.symm⟩
    have e1 : cutV (xs.map V.int) (some 1) none = (xs.drop 1).map V.int := by
      rw [show (some (1 : Int)) = some (((1 : Nat) : Int)) from rfl, cut_drop, List.map_drop]
    refine ⟨.ref a, rfl, .ref a, rfl, _, rfl, a, xs.map V.int, rfl, SqT.of ha, fun wh => ?_, fun wh p np => ?_⟩
    · have e0 : xs = [] := by
        cases xs with
        | nil => rfl
        | cons x l =>
          have h1 := wh.1
          rw [show (some (1 : Int)) = some (((1 : Nat) : Int)) from rfl, show HT.sIx ((x :: l).map V.int).length 0 (some ((1 : Nat) : Int)) = min 1 ((x :: l).map V.int).length from HT.sIx_nat _ _ _, List.length_map, List.length_cons] at h1
          omega
      subst e0
      exact ⟨a, a, [], [], rfl, .inr ⟨SqT.of ha, SqT.of ha⟩, elt_lt gsIa (fun p hp => by cases hp), tb, fun H2 h2 => ret true H2 ⟨fun _ => List.Pairwise.nil, fun _ => rfl⟩ (.inl h2)⟩
    · have s1 := same_upd (o := HO.tup (cutV (xs.map V.int) (some 1) none)) np
      have htb : GxR.TabG (upd H p (HO.tup (cutV (xs.map V.int) (some 1) none))) t := by
        obtain ⟨ps, h1, h2⟩ := tb
        exact ⟨ps, s1 _ _ h1, h2⟩
      refine ⟨a, p, xs.map V.int, (xs.drop 1).map V.int, rfl, .inr ⟨SqT.of (s1 _ _ ha), SqT.of (by rw [upd_same, e1])⟩, elt_lt gsIa hlt, htb, fun H2 h2 => ret _ H2 (asc_zip xs) (.inr ⟨p, _, np, h2⟩)⟩
/-- is_ascending, its table told as a table -/
def spIa (t : Addr) : Sp := fun vs H Q _ => ∃ (a : Addr) (xs : List Int), vs = [.ref a] ∧ H a = some (.tup (xs.map V.int)) ∧ H t = some (TbO t) ∧ ∀ (c : Bool) (H' : Hp), (c = true ↔ Up xs) → Same H H' → Q (.bl c) H'
theorem ok_ia {f co tb_is_ascending : Addr} {fd : FuncData} (F : FunC K "is_ascending" "is_ascending" sIa f fd co) (am : mg "all" = none) (zm : mg "zip" = none) (TB : GxR.TabB base mg co tb_is_ascending) : FnOk P w K mg base CX0 2 f fd ["rooms"] (spIa tb_is_ascending) := by
  refine (FnOk.tb tb_is_ascending (ok_ia0 (P := P) (w := w) F am zm TB)).imp fun vs H Q E h => ?_
  obtain ⟨a, xs, rfl, ha, ht, q⟩ := h
  refine ⟨ht, fun tb htb => ⟨a, xs, rfl, ?_, ⟨tb, upd_same, htb⟩, fun c H2 hc h2 => ?_⟩⟩
  · rcases seq_upd (o := HO.tbl tb) (.inr ha) ht with h | h
    · have ne : a ≠ tb_is_ascending := fun z => by
        unfold TbO at ht
        rw [z, ht] at ha
        cases ha
      rw [upd_ne ne]
      exact ha
    · exact h
  · rcases h2 with h2 | ⟨o, u, ho, h2⟩
    · obtain ⟨ps, h3, h4⟩ := h2.1
      refine ⟨ps, h3, h4, ?_⟩
      rw [tabbed_back ht h2]
      exact q c H hc (Same.refl _)
    · obtain ⟨ps, h3, h4⟩ := h2.1
      refine ⟨ps, h3, h4, q c _ hc fun b v hb => ?_⟩
      by_cases e : b = tb_is_ascending
      · rw [e, ht] at hb
        rw [e, upd_same]
        exact hb
      · rw [upd_ne e, h2.2 b e, upd_ne (fun z => ?_), upd_ne e]
        · exact hb
        · rw [← z, upd_ne e, hb] at ho
          cases ho
end

/-! ### is_closed -/
abbrev sIcl : Stmt := topS 19
/-- rooms that hold the start and are closed inside the hall -/
def ClosedIn (D : List Pr) (s : Int) (R I : List Int) : Prop := s ∈ R ∧ Up R ∧ (∀ x ∈ R, x ∈ I) ∧ ∀ a ∈ R, ∀ b, Adj D a b → b ∈ R ∨ b ∉ I
theorem up_le : ∀ {l : List Int} {n : Nat}, Up l → (∀ x ∈ l, 0 ≤ x ∧ x < n) → l.length ≤ n := fun {l n} u h => by
  have := pig (rg n) l (List.Pairwise.imp (fun h => by omega) u) fun x hx => mem_rg (h x hx).1 (h x hx).2
  rw [rg_len] at this
  exact this
section
variable {P : Program} {w : World} {K : PySem.W.Frag} {mg : Str → Option Value} {base : Heap}
theorem scIcl : FnScope ["steps", "start", "rooms", "inside", "room", "other"] ["steps", "start", "rooms", "inside"] (defScope sIcl) := ⟨rfl, rfl, rfl, by decide +kernel, rfl, by decide +kernel, by decide +kernel⟩
def spIcl (C g : Addr) (tb_lies_in tb_is_ascending : Addr) : Sp := fun vs H Q _ => ∃ (q o n p : Addr) (s : Int) (R I : List Int) (r : Nat) (D : List Pr) (own : List Addr), vs = [.ref q, .int s, .ref o, .ref n] ∧ H q = some (.met g p) ∧ HouseAt C H p r D own ∧ H o = some (.tup (R.map V.int)) ∧ H n = some (.lst (I.map V.int)) ∧ (∀ x ∈ I, 0 ≤ x ∧ x < r) ∧
  H tb_lies_in = some (TbO tb_lies_in) ∧ H tb_is_ascending = some (TbO tb_is_ascending) ∧ ∀ (c : Bool) (H' : Hp), (c = true ↔ ClosedIn D s R I) → Same H H' → Q (.bl c) H'
theorem ok_icl {f C g f1 f2 tb_lies_in tb_is_ascending : Addr} {fd fdn fd1 fd2 : FuncData} (F : Fun K "is_closed" "is_closed" sIcl f fd) (T : Bi mg) (U : Hs K mg C) (am : mg "all" = none) (bm : BMeth K C "neighbours" g) (Gn : FnOk P w K mg base CX0 1 g fdn ["self", "room"] (spHnear C)) (bn : Binds K fdn ["self", "room"] [])
    (d_lies_in : Df P w K mg base "lies_in" ["rooms", "others"] 2 (spLi tb_lies_in) f1 fd1) (d_is_ascending : Df P w K mg base "is_ascending" ["rooms"] 2 (spIa tb_is_ascending) f2 fd2) : FnOk P w K mg base CX0 3 f fd ["steps", "start", "rooms", "inside"] (spIcl C g tb_lies_in tb_is_ascending) := by
  refine F.ok scIcl (fun vs H Q E h => ?_) (fun cdv A0 outer s0 H vs Q E hr h => ?_)
  · obtain ⟨q, o, n, p, s, R, I, r, D, own, rfl, _⟩ := h
    rfl
  · obtain ⟨q, o, n, p, s, R, I, r, D, own, rfl, hq, hh, ho, hn, hI, ht1, ht2, ret⟩ := h
    refine ⟨_, (pss_cons (ps_if (PW.pt (pw_or (pt_cmpR op_notIn_seq (pv 1) (pv 2) (by rfl)) (pw_or (pt_not (pt_val (pe_call d_is_ascending.ok (hr.mono (by decide)) (by rfl) d_is_ascending.at_ d_is_ascending.kp d_is_ascending.b .nil pass0 (pa_cons (pv 2) pa_nil)))) (pw_or1 (pt_not (pt_val (pe_call d_lies_in.ok (hr.mono (by decide)) (by rfl) d_lies_in.at_ d_lies_in.kp d_lies_in.b .nil pass0 (pa_cons (pv 2) (pa_cons (pv 3) pa_nil)))))))))
      (pss_one (ps_ret pe_bl))
      pss_nil)
      (pss_one (ps_ret (pe_callB (cr_all rfl) (by rfl) am (by decide +kernel) (pa_cons (pe_lc2 (own := [("room", 4), ("other", 5)]) (vs1 := [5]) (wi1 := iList K (tCallM 0 g (fun vs H Q E => spHnear C (vs ++ []) H Q E) E0 (tCons (tVar 4) tNil))) (te := tOrV (tOp (rIn K false) (tVar 5) (tVar 2)) (tOp (rIn K true) (tVar 5) (tVar 3))) (by rfl) scIcl.nd (pi_tup (pv 2)) (blkOk_by (N := ["steps", "start", "rooms", "inside", "room", "other"]) (sc := defScope sIcl) (by decide +kernel)) (by decide) (fun _ _ _ _ _ => pg_name (i := 4) scIcl.nd rfl (Or.inl rfl)) (fun _ _ _ _ _ => pts_nil) (fun _ _ _ _ _ => (pi_list (pe_callM (i := 0) (CX := CX0) (show FnR P w K mg base CX0 1 g (fun vs H Q E => spHnear C (vs ++ []) H Q E) from Gn.raw bn .nil) (hr.mono (by decide)) (by rfl) (.inr (.inl rfl)) bm.fi pass0 (pa_cons (pv 4) pa_nil)))) (fun _ _ _ _ _ => pg_name (i := 5) scIcl.nd rfl (Or.inl rfl)) (fun _ _ _ _ _ => pts_nil) (fun _ _ _ _ _ => (pe_or (pe_cmpR op_in_seq (pv 5) (pv 2) (by rfl)) (pe_one (pe_cmpR op_notIn_seq (pv 5) (pv 3) (by rfl)))))) pa_nil))))), ?_⟩
    walk_at "rd"
    refine ⟨o, R.map V.int, rfl, .inr (SqT.of ho), rfl, flI _, ?_⟩
    rw [inI, if_pos rfl]
    refine ⟨_, rfl, ?_⟩
    by_cases c1 : s ∈ R
    rotate_left
    · rw [decide_eq_false c1, if_pos (show (!false) = true from rfl), if_pos trivial]
      exact ret false H ⟨(fun z => by cases z), fun z => absurd z.1 c1⟩ (Same.refl _)
    rw [decide_eq_true c1, if_neg (show ¬ (!true) = true by decide)]
    refine ⟨o, R, rfl, ho, ht2, fun b2 H1 hb2 s1 => ⟨b2, rfl, ?_⟩⟩
    cases b2 with
    | false =>
      rw [if_pos (show (!false) = true from rfl), if_pos trivial]
      exact ret false H1 ⟨(fun z => by cases z), fun z => by cases hb2.mpr z.2.1⟩ s1
    | true =>
      have up := hb2.mp rfl
      rw [if_neg (show ¬ (!true) = true by decide)]
      refine ⟨o, n, R, I, rfl, .inr (s1 _ _ ho), .inl (s1 _ _ hn), s1 _ _ ht1, _, rfl, ?_⟩
      by_cases c3 : ∀ x ∈ R, x ∈ I
      rotate_left
      · rw [show (R.all fun x => decide (x ∈ I)) = false from Bool.eq_false_iff.mpr fun z => c3 fun x hx => of_decide_eq_true (List.all_eq_true.mp z x hx), if_pos (show (!false) = true from rfl)]
        exact ret false H1 ⟨(fun z => by cases z), fun z => absurd z.2.2.1 c3⟩ s1
      rw [show (R.all fun x => decide (x ∈ I)) = true from List.all_eq_true.mpr fun x hx => decide_eq_true (c3 x hx), if_neg (show ¬ (!true) = true by decide)]
      have inR : ∀ x ∈ R, 0 ≤ x ∧ x < r := fun x hx => hI x (c3 x hx)
      have R12 : R.length ≤ 12 := by
        have := up_le up inR
        have := hh.r12
        omega
      have dok : ∀ d ∈ D, d.1 < d.2 := fun d hd => (hh.ok.ok d hd).2.1
      have nl : ∀ x : Int, (nearF x D).length ≤ 66 := fun x => by
        have h1 : (nearF x D).length ≤ D.length := List.length_filterMap_le _ _
        have h2 := hh.ok.len hh.r12
        omega
      refine ⟨_, rfl, o, rfl, ⟨_, SqT.of (s1 _ _ ho)⟩, fun c nc => ?_⟩
      have sl : ∀ l : List Int, l ≠ [] → True := fun _ _ => trivial
      obtain ⟨Pv, hPv⟩ : ∃ Pv : Nat → Hp → Prop, Pv = (fun i Hx => Same H1 Hx ∧ ∃ bs : List Bool, Hx c = some (.lst (bs.map V.bl)) ∧ bs.length ≤ i * 66 ∧ (bs.all id = true ↔ ∀ x ∈ R.take i, ∀ y ∈ nearF x D, y ∈ R ∨ y ∉ I)) := ⟨_, rfl⟩
      refine ⟨fun j m Hx => m = R.length - j ∧ j ≤ R.length ∧ Pv j Hx, ⟨_, rfl, Nat.zero_le _, by rw [hPv]; exact ⟨same_upd nc, [], upd_same, Nat.le_refl _, ⟨fun _ x hx => (by cases hx), fun _ => rfl⟩⟩⟩, ?_⟩
      rintro j mm Hx ⟨rfl, hj, pv⟩
      rw [hPv] at pv
      obtain ⟨sx, bs, hc, bl, biff⟩ := pv
      have sH := s1.trans sx
      by_cases lt : j < R.length
      · refine .inr ⟨⟨R.map V.int, .int R[j], SqT.of (sH _ _ ho), by rw [List.getElem?_map, List.getElem?_eq_getElem lt]; rfl⟩, Pv (j + 1), fun H' q => ⟨_, by omega, rfl, lt, q⟩, ?_⟩
        rintro v H' ⟨rfl, ev⟩
        have e2 := ev _ (SqT.of (sH _ _ ho))
        rw [List.getElem?_map, List.getElem?_eq_getElem lt] at e2
        have e3 := Option.some.inj e2
        subst e3
        have mx : R[j] ∈ R := List.getElem_mem lt
        have nxt : ∀ Hy bs2, Same H1 Hy → Hy c = some (.lst ((bs ++ bs2).map V.bl)) → bs2.length ≤ 66 → (bs2.all id = true ↔ ∀ y ∈ nearF R[j] D, y ∈ R ∨ y ∉ I) → Pv (j + 1) Hy := fun Hy bs2 h1 h2 h3 h4 => by
          rw [hPv]
          refine ⟨h1, bs ++ bs2, h2, by rw [List.length_append]; omega, ?_⟩
          rw [List.all_append, Bool.and_eq_true, biff, h4, List.take_add_one, List.getElem?_eq_getElem lt]
          constructor
          · rintro ⟨k1, k2⟩ x hx
            rcases List.mem_append.mp hx with hx | hx
            · exact k1 x hx
            · rw [List.mem_singleton.mp hx]
              exact k2
          · intro k
            exact ⟨fun x hx => k x (List.mem_append_left _ hx), k _ (List.mem_append_right _ (List.mem_singleton.mpr rfl))⟩
        have jl : bs.length ≤ 12 * 66 := Nat.le_trans bl (Nat.mul_le_mul (by omega) (Nat.le_refl _))
        obtain ⟨x0, x1⟩ := inR _ mx
        generalize R[j] = x at mx nxt x0 x1 ⊢
        clear biff ev e2
        obtain ⟨xn, rfl⟩ : ∃ xn : Nat, x = xn := ⟨x.toNat, by omega⟩
        refine ⟨rfl, iteT (B := True) ?_⟩
        have rd : ∀ (z : Int) (Hy : Hp), Same H1 Hy → SqT K Hy o (R.map V.int) ∧ SqL K Hy n (I.map V.int) := fun z Hy sy => ⟨SqT.of (sy _ _ (s1 _ _ ho)), SqL.of (sy _ _ (s1 _ _ hn))⟩
        refine ⟨q, p, rfl, .int (xn : Nat), rfl, sH _ _ hq, p, r, D, own, xn, rfl, hh.same sH, by omega, fun l nl_ => ⟨l, rfl, ⟨_, SqL.of upd_same⟩, ?_⟩⟩
        have sl1 := sx.trans (same_upd (o := HO.lst ((nearF (xn : Nat) D).map V.int)) nl_)
        have hl := upd_same (H := H') (a := l) (o := HO.lst ((nearF (xn : Nat) D).map V.int))
        have ncl : l ≠ c := (ne_of_none hc nl_).symm
        have hc2 : upd H' l (HO.lst ((nearF (xn : Nat) D).map V.int)) c = some (.lst (bs.map V.bl)) := by rw [upd_ne ncl.symm]; exact hc
        generalize upd H' l (HO.lst ((nearF (xn : Nat) D).map V.int)) = H2 at sl1 hl hc2 ⊢
        have nn := nl (xn : Nat)
        generalize nearF (xn : Nat) D = ns at nn nxt hl
        obtain ⟨Pw, hPw⟩ : ∃ Pw : Nat → Hp → Prop, Pw = (fun k Hy => Same H1 Hy ∧ Hy l = some (.lst (ns.map V.int)) ∧ ∃ b2 : List Bool, Hy c = some (.lst ((bs ++ b2).map V.bl)) ∧ b2.length = k ∧ (b2.all id = true ↔ ∀ y ∈ ns.take k, y ∈ R ∨ y ∉ I)) := ⟨_, rfl⟩
        refine in_list (K := K) (a := l) (xs := ns.map V.int) Pw (by rw [hPw]; exact ⟨sl1, hl, [], by rw [List.append_nil]; exact hc2, rfl, ⟨fun _ y hy => (by cases hy), fun _ => rfl⟩⟩) (fun k Hy _ pw => by rw [hPw] at pw; exact SqL.of pw.2.1) (fun k v Hy gv pw => ?_) (fun Hy pw => ?_)
        · have kl := (List.getElem?_eq_some_iff.mp gv).1
          rw [List.length_map] at kl
          rw [hPw] at pw
          obtain ⟨sy, hly, b2, hcy, b2l, b2i⟩ := pw
          rw [List.getElem?_map, List.getElem?_eq_getElem kl] at gv
          have gv := Option.some.inj gv
          subst gv
          have step : ∀ ok : Bool, (ok = true ↔ (ns[k] ∈ R ∨ ns[k] ∉ I)) → Hy c = some (.lst ((bs ++ b2).map V.bl)) ∧ ((bs ++ b2).map V.bl).length < sizeLine ∧ Pw (k + 1) (upd Hy c (.lst ((bs ++ b2).map V.bl ++ [V.bl ok]))) := fun ok hok => by
            refine ⟨hcy, len_big (by rw [List.length_map, List.length_append]; omega), ?_⟩
            rw [hPw]
            refine ⟨same_ch sy nc, by rw [upd_ne ncl]; exact hly, b2 ++ [ok], by rw [upd_same, ← List.append_assoc, List.map_append (l₂ := [ok])]; rfl, by rw [List.length_append, b2l]; rfl, ?_⟩
            rw [List.all_append, Bool.and_eq_true, b2i, List.take_add_one, List.getElem?_eq_getElem kl]
            constructor
            · rintro ⟨k1, k2⟩ y hy
              rcases List.mem_append.mp hy with hy | hy
              · exact k1 y hy
              · rw [List.mem_singleton.mp hy]
                exact hok.mp (by simpa using k2)
            · intro k3
              exact ⟨fun y hy => k3 y (List.mem_append_left _ hy), by simpa using hok.mpr (k3 _ (List.mem_append_right _ (List.mem_singleton.mpr rfl)))⟩
          generalize ns[k] = y at step ⊢
          refine ⟨rfl, iteT (B := True) ?_⟩
          simp only [wipe]
          walk_at "rd"
          obtain ⟨q1, q2⟩ := rd y Hy sy
          refine ⟨o, R.map V.int, rfl, .inr q1, rfl, flI _, ?_⟩
          rw [inI, if_neg (by decide)]
          refine ⟨_, rfl, ?_⟩
          by_cases cy : y ∈ R
          · rw [decide_eq_true cy, if_pos rfl]
            exact ⟨_, step true ⟨fun _ => .inl cy, fun _ => rfl⟩⟩
          · rw [decide_eq_false cy, if_neg (by decide)]
            refine ⟨n, I.map V.int, rfl, .inl q2, rfl, flI _, ?_⟩
            rw [inI, if_pos rfl]
            refine ⟨_, step _ ?_⟩
            by_cases ci : y ∈ I
            · rw [decide_eq_true ci]
              exact ⟨(fun z => by cases z), fun z => z.elim (fun z => absurd z cy) fun z => absurd ci z⟩
            · rw [decide_eq_false ci]
              exact ⟨fun _ => .inr ci, fun _ => rfl⟩
        · rw [hPw] at pw
          obtain ⟨sy, hly, b2, hcy, b2l, b2i⟩ := pw
          rw [List.length_map] at b2l b2i
          rw [List.take_length] at b2i
          exact nxt Hy b2 sy hcy (by omega) b2i
      · have e : j = R.length := by omega
        subst e
        rw [List.take_length] at biff
        refine .inl ⟨⟨_, SqT.of (sH _ _ ho), by rw [List.length_map]; exact Nat.le_refl _⟩, ?_⟩
        refine ⟨c, bs, rfl, SqL.of hc, ret _ Hx ?_ sH⟩
        rw [biff]
        constructor
        · intro k
          exact ⟨c1, up, c3, fun a ha b ab => k a ha b ((mem_nearF dok).mpr ab)⟩
        · intro k a ha b hb
          exact k.2.2.2 a ha b ((mem_nearF dok).mp hb)
end

/-! ### lists of pairs as data -/
def pdP (d : Pr) : PyData := .tuple [.int d.1, .int d.2]
theorem pdP_eqv (d e : Pr) : PyData.eqv (pdP d) (pdP e) = decide (d = e) := by
  show (d.1 == e.1 && (d.2 == e.2 && true)) = decide (d = e)
  obtain ⟨a, b⟩ := d
  obtain ⟨c, f⟩ := e
  by_cases h1 : a = c
  · by_cases h2 : b = f
    · subst h1; subst h2; simp
    · have : ¬ ((a, b) : Pr) = (c, f) := fun z => h2 (Prod.mk.inj z).2
      simp [h1, h2]
  · have : ¬ ((a, b) : Pr) = (c, f) := fun z => h1 (Prod.mk.inj z).1
    simp [h1]
theorem any_eqv (d : Pr) (D : List Pr) : ((D.map pdP).any fun z => PyData.eqv z (pdP d)) = decide (d ∈ D) := by
  induction D with
  | nil => rfl
  | cons e D ih =>
    rw [List.map_cons, List.any_cons, ih, pdP_eqv]
    by_cases h : e = d
    · subst h
      simp
    · have h' : ¬ d = e := fun z => h z.symm
      simp [h, h']
theorem dep_all (D : List Pr) : PyData.depthAll (D.map pdP) ≤ 1 := by
  induction D with
  | nil => exact Nat.zero_le _
  | cons e D ih =>
    show max (PyData.depth (pdP e)) (PyData.depthAll (D.map pdP)) ≤ 1
    exact Nat.max_le.mpr ⟨Nat.le_refl _, ih⟩
theorem lay_all (D : List Pr) : PyData.canLayAll0 (D.map pdP) = true := by
  induction D with
  | nil => rfl
  | cons e D ih =>
    show (PyData.canLay0 (pdP e) && PyData.canLayAll0 (D.map pdP)) = true
    rw [ih]
    rfl
theorem shaped_list (D : List Pr) : SeqAt.shaped (.list (D.map pdP)) = true := by
  have h := dep_all D
  show (PyData.canLayAll0 (D.map pdP) && decide (PyData.depthAll (D.map pdP) + 1 ≤ 64)) = true
  rw [lay_all, Bool.true_and, decide_eq_true_eq]
  omega
theorem dp_pair {K : PySem.W.Frag} {H : Hp} {v : V} {d : Pr} (h : IsP H v d) : Dp K H v (pdP d) := by
  obtain ⟨t, rfl, e⟩ := h
  exact .tup (SqT.of e) (.cons (.int _) (.cons (.int _) .nil))
theorem dp_all {K : PySem.W.Frag} {H : Hp} : ∀ {vs : List V} {D : List Pr}, PL H vs D → DpAll K H vs (D.map pdP)
  | _, _, Paired.nil => .nil
  | _, _, Paired.cons r t => .cons (dp_pair r) (dp_all t)
theorem eqvAll_pairs : ∀ D E : List Pr, PyData.eqvAll (D.map pdP) (E.map pdP) = decide (D = E)
  | [], [] => rfl
  | [], e :: E => by simp [PyData.eqvAll]
  | d :: D, [] => by simp [PyData.eqvAll]
  | d :: D, e :: E => by
    show (PyData.eqv (pdP d) (pdP e) && PyData.eqvAll (D.map pdP) (E.map pdP)) = _
    rw [pdP_eqv, eqvAll_pairs D E]
    by_cases h1 : d = e
    · by_cases h2 : D = E
      · subst h1; subst h2; simp
      · simp [h1, h2]
    · simp [h1]
theorem eqv_pairs (D E : List Pr) : PyData.eqv (.list (D.map pdP)) (.list (E.map pdP)) = decide (D = E) := eqvAll_pairs D E

/-! ### check_certificate -/
abbrev sCk : Stmt := topS 18
/-- comprehension over a list, any target -/
theorem gc_listG {β : Type} {K : PySem.W.Frag} {a : Addr} {xs : List V} {vs : List Nat} {g : TG} {tt : TT} {te : TE} {σ : L2.St} {H1 : Hp} {Q : VK} (rel : Addr → Hp → V → β → Prop) (up : ∀ D H H' v b, rel D H v b → (∀ t o, t ≠ D → H t = some o → H' t = some o) → rel D H' v b) (sel : Nat → Option β) (ha : H1 a = some (.lst xs)) (len : xs.length ≤ 100000)
    (step : ∀ (D : Addr) (j : Nat) (x : V) (Hx : Hp) (A : VK) (B : Hp → Prop), xs[j]? = some x → Same H1 Hx → (∃ o, Hx D = some o) → (∀ v b Hy, sel j = some b → Same Hx Hy → rel D Hy v b → A v Hy) → (∀ Hy, sel j = none → Same Hx Hy → B Hy) →
      g x (wipe σ vs) Hx fun σ2 H2 => wipe σ2 vs = wipe σ vs ∧ tt σ2 H2 fun c H3 => if c = true then te σ2 H3 A else B H3)
    (q : ∀ o ys H', Same H1 H' → H1 o = none → H' o = some (.lst ys) → Paired (rel o H') ys ((List.range xs.length).filterMap sel) → Q (.ref o) H') :
    tLc (fun _ H R => R (Itl K a) H) g tt te vs σ H1 Q := by
  intro D nD
  obtain ⟨Pv, hPv⟩ : ∃ Pv : Nat → Hp → Prop, Pv = (fun j Hx => ∃ ys, Same H1 Hx ∧ Hx D = some (.lst ys) ∧ Paired (rel D Hx) ys ((List.range j).filterMap sel)) := ⟨_, rfl⟩
  refine lc_list (K := K) (a := a) (xs := xs) Pv (by rw [hPv]; exact ⟨[], same_upd nD, upd_same, Paired.nil⟩) (fun j H' _ pv => by rw [hPv] at pv; obtain ⟨_, sm, _⟩ := pv; exact SqL.of (sm _ _ ha)) (fun j x H' gx pv => ?_) (fun H' pv => ?_)
  · rw [hPv] at pv
    obtain ⟨ys, sm, hD, pr⟩ := pv
    have jl := (List.getElem?_eq_some_iff.mp gx).1
    have yl : ys.length ≤ j := by rw [pr.length]; exact fm_len sel j
    refine step D j x H' _ _ gx sm ⟨_, hD⟩ (fun v b Hy es sy r => ?_) (fun Hy es sy => ?_)
    · have hD2 := sy _ _ hD
      refine ⟨ys, hD2, len_big (by omega), ?_⟩
      rw [hPv]
      refine ⟨ys ++ [v], same_ch (sm.trans sy) nD, upd_same, ?_⟩
      rw [fm_step, es]
      have keep : ∀ t o, t ≠ D → Hy t = some o → upd Hy D (HO.lst (ys ++ [v])) t = some o := fun t o ne e => by rw [upd_ne ne]; exact e
      exact Paired.snoc (Paired.mapP pr fun v b h => up _ _ _ _ _ (up _ _ _ _ _ h fun t o _ e => sy t o e) keep) (up _ _ _ _ _ r keep)
    · rw [hPv]
      refine ⟨ys, sm.trans sy, sy _ _ hD, ?_⟩
      rw [fm_step, es, List.append_nil]
      exact Paired.mapP pr fun v b h => up _ _ _ _ _ h fun t o _ e => sy t o e
  · rw [hPv] at pv
    obtain ⟨ys, sm, hD, pr⟩ := pv
    exact q D ys H' sm nD hD pr
section
variable {P : Program} {w : World} {K : PySem.W.Frag} {mg : Str → Option Value} {base : Heap}
theorem scCk : FnScope ["house", "first", "second", "certificate", "x", "y", "rooms", "inside", "_"] ["house", "first", "second", "certificate"] (defScope sCk) := ⟨rfl, rfl, rfl, by decide +kernel, rfl, by decide +kernel, by decide +kernel⟩
/-- an entry of a certificate -/
def IsEnK (H : Hp) (v : V) (e : Pr × List Int) : Prop := ∃ t u, v = .ref t ∧ H t = some (.tup [.int e.1.1, .int e.1.2, .ref u]) ∧ H u = some (.tup (e.2.map V.int))
theorem IsEnK.kt {H H' : Hp} {v : V} {e : Pr × List Int} (h : IsEnK H v e) (k : KT H H') : IsEnK H' v e := by
  obtain ⟨t, u, e1, h1, h2⟩ := h
  exact ⟨t, u, e1, k _ _ h1, k _ _ h2⟩
/-- what a certificate must be -/
def CertOk (r : Nat) (D : List Pr) (A B : List Cl) (rs : List Int) (es : List (Pr × List Int)) : Prop := SameW A B ∧ es.map (·.1) = crossF A B rs ∧ ∀ e ∈ es, e.1.2 ∉ e.2 ∧ ClosedIn D e.1.1 e.2 (hallF r A B e.1.1 e.1.2)
def spCk (C : Addr) (tb_lies_in tb_is_ascending : Addr) : Sp := fun vs H Q _ => ∃ (p a b c : Addr) (us ws es' : List V) (A B : List Cl) (r : Nat) (D : List Pr) (own : List Addr) (es : List (Pr × List Int)) (rs : List Int), vs = [.ref p, .ref a, .ref b, .ref c] ∧ HouseAt C H p r D own ∧ H a = some (.lst us) ∧ LG H us A ∧ A.length ≤ 1000 ∧ InR r A ∧ H b = some (.lst ws) ∧ LG H ws B ∧ B.length ≤ 1000 ∧
  H c = some (.lst es') ∧ Paired (IsEnK H) es' es ∧ es.length ≤ 1000 ∧ rs.Pairwise (· < ·) ∧ (∀ x, x ∈ rs ↔ x ∈ A.map (·.1)) ∧ H tb_lies_in = some (TbO tb_lies_in) ∧ H tb_is_ascending = some (TbO tb_is_ascending) ∧ ∀ (k : Bool) (H' : Hp), (k = true ↔ CertOk r D A B rs es) → Same H H' → Q (.bl k) H'
theorem ok_ck {f C g fS fX fH fI tb_lies_in tb_is_ascending : Addr} {fd fdS fdX fdH fdI : FuncData} (F : Fun K "check_certificate" "check_certificate" sCk f fd) (T : Bi mg) (U : Hs K mg C) (bm : BMeth K C "neighbours" g) (d_same_last_words : Df P w K mg base "same_last_words" ["first", "second"] 2 spSlw fS fdS) (d_crossed_pairs : Df P w K mg base "crossed_pairs" ["first", "second"] 2 spCrp fX fdX) (d_hall : Df P w K mg base "hall" ["house", "first", "second", "pair"] 2 (spHall C) fH fdH)
    (d_is_closed : Df P w K mg base "is_closed" ["steps", "start", "rooms", "inside"] 3 (spIcl C g tb_lies_in tb_is_ascending) fI fdI) : FnOk P w K mg base CX0 4 f fd ["house", "first", "second", "certificate"] (spCk C tb_lies_in tb_is_ascending) := by
  refine F.ok scCk (fun vs H Q E h => ?_) (fun cdv A0 outer s H vs Q E hr h => ?_)
  · obtain ⟨p, a, b, c, us, ws, es', A, B, r, D, own, es, rs, rfl, _⟩ := h
    rfl
  · obtain ⟨p, a, b, c, us, ws, es', A, B, r, D, own, es, rs, rfl, hh, ha, la, al, iA, hb, lb, bl, hc, pe, el, rsU, rsA, ht1, ht2, ret⟩ := h
    refine ⟨_, (pss_cons (ps_if (pt_not (pt_val (pe_call d_same_last_words.ok (hr.mono (by decide)) (by rfl) d_same_last_words.at_ d_same_last_words.kp d_same_last_words.b .nil pass0 (pa_cons (pv 1) (pa_cons (pv 2) pa_nil)))))
      (pss_one (ps_ret pe_bl))
      pss_nil)
      (pss_cons (ps_if (pt_cmpR (op_neD hr.units) (pe_lc (own := [("x", 4), ("y", 5), ("_", 8)]) (te := (tTup (tCons (tVar 4) (tCons (tVar 5) tNil)))) (g := gTup K 3 (gCons (gName 4) (gCons (gName 5) (gCons (gName 8) gNil)))) (by rfl) scCk.nd (pi_list (pv 3)) (blkOk_by (N := ["house", "first", "second", "certificate", "x", "y", "rooms", "inside", "_"]) (sc := defScope sCk) (by decide +kernel)) (fun _ _ _ _ _ => pg_tup rfl (pgs_cons (pg_name (i := 4) scCk.nd rfl (Or.inl rfl)) (pgs_cons (pg_name (i := 5) scCk.nd rfl (Or.inl rfl)) (pgs_cons (pg_name (i := 8) scCk.nd rfl (Or.inl rfl)) pgs_nil)))) (fun _ _ _ _ _ => pts_nil) (fun _ _ _ _ _ => (pe_tup (pa_cons (pv 4) (pa_cons (pv 5) pa_nil))))) (pe_call d_crossed_pairs.ok (hr.mono (by decide)) (by rfl) d_crossed_pairs.at_ d_crossed_pairs.kp d_crossed_pairs.b .nil pass0 (pa_cons (pv 1) (pa_cons (pv 2) pa_nil))) (nomark _))
      (pss_one (ps_ret pe_bl))
      pss_nil)
      (pss_cons (ps_for PassesOwn.never rfl (pi_list (pv 3)) (pg_tup rfl (pgs_cons (pg_name (i := 4) scCk.nd rfl (Or.inl rfl)) (pgs_cons (pg_name (i := 5) scCk.nd rfl (Or.inl rfl)) (pgs_cons (pg_name (i := 6) scCk.nd rfl (Or.inl rfl)) pgs_nil))))
      (pss_cons (ps_set (i := 7) scCk.nd rfl (Or.inl rfl) (pe_call d_hall.ok (hr.mono (by decide)) (by rfl) d_hall.at_ d_hall.kp d_hall.b .nil pass0 (pa_cons (pv 0) (pa_cons (pv 1) (pa_cons (pv 2) (pa_cons (pe_tup (pa_cons (pv 4) (pa_cons (pv 5) pa_nil))) pa_nil))))))
        (pss_one (ps_if (PW.pt (pw_or (pt_cmpR op_in_seq (pv 5) (pv 6) (by rfl)) (pw_or1 (pt_not (pt_val (pe_call d_is_closed.ok (hr.mono (by decide)) (by rfl) d_is_closed.at_ d_is_closed.kp d_is_closed.b .nil pass0 (pa_cons (pe_bnd (pv 0) U.cl bm) (pa_cons (pv 4) (pa_cons (pv 6) (pa_cons (pv 7) pa_nil))))))))))
        (pss_one (ps_ret pe_bl))
        pss_nil))))
      (pss_one (ps_ret pe_bl))))), ?_⟩
    walk_at "rd"
    refine ⟨a, b, us, ws, A, B, rfl, ha, la, al, hb, lb, bl, fun c1 H1 hc1 s1 => ⟨c1, rfl, ?_⟩⟩
    cases c1 with
    | false =>
      rw [if_pos (show (!false) = true from rfl)]
      exact ret false H1 ⟨(fun z => by cases z), fun z => by cases hc1.mpr z.1⟩ s1
    | true =>
      have sw := hc1.mp rfl
      rw [if_neg (show ¬ (!true) = true by decide)]
      have es'l := pe.length
      refine lcW ?_
      walk_at "rd"
      refine ⟨⟨_, SqL.of (s1 _ _ hc)⟩, gc_listG (fun D H v (d : Pr) => ∃ t, v = V.ref t ∧ t ≠ D ∧ H t = some (.tup [.int d.1, .int d.2])) (fun D H H' v b h k => by obtain ⟨t, e, ne, h⟩ := h; exact ⟨t, e, ne, k _ _ ne h⟩) (fun j => es[j]?.bind fun e => some e.1) (s1 _ _ hc) (by omega) (fun Dx j x Hy A' B' gx sy hD hA hB => ?_) fun o ys H2 s2 no ho pr2 => ?_⟩
      · obtain ⟨e, ge, te, ue, rfl, hte, hue⟩ := pget pe gx
        rw [ge] at hA
        have hy := sy _ _ (s1 _ _ hte)
        simp only [wipe]
        walk_at "rd"
        refine ⟨_, SqT.of hy, rfl, ?_⟩
        walk_at "rd"
        rw [if_pos trivial]
        refine ⟨by decide, fun t nt => ?_⟩
        refine hA _ e.1 _ rfl (same_upd nt) ⟨t, rfl, fun z => ?_, upd_same⟩
        obtain ⟨od, hod⟩ := hD
        rw [← z, nt] at hod
        cases hod
      · rw [es'l, fm_range (L := es) (fun e => some e.1), List.filterMap_eq_map'] at pr2
        have s12 := s1.trans s2
        have pl2 : PL H2 ys (es.map (·.1)) := Paired.mapP pr2 fun v d h => by obtain ⟨t, e, _, h⟩ := h; exact ⟨t, e, h⟩
        have pA : ∀ c ∈ A, (placeF B c.1).isSome := fun c hc => place_in ((sw.mem c.1).mp (List.mem_map.mpr ⟨c, hc, rfl⟩))
        refine ⟨a, b, us, ws, A, B, r, rfl, s12 _ _ ha, la.kt (KT.same s12), al, s12 _ _ hb, lb.kt (KT.same s12), bl, iA, hh.r12, pA, fun rs2 zs q2 H3 up2 mem2 s3 nq2 hq2 pz => ?_⟩
        rw [up_uniq up2 rsU fun x => (mem2 x).trans (rsA x).symm] at pz
        have s13 := s12.trans s3
        refine ⟨.list ((es.map (·.1)).map pdP), .list ((crossF A B rs).map pdP), .lst (SqL.of (s3 _ _ ho)) (dp_all (pl2.kt (KT.same s3))), .lst (SqL.of hq2) (dp_all pz), shaped_list _, shaped_list _, _, rfl, ?_⟩
        rw [eqv_pairs]
        by_cases ec : es.map (·.1) = crossF A B rs
        rotate_left
        · rw [decide_eq_false ec, if_pos (show (!false) = true from rfl)]
          exact ret false H3 ⟨(fun z => by cases z), fun z => absurd z.2.1 ec⟩ s13
        rw [decide_eq_true ec, if_neg (show ¬ (!true) = true by decide)]
        refine for_iterW ?_
        walk_at "rd"
        obtain ⟨Pv, hPv⟩ : ∃ Pv : Nat → L2.St → Hp → Prop, Pv = (fun i σ Hx => ∃ (v4 v5 v6 v7 : Option V), σ = [some (.ref p), some (.ref a), some (.ref b), some (.ref c), v4, v5, v6, v7, none] ∧ Same H3 Hx ∧ ∀ e ∈ es.take i, e.1.2 ∉ e.2 ∧ ClosedIn D e.1.1 e.2 (hallF r A B e.1.1 e.1.2)) := ⟨_, rfl⟩
        refine ⟨⟨_, SqL.of (s13 _ _ hc)⟩, for_list (K := K) (a := c) (xs := es') Pv (by rw [hPv]; exact ⟨none, none, none, none, rfl, Same.refl _, fun e he => by cases he⟩) (fun i σ H' _ pv => by rw [hPv] at pv; obtain ⟨_, _, _, _, _, sx, _⟩ := pv; exact SqL.of (sx _ _ (s13 _ _ hc))) (fun i v σ Hx gv pv => ?_) (fun σ Hx pv => ?_)⟩
        · rw [hPv] at pv
          obtain ⟨v4, v5, v6, v7, rfl, sx, hd⟩ := pv
          obtain ⟨e, ge, te, ue, rfl, hte, hue⟩ := pget pe gv
          have s := s13.trans sx
          walk_at "rd"
          refine ⟨_, SqT.of (s _ _ hte), rfl, ?_⟩
          walk_at "rd"
          have em : e.1 ∈ crossF A B rs := by
            rw [← ec]
            exact List.mem_map.mpr ⟨e, List.mem_of_getElem? ge, rfl⟩
          obtain ⟨m1, m2, _⟩ := mem_crossF.mp em
          have xA := (rsA _).mp m1
          have yB := (sw.mem _).mp ((rsA _).mp m2)
          refine ⟨by decide, fun t nt => ?_⟩
          have t1 := same_upd (o := HO.tup [V.int e.1.1, V.int e.1.2]) nt
          have ht := upd_same (H := Hx) (a := t) (o := HO.tup [V.int e.1.1, V.int e.1.2])
          generalize upd Hx t (HO.tup [V.int e.1.1, V.int e.1.2]) = G1 at t1 ht ⊢
          have u1 := s.trans t1
          refine ⟨p, a, b, t, e.1.1, e.1.2, us, ws, A, B, r, D, own, rfl, hh.same u1, u1 _ _ ha, la.kt (KT.same u1), al, u1 _ _ hb, lb.kt (KT.same u1), bl, ht, place_in xA, place_in yB, fun n G2 t2 nn hn => ?_⟩
          have u2 := u1.trans t2
          refine ⟨ue, e.2.map V.int, rfl, .inr (SqT.of (u2 _ _ hue)), rfl, flI _, ?_⟩
          rw [inI, if_neg (by decide)]
          refine ⟨_, rfl, ?_⟩
          have bad : (e.1.2 ∈ e.2 ∨ ¬ ClosedIn D e.1.1 e.2 (hallF r A B e.1.1 e.1.2)) → ∀ Hz, Same H Hz → Q (.bl false) Hz := fun z Hz sz => ret false Hz ⟨(fun z => by cases z), fun ok => by
            obtain ⟨k1, k2⟩ := ok.2.2 e (List.mem_of_getElem? ge)
            rcases z with z | z
            · exact absurd z k1
            · exact absurd k2 z⟩ sz
          by_cases cy : e.1.2 ∈ e.2
          · rw [decide_eq_true cy, if_pos rfl, if_pos trivial]
            exact bad (.inl cy) _ u2
          rw [decide_eq_false cy, if_neg (by decide)]
          obtain ⟨dx, l0, m0, ls, nss, h1, _⟩ := (hh.same u2).ex
          unfold tBnd
          walk_at "rd"
          refine ⟨dx, _, h1, hf_no _ _ _ (by decide +kernel) (by decide +kernel) (by decide +kernel), fun q nq => ?_⟩
          have t3 : Same G2 (upd G2 q (HO.met g p)) := same_upd nq
          have u3 := u2.trans t3
          refine ⟨q, ue, n, p, e.1.1, e.2, hallF r A B e.1.1 e.1.2, r, D, own, rfl, upd_same, hh.same u3, u3 _ _ hue, t3 _ _ hn, fun x hx => (hall_mem.mp hx).1, u3 _ _ ht1, u3 _ _ ht2, fun k G3 hk t4 => ⟨k, rfl, ?_⟩⟩
          have u4 := u3.trans t4
          cases k with
          | false =>
            rw [if_pos (show (!false) = true from rfl)]
            exact bad (.inr fun z => by cases hk.mpr z) _ u4
          | true =>
            rw [if_neg (show ¬ (!true) = true by decide)]
            rw [hPv]
            refine ⟨_, _, _, _, rfl, (((sx.trans t1).trans t2).trans t3).trans t4, fun f hf => ?_⟩
            rw [List.take_add_one, ge] at hf
            rcases List.mem_append.mp hf with hf | hf
            · exact hd f hf
            · rw [List.mem_singleton.mp hf]
              exact ⟨cy, hk.mp rfl⟩
        · rw [hPv] at pv
          obtain ⟨v4, v5, v6, v7, rfl, sx, hd⟩ := pv
          walk_at "rd"
          rw [es'l, List.take_length] at hd
          exact ret true Hx ⟨fun _ => ⟨sw, ec, hd⟩, fun _ => rfl⟩ (s13.trans sx)
end

/-! ### _law_keeps_apart -/
abbrev sKa : Stmt := topS 46
def rSetTI (K : PySem.W.Frag) (w : World) : List V → Hp → VK → Prop := fun vs H Q => ∃ (l : Addr) (ns : List Int), vs = [.ref l] ∧ SqT K H l (ns.map V.int) ∧ ns.length ≤ 60 ∧ ∀ (p : Addr) (c : Nat), H p = none → c ≤ ns.length → Q (.ref p) (upd H p (SetO w p (fun j => decide (j ∈ ns)) c))
theorem cr_setTI {X : Cx} (hc : X.calm = true) : CallR X (.type "set") (rSetTI X.K X.w) := by
  intro pins s σ H vs us Q I r h
  obtain ⟨l, ns, rfl, hq, hl, q⟩ := h
  rw [Vals.ref1 r]
  obtain ⟨its, rv, pl, hz⟩ := I.tuple hq
  refine call_set_tupI ns (I.ok.hd hc) pl (by simpa using ints_of_vals rv) (by unfold scanBound; omega) fun h' tk c hS hle hk => ?_
  exact ⟨.ref s.heap.objs.size, _, I.laid (t' := tk) hk (Nat.le_refl _) (setO_new hS), rfl, q _ _ (I.hok.fresh (Nat.le_refl _)) hle⟩
theorem dpI_ints {K : PySem.W.Frag} {H : Hp} : ∀ l : List Int, DpAll K H (l.map V.int) (l.map PyData.int)
  | [] => .nil
  | x :: l => .cons (.int x) (dpI_ints l)
theorem eqvI_ints : ∀ D E : List Int, PyData.eqvAll (D.map PyData.int) (E.map PyData.int) = decide (D = E)
  | [], [] => rfl
  | [], e :: E => by simp [PyData.eqvAll]
  | d :: D, [] => by simp [PyData.eqvAll]
  | d :: D, e :: E => by
    show ((d == e) && PyData.eqvAll (D.map PyData.int) (E.map PyData.int)) = _
    rw [eqvI_ints D E]
    by_cases h1 : d = e
    · by_cases h2 : D = E
      · subst h1; subst h2; simp
      · simp [h1, h2]
    · simp [h1]
theorem shapedI (D : List Int) : SeqAt.shaped (.list (D.map PyData.int)) = true := by
  have h1 : PyData.canLayAll0 (D.map PyData.int) = true := by
    induction D with
    | nil => rfl
    | cons e D ih =>
      show (PyData.canLay0 (PyData.int e) && PyData.canLayAll0 (D.map PyData.int)) = true
      rw [ih]
      rfl
  have h2 : PyData.depthAll (D.map PyData.int) ≤ 1 := by
    induction D with
    | nil => exact Nat.zero_le _
    | cons e D ih =>
      have h1' : PyData.canLayAll0 (D.map PyData.int) = true := by
        have z : (PyData.canLay0 (PyData.int e) && PyData.canLayAll0 (D.map PyData.int)) = true := h1
        exact (Bool.and_eq_true_iff.mp z).2
      show max (PyData.depth (PyData.int e)) (PyData.depthAll (D.map PyData.int)) ≤ 1
      exact Nat.max_le.mpr ⟨Nat.zero_le _, ih h1'⟩
  show (PyData.canLayAll0 (D.map PyData.int) && decide (PyData.depthAll (D.map PyData.int) + 1 ≤ 64)) = true
  rw [h1, Bool.true_and, decide_eq_true_eq]
  omega
/-- comprehension over a tuple, any target -/
theorem gc_tupG {β : Type} {K : PySem.W.Frag} {a : Addr} {xs : List V} {vs : List Nat} {g : TG} {tt : TT} {te : TE} {σ : L2.St} {H1 : Hp} {Q : VK} (rel : Addr → Hp → V → β → Prop) (up : ∀ D H H' v b, rel D H v b → (∀ t o, t ≠ D → H t = some o → H' t = some o) → rel D H' v b) (sel : Nat → Option β) (ha : H1 a = some (.tup xs)) (len : xs.length ≤ 100000)
    (step : ∀ (D : Addr) (j : Nat) (x : V) (Hx : Hp) (A : VK) (B : Hp → Prop), xs[j]? = some x → Same H1 Hx → (∃ o, Hx D = some o) → (∀ v b Hy, sel j = some b → Same Hx Hy → rel D Hy v b → A v Hy) → (∀ Hy, sel j = none → Same Hx Hy → B Hy) →
      g x (wipe σ vs) Hx fun σ2 H2 => wipe σ2 vs = wipe σ vs ∧ tt σ2 H2 fun c H3 => if c = true then te σ2 H3 A else B H3)
    (q : ∀ o ys H', Same H1 H' → H1 o = none → H' o = some (.lst ys) → Paired (rel o H') ys ((List.range xs.length).filterMap sel) → Q (.ref o) H') :
    tLc (fun _ H R => R (Itt K a) H) g tt te vs σ H1 Q := by
  intro D nD
  obtain ⟨Pv, hPv⟩ : ∃ Pv : Nat → Hp → Prop, Pv = (fun j Hx => ∃ ys, Same H1 Hx ∧ Hx D = some (.lst ys) ∧ Paired (rel D Hx) ys ((List.range j).filterMap sel)) := ⟨_, rfl⟩
  refine lc_tup (K := K) (a := a) (xs := xs) Pv (by rw [hPv]; exact ⟨[], same_upd nD, upd_same, Paired.nil⟩) (fun j H' _ pv => by rw [hPv] at pv; obtain ⟨_, sm, _⟩ := pv; exact SqT.of (sm _ _ ha)) (fun j x H' gx pv => ?_) (fun H' pv => ?_)
  · rw [hPv] at pv
    obtain ⟨ys, sm, hD, pr⟩ := pv
    have jl := (List.getElem?_eq_some_iff.mp gx).1
    have yl : ys.length ≤ j := by rw [pr.length]; exact fm_len sel j
    refine step D j x H' _ _ gx sm ⟨_, hD⟩ (fun v b Hy es sy r => ?_) (fun Hy es sy => ?_)
    · have hD2 := sy _ _ hD
      refine ⟨ys, hD2, len_big (by omega), ?_⟩
      rw [hPv]
      refine ⟨ys ++ [v], same_ch (sm.trans sy) nD, upd_same, ?_⟩
      rw [fm_step, es]
      have keep : ∀ t o, t ≠ D → Hy t = some o → upd Hy D (HO.lst (ys ++ [v])) t = some o := fun t o ne e => by rw [upd_ne ne]; exact e
      exact Paired.snoc (Paired.mapP pr fun v b h => up _ _ _ _ _ (up _ _ _ _ _ h fun t o _ e => sy t o e) keep) (up _ _ _ _ _ r keep)
    · rw [hPv]
      refine ⟨ys, sm.trans sy, sy _ _ hD, ?_⟩
      rw [fm_step, es, List.append_nil]
      exact Paired.mapP pr fun v b h => up _ _ _ _ _ h fun t o _ e => sy t o e
  · rw [hPv] at pv
    obtain ⟨ys, sm, hD, pr⟩ := pv
    exact q D ys H' sm nD hD pr
theorem apart_closed {D : List Pr} {R I : List Int} (sub : ∀ x ∈ R, x ∈ I) : (∀ d ∈ D, d.1 ∈ I → d.2 ∈ I → (d.1 ∈ R ↔ d.2 ∈ R)) ↔ ∀ a ∈ R, ∀ b, Adj D a b → b ∈ R ∨ b ∉ I := by
  constructor
  · intro h a ha b ab
    by_cases bi : b ∈ I
    · left
      rcases ab with ab | ab
      · exact (h _ ab (sub a ha) bi).mp ha
      · exact (h _ ab bi (sub a ha)).mpr ha
    · exact .inr bi
  · intro h d hd h1 h2
    constructor
    · intro z
      exact (h d.1 z d.2 (.inl hd)).resolve_right fun n => n h2
    · intro z
      exact (h d.2 z d.1 (.inr hd)).resolve_right fun n => n h1
section
variable {P : Program} {w : World} {K : PySem.W.Frag} {mg : Str → Option Value} {base : Heap}
theorem scKa : FnScope ["doors", "entry", "hall_v", "x", "y", "held", "outside", "a", "b", "r"] ["doors", "entry", "hall_v"] (defScope sKa) := ⟨rfl, rfl, rfl, by decide +kernel, rfl, by decide +kernel, by decide +kernel⟩
def spKa : Sp := fun vs H Q _ => ∃ (l t n : Addr) (us : List V) (D : List Pr) (e : Pr × List Int) (I : List Int), vs = [.ref l, .ref t, .ref n] ∧ H l = some (.lst us) ∧ PL H us D ∧ IsEnK H (.ref t) e ∧ e.2.length ≤ 60 ∧ H n = some (.lst (I.map V.int)) ∧ ∀ (c : Bool) (H' : Hp), (c = true ↔ e.1.2 ∉ e.2 ∧ ClosedIn D e.1.1 e.2 I) → Same H H' → Q (.bl c) H'
theorem ok_ka {f : Addr} {fd : FuncData} (F : Fun K "_law_keeps_apart" "_law_keeps_apart" sKa f fd) (T : Bi mg) : FnOk P w K mg base CX0 1 f fd ["doors", "entry", "hall_v"] spKa := by
  refine F.ok scKa (fun vs H Q E h => ?_) (fun cdv A0 outer s H vs Q E hr h => ?_)
  · obtain ⟨l, t, n, us, D, e, I, rfl, _⟩ := h
    rfl
  · obtain ⟨l, t, n, us, D, e, I, rfl, hl, pl, ht, e60, hn, ret⟩ := h
    obtain ⟨t', u, ett, hte, hue⟩ := ht
    cases ett
    refine ⟨_, (pss_cons (ps_asg (pv 1) (pg_tup rfl (pgs_cons (pg_name (i := 3) scKa.nd rfl (Or.inl rfl)) (pgs_cons (pg_name (i := 4) scKa.nd rfl (Or.inl rfl)) (pgs_cons (pg_name (i := 5) scKa.nd rfl (Or.inl rfl)) pgs_nil)))))
      (pss_cons (ps_if (PW.pt (pw_or (pt_cmpR (op_neD hr.units) (pe_callTy call_list_of (by rfl) T.list (by decide +kernel) (pa_cons (pv 5) pa_nil)) (pe_callB (cr_sortedSet rfl) (by rfl) T.sorted (by decide +kernel) (pa_cons (pe_callTy (cr_setTI rfl) (by rfl) T.set (by decide +kernel) (pa_cons (pv 5) pa_nil)) pa_nil)) (nomark _)) (pw_or (pt_cmpR op_notIn_seq (pv 3) (pv 5) (by rfl)) (pw_or1 (pt_cmpR op_in_seq (pv 4) (pv 5) (by rfl))))))
      (pss_one (ps_ret pe_bl))
      pss_nil)
      (pss_cons (ps_setLc (i := 6) (own := [("r", 9)]) (te := (tVar 9)) (tt := (tTest (tOp (rIn K true) (tVar 9) (tVar 2)))) (by rfl) scKa.nd rfl rfl (sw_true rfl rfl rfl (by decide +kernel)) (pi_tup (pv 5)) (blkOk_by (N := ["doors", "entry", "hall_v", "x", "y", "held", "outside", "a", "b", "r"]) (sc := defScope sKa) (by decide +kernel)) (fun _ _ _ _ _ => pg_name (i := 9) scKa.nd rfl (Or.inl rfl)) (fun _ _ _ _ _ => (pts_one (pt_cmpR op_notIn_seq (pv 9) (pv 2) (by rfl)))) (fun _ _ _ _ _ => (pv 9)))
      (pss_cons (ps_if (pt_cmpR op_gt (pe_callB call_len_seq (by rfl) T.len (by decide +kernel) (pa_cons (pv 6) pa_nil)) pe_int (nomark _))
      (pss_one (ps_ret pe_bl))
      pss_nil)
      (pss_cons (ps_for PassesOwn.never rfl (pi_list (pv 0)) (pg_tup rfl (pgs_cons (pg_name (i := 7) scKa.nd rfl (Or.inl rfl)) (pgs_cons (pg_name (i := 8) scKa.nd rfl (Or.inl rfl)) pgs_nil)))
      (pss_one (ps_if (PW.pt (pw_and (pt_cmpR op_in_seq (pv 7) (pv 2) (by rfl)) (pw_and (pt_cmpR op_in_seq (pv 8) (pv 2) (by rfl)) (pw_and1 (pt_cmpR op_ne (pe_cmpR op_in_seq (pv 7) (pv 5) (by rfl)) (pe_cmpR op_in_seq (pv 8) (pv 5) (by rfl)) (nomark _))))))
        (pss_one (ps_ret pe_bl))
        pss_nil)))
      (pss_one (ps_ret pe_bl))))))), ?_⟩
    walk_at "rd"
    refine ⟨_, SqT.of hte, rfl, _, _, rfl, _, _, rfl, _, _, rfl, rfl, u, rfl, _, .inr (SqT.of hue), fun l1 n1 => ?_⟩
    have s1 := same_upd (o := HO.lst (e.2.map V.int)) n1
    have h1 := upd_same (H := H) (a := l1) (o := HO.lst (e.2.map V.int))
    generalize upd H l1 (HO.lst (e.2.map V.int)) = H1 at s1 h1 ⊢
    refine ⟨u, e.2, rfl, SqT.of (s1 _ _ hue), e60, fun p c np hc => ?_⟩
    have s2 := same_upd (o := SetO w p (fun j => decide (j ∈ e.2)) c) np
    have hp := upd_same (H := H1) (a := p) (o := SetO w p (fun j => decide (j ∈ e.2)) c)
    generalize upd H1 p (SetO w p (fun j => decide (j ∈ e.2)) c) = H2 at s2 hp ⊢
    refine ⟨p, _, c, rfl, hp, by omega, fun ns p3 up mem _ np3 => ?_⟩
    have s3 := same_upd (o := HO.lst (ns.map V.int)) np3
    have hp3 := upd_same (H := H2) (a := p3) (o := HO.lst (ns.map V.int))
    generalize upd H2 p3 (HO.lst (ns.map V.int)) = H3 at s3 hp3 ⊢
    have s13 := (s1.trans s2).trans s3
    refine ⟨.list (e.2.map PyData.int), .list (ns.map PyData.int), .lst (SqL.of (s3 _ _ (s2 _ _ h1))) (dpI_ints _), .lst (SqL.of hp3) (dpI_ints _), shapedI _, shapedI _, _, rfl, ?_⟩
    have upn : e.2 = ns ↔ Up e.2 := ⟨fun z => by rw [z]; exact up, fun z => up_uniq z up fun x => by rw [mem x, decide_eq_true_iff]⟩
    rw [show PyData.eqv (.list (e.2.map PyData.int)) (.list (ns.map PyData.int)) = decide (e.2 = ns) from eqvI_ints _ _]
    by_cases c1 : e.2 = ns
    rotate_left
    · rw [decide_eq_false c1, if_pos (show (!false) = true from rfl), if_pos trivial]
      exact ret false H3 ⟨(fun z => by cases z), fun z => absurd (upn.mpr z.2.2.1) c1⟩ s13
    rw [decide_eq_true c1, if_neg (show ¬ (!true) = true by decide)]
    have upE := upn.mp c1
    clear c1 upn
    refine ⟨u, e.2.map V.int, rfl, .inr (SqT.of (s13 _ _ hue)), rfl, flI _, ?_⟩
    rw [inI, if_pos rfl]
    refine ⟨_, rfl, ?_⟩
    by_cases c2 : e.1.1 ∈ e.2
    rotate_left
    · rw [decide_eq_false c2, if_pos (show (!false) = true from rfl), if_pos trivial]
      exact ret false H3 ⟨(fun z => by cases z), fun z => absurd z.2.1 c2⟩ s13
    rw [decide_eq_true c2, if_neg (show ¬ (!true) = true by decide)]
    refine ⟨u, e.2.map V.int, rfl, .inr (SqT.of (s13 _ _ hue)), rfl, flI _, ?_⟩
    rw [inI, if_neg (by decide)]
    refine ⟨_, rfl, ?_⟩
    by_cases c3 : e.1.2 ∈ e.2
    · rw [decide_eq_true c3, if_pos rfl]
      exact ret false H3 ⟨(fun z => by cases z), fun z => absurd c3 z.1⟩ s13
    rw [decide_eq_false c3, if_neg (by decide)]
    refine lcW ?_
    unfold iTup
    walk_at "rd"
    refine ⟨⟨_, SqT.of (s13 _ _ hue)⟩, gc_tupG (fun D H v (d : Int) => v = V.int d) (fun _ _ _ _ _ h _ => h) (fun j => e.2[j]?.bind fun x => if x ∈ I then none else some x) (s13 _ _ hue) (by rw [List.length_map]; omega) (fun Dx j x Hy A' B' gx sy hD hA hB => ?_) fun o ys H4 s4 no ho pr => ?_⟩
    · rw [List.getElem?_map] at gx
      cases ge : e.2[j]? with
      | none => rw [ge] at gx; cases gx
      | some z =>
        rw [ge] at gx hA hB
        have gx := Option.some.inj gx
        subst gx
        simp only [wipe]
        walk_at "rd"
        refine ⟨n, I.map V.int, rfl, .inl (SqL.of (sy _ _ (s13 _ _ hn))), rfl, flI _, ?_⟩
        rw [inI, if_pos rfl]
        refine ⟨_, rfl, ?_⟩
        by_cases ci : z ∈ I
        · rw [decide_eq_true ci, if_neg (show ¬ (!true) = true by decide)]
          exact hB Hy (if_pos ci) (Same.refl _)
        · rw [decide_eq_false ci, if_pos (show (!false) = true from rfl)]
          exact hA _ z Hy (if_neg ci) (Same.refl _) rfl
    · rw [List.length_map, fm_range (L := e.2) (fun x => if x ∈ I then none else some x)] at pr
      have s14 := s13.trans s4
      have yl := pr.length
      refine ⟨o, rfl, _, .inl (SqL.of ho), ?_⟩
      by_cases c4 : ∀ x ∈ e.2, x ∈ I
      rotate_left
      · have : 0 < ys.length := by
          rw [yl]
          obtain ⟨x, hx, nx⟩ : ∃ x ∈ e.2, x ∉ I := Classical.byContradiction fun n => c4 fun x hx => Classical.byContradiction fun k => n ⟨x, hx, k⟩
          exact List.length_pos_iff.mpr fun z => by
            have := (List.mem_filterMap (f := fun x => if x ∈ I then none else some x) (b := x)).mpr ⟨x, hx, if_neg nx⟩
            rw [z] at this
            cases this
        rw [if_pos (by omega)]
        exact ret false H4 ⟨(fun z => by cases z), fun z => absurd z.2.2.2.1 c4⟩ s14
      have y0 : ys.length = 0 := by
        rw [yl]
        refine List.length_eq_zero_iff.mpr (List.eq_nil_iff_forall_not_mem.mpr fun x hx => ?_)
        obtain ⟨z, hz, ez⟩ := List.mem_filterMap.mp hx
        rw [if_pos (c4 z hz)] at ez
        cases ez
      rw [if_neg (by omega)]
      have key := apart_closed (D := D) (R := e.2) (I := I) c4
      refine for_iterW ?_
      walk_at "rd"
      obtain ⟨Pv, hPv⟩ : ∃ Pv : Nat → L2.St → Hp → Prop, Pv = (fun i σ Hx => ∃ (v7 v8 : Option V), σ = [some (.ref l), some (.ref t), some (.ref n), some (.int e.1.1), some (.int e.1.2), some (.ref u), some (.ref o), v7, v8, none] ∧ Same H4 Hx ∧ ∀ d ∈ D.take i, d.1 ∈ I → d.2 ∈ I → (d.1 ∈ e.2 ↔ d.2 ∈ e.2)) := ⟨_, rfl⟩
      refine ⟨⟨_, SqL.of (s14 _ _ hl)⟩, for_list (K := K) (a := l) (xs := us) Pv (by rw [hPv]; exact ⟨none, none, rfl, Same.refl _, fun d hd => by cases hd⟩) (fun i σ H' _ pv => by rw [hPv] at pv; obtain ⟨_, _, _, sx, _⟩ := pv; exact SqL.of (sx _ _ (s14 _ _ hl))) (fun i v σ Hx gv pv => ?_) (fun σ Hx pv => ?_)⟩
      · rw [hPv] at pv
        obtain ⟨v7, v8, rfl, sx, hd⟩ := pv
        obtain ⟨d, gd, td, rfl, htd⟩ := pget pl gv
        have s := s14.trans sx
        have md := List.mem_of_getElem? gd
        have nxt : (d.1 ∈ I → d.2 ∈ I → (d.1 ∈ e.2 ↔ d.2 ∈ e.2)) → Pv (i + 1) [some (.ref l), some (.ref t), some (.ref n), some (.int e.1.1), some (.int e.1.2), some (.ref u), some (.ref o), some (.int d.1), some (.int d.2), none] Hx := fun k => by
          rw [hPv]
          refine ⟨_, _, rfl, sx, fun f hf => ?_⟩
          rw [List.take_add_one, gd] at hf
          rcases List.mem_append.mp hf with hf | hf
          · exact hd f hf
          · rw [List.mem_singleton.mp hf]
            exact k
        walk_at "rd"
        refine ⟨_, SqT.of (s _ _ htd), rfl, ?_⟩
        walk_at "rd"
        have isn : ∀ z : Int, ∀ Qz : VK, Qz (.bl (decide (z ∈ I))) Hx → rIn K false (V.int z) (V.ref n) Hx Qz := fun z Qz qz => ⟨n, I.map V.int, rfl, .inl (SqL.of (s _ _ hn)), rfl, flI _, by rw [inI, if_neg (by decide)]; exact qz⟩
        have isu : ∀ z : Int, ∀ Qz : VK, Qz (.bl (decide (z ∈ e.2))) Hx → rIn K false (V.int z) (V.ref u) Hx Qz := fun z Qz qz => ⟨u, e.2.map V.int, rfl, .inr (SqT.of (s _ _ hue)), rfl, flI _, by rw [inI, if_neg (by decide)]; exact qz⟩
        refine isn _ _ ⟨_, rfl, ?_⟩
        by_cases i1 : d.1 ∈ I
        rotate_left
        · rw [decide_eq_false i1, if_neg (by decide), if_neg id]
          exact nxt fun z => absurd z i1
        rw [decide_eq_true i1, if_pos rfl]
        refine isn _ _ ⟨_, rfl, ?_⟩
        by_cases i2 : d.2 ∈ I
        rotate_left
        · rw [decide_eq_false i2, if_neg (by decide), if_neg id]
          exact nxt fun _ z => absurd z i2
        rw [decide_eq_true i2, if_pos rfl]
        refine isu _ _ (isu _ _ ⟨rfl, _, rfl, ?_⟩)
        by_cases k : d.1 ∈ e.2 ↔ d.2 ∈ e.2
        · have e3 : V.bl (decide (d.1 ∈ e.2)) = V.bl (decide (d.2 ∈ e.2)) := by
            congr 1
            exact decide_eq_decide.mpr k
          rw [decide_eq_true e3, if_neg (show ¬ (!true) = true by decide)]
          exact nxt fun _ _ => k
        · have e3 : ¬ V.bl (decide (d.1 ∈ e.2)) = V.bl (decide (d.2 ∈ e.2)) := fun z => k (decide_eq_decide.mp (V.bl.inj z))
          rw [decide_eq_false e3, if_pos (show (!false) = true from rfl)]
          exact ret false Hx ⟨(fun z => by cases z), fun z => absurd (key.mpr z.2.2.2.2 d md i1 i2) k⟩ s
      · rw [hPv] at pv
        obtain ⟨v7, v8, rfl, sx, hd⟩ := pv
        walk_at "rd"
        rw [pl.len, List.take_length] at hd
        exact ret true Hx ⟨fun _ => ⟨c3, c2, upE, c4, key.mp hd⟩, fun _ => rfl⟩ (s14.trans sx)
end

/-! ### lists of texts and None as data -/
def optD (o : Option Str) : PyData := match o with
  | none => .none
  | some s => .str s
theorem optD_eqv (a b : Option Str) : PyData.eqv (optD a) (optD b) = decide (a = b) := by
  cases a with
  | none => cases b <;> rfl
  | some a =>
    cases b with
    | none => rfl
    | some b =>
      show (a == b) = decide (some a = some b)
      by_cases h : a = b
      · subst h
        simp
      · have : ¬ (some a = some b) := fun z => h (Option.some.inj z)
        rw [decide_eq_false this]
        exact beq_eq_false_iff_ne.mpr h
theorem optD_eqvAll : ∀ as bs : List (Option Str), PyData.eqvAll (as.map optD) (bs.map optD) = decide (as = bs)
  | [], [] => rfl
  | [], _ :: _ => rfl
  | _ :: _, [] => rfl
  | a :: as, b :: bs => by
    show (PyData.eqv (optD a) (optD b) && PyData.eqvAll (as.map optD) (bs.map optD)) = _
    rw [optD_eqv, optD_eqvAll as bs]
    by_cases h1 : a = b
    · by_cases h2 : as = bs
      · simp [h1, h2]
      · simp [h1, h2]
    · simp [h1]
theorem optD_shaped (as : List (Option Str)) (ok : ∀ z, some z ∈ as → PyData.strOk z = true) : SeqAt.shaped (.list (as.map optD)) = true := by
  have h1 : PyData.depthAll (as.map optD) = 0 := by
    clear ok
    induction as with
    | nil => rfl
    | cons a l ih =>
      show max (PyData.depth (optD a)) (PyData.depthAll (l.map optD)) = 0
      rw [ih]
      cases a <;> rfl
  have h2 : PyData.canLayAll0 (as.map optD) = true := by
    clear h1
    induction as with
    | nil => rfl
    | cons a l ih =>
      show (PyData.canLay0 (optD a) && PyData.canLayAll0 (l.map optD)) = true
      rw [ih fun z hz => ok z (List.mem_cons_of_mem _ hz), Bool.and_true]
      cases a with
      | none => rfl
      | some z => exact ok z List.mem_cons_self
  show (PyData.canLayAll0 (as.map optD) && decide (PyData.depthAll (as.map optD) + 1 ≤ 64)) = true
  rw [h1, h2]
  decide
theorem dp_opts {K : PySem.W.Frag} {H : Hp} : ∀ as : List (Option Str), DpAll K H (as.map optS) (as.map optD)
  | [] => .nil
  | none :: l => .cons .non (dp_opts l)
  | some s :: l => .cons (.str s) (dp_opts l)

/-! ### _law_is_certificate -/
abbrev sIk : Stmt := topS 47
/-- the rooms' last words -/
def ownW (r : Nat) (L : List Cl) : List (Option Str) := (List.range r).map fun k : Nat => wordL L (k : Int)
theorem wordsF_own {r : Nat} {L : List Cl} (inr : InR r L) : wordsF r L = (ownW r L).map optS := by
  refine List.ext_getElem? fun k => ?_
  by_cases hk : k < r
  · rw [wordsF_get inr hk]
    unfold ownW
    rw [List.getElem?_map, List.getElem?_map, List.getElem?_range hk]
    rfl
  · rw [List.getElem?_eq_none (by rw [wordsF_len]; omega), List.getElem?_eq_none (by unfold ownW; rw [List.length_map, List.length_map, List.length_range]; omega)]
theorem ownW_same {r : Nat} {A B : List Cl} (iA : InR r A) (iB : InR r B) : ownW r A = ownW r B ↔ SameW A B := by
  constructor
  · intro h x
    by_cases hx : 0 ≤ x ∧ x < r
    · obtain ⟨n, rfl⟩ : ∃ n : Nat, x = n := ⟨x.toNat, by omega⟩
      have hn : n < r := by omega
      have h2 : (ownW r A)[n]? = (ownW r B)[n]? := by rw [h]
      unfold ownW at h2
      rw [List.getElem?_map, List.getElem?_map, List.getElem?_range hn] at h2
      exact Option.some.inj h2
    · have out : ∀ {L : List Cl}, InR r L → wordL L x = none := fun {L} i => wordL_none.mpr fun m => by
        obtain ⟨c, hc, rfl⟩ := List.mem_map.mp m
        exact hx (i c hc)
      rw [out iA, out iB]
  · intro h
    unfold ownW
    exact List.map_congr_left fun k _ => h k
theorem ownW_ok {r : Nat} {L : List Cl} (k : ∀ c ∈ L, wk 17 c.2) : ∀ z, some z ∈ ownW r L → PyData.strOk z = true := fun z hz => by
  unfold ownW at hz
  obtain ⟨n, _, e⟩ := List.mem_map.mp hz
  unfold wordL at e
  cases el : lastIn [((n : Nat) : Int)] L with
  | none => rw [el] at e; cases e
  | some c =>
    rw [el] at e
    have e := Option.some.inj e
    rw [← e]
    unfold lastIn at el
    exact (k c (List.mem_reverse.mp (List.mem_of_find?_eq_some el))).2
theorem dp_optS {K : PySem.W.Frag} {H : Hp} : ∀ as : List (Option Str), DpAll K H (as.map optS) (as.map optD)
  | [] => .nil
  | none :: as => .cons .non (dp_optS as)
  | some z :: as => .cons (.str z) (dp_optS as)
section
variable {P : Program} {w : World} {K : PySem.W.Frag} {mg : Str → Option Value} {base : Heap}
theorem scIk : FnScope ["doors", "rooms", "logs", "entries", "own", "order", "other", "entry", "call"] ["doors", "rooms", "logs", "entries"] (defScope sIk) := ⟨rfl, rfl, rfl, by decide +kernel, rfl, by decide +kernel, by decide +kernel⟩
def spIk : Sp := fun vs H Q _ => ∃ (l g a b c : Addr) (us u1 u2 es' : List V) (D : List Pr) (A B : List Cl) (r : Nat) (es : List (Pr × List Int)), vs = [.ref l, .int r, .ref g, .ref c] ∧ H l = some (.lst us) ∧ PL H us D ∧ H g = some (.lst [.ref a, .ref b]) ∧ H a = some (.lst u1) ∧ LG H u1 A ∧ A.length ≤ 100 ∧ InR r A ∧ (∀ c ∈ A, wk 17 c.2) ∧ H b = some (.lst u2) ∧ LG H u2 B ∧ B.length ≤ 100 ∧ InR r B ∧ (∀ c ∈ B, wk 17 c.2) ∧ r ≤ 12 ∧
  H c = some (.lst es') ∧ Paired (IsEnK H) es' es ∧ es.length ≤ 1000 ∧ (∀ e ∈ es, e.2.length ≤ 60) ∧ ∀ (k : Bool) (H' : Hp), (∀ rs : List Int, rs.Pairwise (· < ·) → (∀ x, x ∈ rs ↔ x ∈ A.map (·.1)) → (k = true ↔ CertOk r D A B rs es)) → Same H H' → Q (.bl k) H'
theorem ok_ik {f f1 f2 f3 f4 f5 : Addr} {fd fd1 fd2 fd3 fd4 fd5 : FuncData} (F : Fun K "_law_is_certificate" "_law_is_certificate" sIk f fd) (T : Bi mg) (d__law_own : Df P w K mg base "_law_own" ["rooms", "log"] 1 spLow f1 fd1) (d__law_last : Df P w K mg base "_law_last" ["log"] 1 spLast f2 fd2) (d__law_crossed : Df P w K mg base "_law_crossed" ["own", "order", "other"] 1 spLcr f3 fd3)
    (d__law_keeps_apart : Df P w K mg base "_law_keeps_apart" ["doors", "entry", "hall_v"] 1 spKa f4 fd4) (d__law_hall : Df P w K mg base "_law_hall" ["rooms", "order", "other", "pair"] 1 spLhl f5 fd5) : FnOk P w K mg base CX0 2 f fd ["doors", "rooms", "logs", "entries"] spIk := by
  refine F.ok scIk (fun vs H Q E h => ?_) (fun cdv A0 outer s H vs Q E hr h => ?_)
  · obtain ⟨l, g, a, b, c, us, u1, u2, es', D, A, B, r, es, rfl, _⟩ := h
    rfl
  · obtain ⟨l, g, a, b, c, us, u1, u2, es', D, A, B, r, es, rfl, hl, pl, hg, ha, la, al, iA, kA, hb, lb, bl, iB, kB, r12, hc, pe, el, e60, ret⟩ := h
    refine ⟨_, (pss_cons (ps_set (i := 4) scIk.nd rfl (Or.inl rfl) (pe_call d__law_own.ok (hr.mono (by decide)) (by rfl) d__law_own.at_ d__law_own.kp d__law_own.b .nil pass0 (pa_cons (pv 1) (pa_cons (pe_ix ix_list (pv 2) pe_int (fun _ _ => rfl)) pa_nil))))
      (pss_cons (ps_if (pt_cmpR (op_neD hr.units) (pv 4) (pe_call d__law_own.ok (hr.mono (by decide)) (by rfl) d__law_own.at_ d__law_own.kp d__law_own.b .nil pass0 (pa_cons (pv 1) (pa_cons (pe_ix ix_list (pv 2) pe_int (fun _ _ => rfl)) pa_nil))) (nomark _))
      (pss_one (ps_ret pe_bl))
      pss_nil)
      (pss_cons (ps_setLc (i := 5) (own := [("call", 8)]) (te := (tOp (rIxT K) (tVar 8) (tC (V.int 0)))) (by rfl) scIk.nd rfl rfl (sw_true rfl rfl rfl (by decide +kernel)) (pi_list (pe_call d__law_last.ok (hr.mono (by decide)) (by rfl) d__law_last.at_ d__law_last.kp d__law_last.b .nil pass0 (pa_cons (pe_ix ix_list (pv 2) pe_int (fun _ _ => rfl)) pa_nil))) (blkOk_by (N := ["doors", "rooms", "logs", "entries", "own", "order", "other", "entry", "call"]) (sc := defScope sIk) (by decide +kernel)) (fun _ _ _ _ _ => pg_name (i := 8) scIk.nd rfl (Or.inl rfl)) (fun _ _ _ _ _ => pts_nil) (fun _ _ _ _ _ => (pe_ix ix_tup (pv 8) pe_int (fun _ _ => rfl))))
      (pss_cons (ps_setLc (i := 6) (own := [("call", 8)]) (te := (tOp (rIxT K) (tVar 8) (tC (V.int 0)))) (by rfl) scIk.nd rfl rfl (sw_true rfl rfl rfl (by decide +kernel)) (pi_list (pe_call d__law_last.ok (hr.mono (by decide)) (by rfl) d__law_last.at_ d__law_last.kp d__law_last.b .nil pass0 (pa_cons (pe_ix ix_list (pv 2) pe_int (fun _ _ => rfl)) pa_nil))) (blkOk_by (N := ["doors", "rooms", "logs", "entries", "own", "order", "other", "entry", "call"]) (sc := defScope sIk) (by decide +kernel)) (fun _ _ _ _ _ => pg_name (i := 8) scIk.nd rfl (Or.inl rfl)) (fun _ _ _ _ _ => pts_nil) (fun _ _ _ _ _ => (pe_ix ix_tup (pv 8) pe_int (fun _ _ => rfl))))
      (pss_cons (ps_if (pt_cmpR (op_neD hr.units) (pe_lc (own := [("entry", 7)]) (te := tSl (rSlT K) (tVar 7) tNoPart (tPart (tC (V.int 2)))) (by rfl) scIk.nd (pi_list (pv 3)) (blkOk_by (N := ["doors", "rooms", "logs", "entries", "own", "order", "other", "entry", "call"]) (sc := defScope sIk) (by decide +kernel)) (fun _ _ _ _ _ => pg_name (i := 7) scIk.nd rfl (Or.inl rfl)) (fun _ _ _ _ _ => pts_nil) (fun _ _ _ _ _ => (pe_slice sl_tup (pv 7) po_none (po_some pe_int)))) (pe_call d__law_crossed.ok (hr.mono (by decide)) (by rfl) d__law_crossed.at_ d__law_crossed.kp d__law_crossed.b .nil pass0 (pa_cons (pv 4) (pa_cons (pv 5) (pa_cons (pv 6) pa_nil)))) (nomark _))
      (pss_one (ps_ret pe_bl))
      pss_nil)
      (pss_cons (ps_for PassesOwn.never rfl (pi_list (pv 3)) (pg_name (i := 7) scIk.nd rfl (Or.inl rfl))
      (pss_one (ps_if (pt_not (pt_val (pe_call d__law_keeps_apart.ok (hr.mono (by decide)) (by rfl) d__law_keeps_apart.at_ d__law_keeps_apart.kp d__law_keeps_apart.b .nil pass0 (pa_cons (pv 0) (pa_cons (pv 7) (pa_cons (pe_call d__law_hall.ok (hr.mono (by decide)) (by rfl) d__law_hall.at_ d__law_hall.kp d__law_hall.b .nil pass0 (pa_cons (pv 1) (pa_cons (pv 5) (pa_cons (pv 6) (pa_cons (pv 7) pa_nil))))) pa_nil))))))
        (pss_one (ps_ret pe_bl))
        pss_nil)))
      (pss_one (ps_ret pe_bl)))))))), ?_⟩
    walk_at "rd"
    refine ⟨_, SqL.of hg, .ref a, rfl, a, u1, A, r, rfl, ha, la, iA, r12, fun pw H1 s1 npw hpw => ?_⟩
    refine ⟨_, SqL.of (s1 _ _ hg), .ref b, rfl, b, u2, B, r, rfl, s1 _ _ hb, lb.kt (KT.same s1), iB, r12, fun pv H2 s2 npv hpv => ?_⟩
    have s12 := s1.trans s2
    have hpw2 := s2 _ _ hpw
    have hpw2' := hpw2
    rw [wordsF_own iA] at hpw2'
    rw [wordsF_own iB] at hpv
    refine ⟨.list ((ownW r A).map optD), .list ((ownW r B).map optD), .lst (SqL.of hpw2') (dp_optS _), .lst (SqL.of hpv) (dp_optS _), optD_shaped _ (ownW_ok kA), optD_shaped _ (ownW_ok kB), _, rfl, ?_⟩
    rw [show PyData.eqv (.list ((ownW r A).map optD)) (.list ((ownW r B).map optD)) = decide (ownW r A = ownW r B) from optD_eqvAll _ _]
    by_cases c1 : ownW r A = ownW r B
    rotate_left
    · rw [decide_eq_false c1, if_pos (show (!false) = true from rfl)]
      exact ret false H2 (fun rs _ _ => ⟨(fun z => by cases z), fun z => absurd ((ownW_same iA iB).mpr z.1) c1⟩) s12
    rw [decide_eq_true c1, if_neg (show ¬ (!true) = true by decide)]
    have sw := (ownW_same iA iB).mp c1
    refine lcW ?_
    walk_at "rd"
    refine ⟨_, SqL.of (s12 _ _ hg), .ref a, rfl, a, u1, A, rfl, s12 _ _ ha, la.kt (KT.same s12), by omega, fun wa qa H3 s3 nqa hqa lwa => ?_⟩
    have s13 := s12.trans s3
    have lal := lastF_len A
    have lbl := lastF_len B
    walk_at "rd"
    refine ⟨⟨_, SqL.of hqa⟩, lc_fst hqa lwa (by omega) (by simp) fun po H4 s4 npo hpo => ?_⟩
    have s14 := s13.trans s4
    refine lcW ?_
    walk_at "rd"
    refine ⟨_, SqL.of (s14 _ _ hg), .ref b, rfl, b, u2, B, rfl, s14 _ _ hb, lb.kt (KT.same s14), by omega, fun wb qb H5 s5 nqb hqb lwb => ?_⟩
    have s15 := s14.trans s5
    walk_at "rd"
    refine ⟨⟨_, SqL.of hqb⟩, lc_fst hqb lwb (by omega) (by simp) fun pq H6 s6 npq hpq => ?_⟩
    have s16 := s15.trans s6
    have hpo6 := s6 _ _ (s5 _ _ hpo)
    have es'l := pe.length
    refine lcW ?_
    walk_at "rd"
    refine ⟨⟨_, SqL.of (s16 _ _ hc)⟩, gc_listG (fun D H v (d : Pr) => ∃ t, v = V.ref t ∧ t ≠ D ∧ H t = some (.tup [.int d.1, .int d.2])) (fun D H H' v b h k => by obtain ⟨t, e, ne, h⟩ := h; exact ⟨t, e, ne, k _ _ ne h⟩) (fun j => es[j]?.bind fun e => some e.1) (s16 _ _ hc) (by omega) (fun Dx j x Hy A' B' gx sy hD hA hB => ?_) fun o ys H7 s7 no ho pr2 => ?_⟩
    · obtain ⟨e, ge, te, ue, rfl, hte, hue⟩ := pget pe gx
      rw [ge] at hA
      have hy := sy _ _ (s16 _ _ hte)
      simp only [wipe]
      walk_at "rd"
      rw [if_pos trivial]
      unfold rSlT
      refine ⟨te, _, rfl, SqT.of hy, ?_, fun t nt => ?_⟩
      · rintro ⟨_, h⟩
        rw [show (some (2 : Int)) = some (((2 : Nat) : Int)) from rfl, HT.sIx_nat] at h
        exact absurd h (by show ¬ (min 2 3 = 3); decide)
      · have e2 : cutV [V.int e.1.1, V.int e.1.2, V.ref ue] none (some 2) = [V.int e.1.1, V.int e.1.2] := by
          rw [show (some (2 : Int)) = some (((2 : Nat) : Int)) from rfl, cut_takeQ]
          rfl
        rw [e2]
        refine hA _ e.1 _ rfl (same_upd nt) ⟨t, rfl, fun z => ?_, upd_same⟩
        obtain ⟨od, hod⟩ := hD
        rw [← z, nt] at hod
        cases hod
    · rw [es'l, fm_range (L := es) (fun e => some e.1), List.filterMap_eq_map'] at pr2
      have pl2 : PL H7 ys (es.map (·.1)) := Paired.mapP pr2 fun v d h => by obtain ⟨t, e, _, h⟩ := h; exact ⟨t, e, h⟩
      have s17 := s16.trans s7
      have s37 := s3.trans (s4.trans (s5.trans (s6.trans s7)))
      refine ⟨pw, po, pq, A, B, r, wordsF r A, wordL A, rfl, s37 _ _ hpw2, s7 _ _ hpo6, s7 _ _ hpq, iA, r12, fun x hx => wordsF_get iA hx, fun x hx => ⟨rfl, (sw.mem x).mp hx⟩, fun rs zs q2 H8 rsU rsA s8 nq2 hq2 pz => ?_⟩
      have s18 := s17.trans s8
      have cert : ∀ k : Bool, (k = true ↔ CertOk r D A B rs es) → ∀ rs2 : List Int, rs2.Pairwise (· < ·) → (∀ x, x ∈ rs2 ↔ x ∈ A.map (·.1)) → (k = true ↔ CertOk r D A B rs2 es) := fun k hk rs2 u2 m2 => by
        rw [up_uniq u2 rsU fun x => (m2 x).trans (rsA x).symm]
        exact hk
      refine ⟨.list ((es.map (·.1)).map pdP), .list ((crossF A B rs).map pdP), .lst (SqL.of (s8 _ _ ho)) (dp_all (pl2.kt (KT.same s8))), .lst (SqL.of hq2) (dp_all pz), shaped_list _, shaped_list _, _, rfl, ?_⟩
      rw [eqv_pairs]
      by_cases ec : es.map (·.1) = crossF A B rs
      rotate_left
      · rw [decide_eq_false ec, if_pos (show (!false) = true from rfl)]
        exact ret false H8 (cert _ ⟨(fun z => by cases z), fun z => absurd z.2.1 ec⟩) s18
      rw [decide_eq_true ec, if_neg (show ¬ (!true) = true by decide)]
      refine for_iterW ?_
      walk_at "rd"
      obtain ⟨Pv, hPv⟩ : ∃ Pv : Nat → L2.St → Hp → Prop, Pv = (fun i σ Hx => ∃ (v7 : Option V), σ = [some (.ref l), some (.int r), some (.ref g), some (.ref c), some (.ref pw), some (.ref po), some (.ref pq), v7, none] ∧ Same H8 Hx ∧ ∀ e ∈ es.take i, e.1.2 ∉ e.2 ∧ ClosedIn D e.1.1 e.2 (hallF r A B e.1.1 e.1.2)) := ⟨_, rfl⟩
      refine ⟨⟨_, SqL.of (s18 _ _ hc)⟩, for_list (K := K) (a := c) (xs := es') Pv (by rw [hPv]; exact ⟨none, rfl, Same.refl _, fun e he => by cases he⟩) (fun i σ H' _ pv => by rw [hPv] at pv; obtain ⟨_, _, sx, _⟩ := pv; exact SqL.of (sx _ _ (s18 _ _ hc))) (fun i v σ Hx gv pv => ?_) (fun σ Hx pv => ?_)⟩
      · rw [hPv] at pv
        obtain ⟨v7, rfl, sx, hd⟩ := pv
        obtain ⟨e, ge, te, ue, rfl, hte, hue⟩ := pget pe gv
        have me := List.mem_of_getElem? ge
        have s := s18.trans sx
        have s78 := s7.trans (s8.trans sx)
        have em : e.1 ∈ crossF A B rs := by
          rw [← ec]
          exact List.mem_map.mpr ⟨e, me, rfl⟩
        obtain ⟨m1, m2, _⟩ := mem_crossF.mp em
        have xA := (rsA _).mp m1
        have yB := (sw.mem _).mp ((rsA _).mp m2)
        walk_at "rd"
        refine ⟨po, pq, te, A, B, r, e.1.1, e.1.2, [.ref ue], rfl, s78 _ _ hpo6, s78 _ _ hpq, by omega, by omega, s _ _ hte, xA, yB, r12, fun hz G1 t1 nhz hhz => ?_⟩
        have u1' := s.trans t1
        refine ⟨l, te, hz, us, D, e, hallF r A B e.1.1 e.1.2, rfl, u1' _ _ hl, pl.kt (KT.same u1'), ⟨te, ue, rfl, u1' _ _ hte, u1' _ _ hue⟩, e60 e me, hhz, fun k G2 hk t2 => ⟨k, rfl, ?_⟩⟩
        cases k with
        | false =>
          rw [if_pos (show (!false) = true from rfl)]
          exact ret false G2 (cert _ ⟨(fun z => by cases z), fun ok => by cases hk.mpr (ok.2.2 e me)⟩) (u1'.trans t2)
        | true =>
          rw [if_neg (show ¬ (!true) = true by decide)]
          rw [hPv]
          refine ⟨_, rfl, (sx.trans t1).trans t2, fun f hf => ?_⟩
          rw [List.take_add_one, ge] at hf
          rcases List.mem_append.mp hf with hf | hf
          · exact hd f hf
          · rw [List.mem_singleton.mp hf]
            exact hk.mp rfl
      · rw [hPv] at pv
        obtain ⟨v7, rfl, sx, hd⟩ := pv
        walk_at "rd"
        rw [es'l, List.take_length] at hd
        exact ret true Hx (cert _ ⟨fun _ => ⟨sw, ec, hd⟩, fun _ => rfl⟩) (s18.trans sx)
end

/-! ### xs.extend(t), t a tuple -/
theorem extend_tupG (l : Addr) (items : Array Value) (n : Nat) (b : Addr) {o2 : Obj} (items2 : Array Value) (n2 : Nat) (hc : o2.cls = .type "tuple") (hd : o2.data = .seq items2 n2) (hlong : ¬ (!items.isEmpty && Builtin.List.listTooLong (items.size + items2.size)) = true) (hs1 : items.size ≤ sizeLine) (hs2 : items.size + items2.size ≤ sizeLine + 1) :
    Meets (Builtin.«list.extend» ⟨[.ref l, .ref b], []⟩) (fun _ R s => s.heap.get? l = some { cls := .type "list", dict := none, data := .seq items n, slots := #[] } ∧ s.heap.get? b = some o2 ∧ R (.ok (.ret Value.none)) { s with heap := s.heap.update l (Obj.mapSeq fun x => x ++ items2), toks := s.toks }) :=
  .of_wp fun prog w A R s h => by
    obtain ⟨hl, hb, h⟩ := h
    show wpAny _ A.in1 (Builtin.List.listExtendWith (.ref l) (.ref b) .none) _ _ s
    unfold Builtin.List.listExtendWith
    refine wpAny_bind (wpAny_typeOf ⟨o2, hb, hc⟩ ?_)
    have h1 : (Builtin.List.listSameRef (.ref l) (.ref b) || Value.type "tuple" == Value.type "list" || Value.type "tuple" == Value.type "tuple") = true := by simp
    simp only [h1, if_true]
    refine wpAny_bind ?_
    unfold Builtin.List.listItems
    refine wpAny_bind (wpAny_seqItems hb hd (wpAny_pure ?_))
    refine wpAny_bind ?_
    refine wpAny_bind (wpAny_seqItems hl rfl (wpAny_pure ?_))
    rw [if_neg hlong]
    show wpAny _ A.in1 (updateSeq l (· ++ items2) >>= fun _ => ret Value.none) _ _ s
    refine wpAny_bind (wpAny_updateSeq hl rfl ?_ (hz := hs1) (_hz' := by rw [Array.size_append]; exact hs2))
    exact wpAny_pure ⟨_, rfl, h⟩
def rExtendT (K : PySem.W.Frag) : V → List V → Hp → VK → Prop := fun x vs H Q => ∃ l b xs zs, x = .ref l ∧ vs = [.ref b] ∧ H l = some (.lst xs) ∧ SqT K H b zs ∧ xs.length + zs.length ≤ sizeLine ∧ Q .non (upd H l (.lst (xs ++ zs)))
theorem mt_extendT {X : Cx} : MtM X "list.extend" (rExtendT X.K) := by
  intro pins s σ H x vs v us Q I rx rv h
  obtain ⟨l, b, xs, zs, rfl, rfl, hH, hB, hz, q⟩ := h
  cases rx
  obtain ⟨u, rfl, ru⟩ := rv.one
  cases ru
  obtain ⟨z, its, n, r, hl, e⟩ := I.lstM hH
  obtain ⟨its2, r2, hl2, _⟩ := I.tuple hB
  obtain ⟨o2, e2, c2, n2, d2⟩ := hl2
  have q1 := r.length
  have q2 := r2.length
  have hsz : its.toArray.size + its2.toArray.size ≤ sizeLine := by rw [List.size_toArray, List.size_toArray]; omega
  have hlong : ¬ (!its.toArray.isEmpty && Builtin.List.listTooLong (its.toArray.size + its2.toArray.size)) = true := by
    rw [notLongL hsz, Bool.and_false]
    exact Bool.false_ne_true
  refine call_meets F.slot_list_extend ⟨_, e, rfl⟩ F.entry_list_extend (F.args_list_extend_2 _ _) (extend_tupG l its.toArray n b its2.toArray n2 c2 d2 hlong (by omega) (by omega)) ⟨e, e2, ?_⟩
  refine ⟨.non, _, I.lset (its' := its ++ its2) hH e (by simp) (r.append r2) ?_, rfl, q⟩
  rw [List.length_append]
  omega

/-! ### _law_grown, _law_drawn_entries, _law_changed -/
abbrev sGw : Stmt := topS 43
/-- entries as the law hands them on -/
structure Ents (H : Hp) (c : Addr) (es : List (Pr × List Int)) (n m : Nat) : Prop where
  ex : ∃ vs, H c = some (.lst vs) ∧ Paired (IsEnK H) vs es
  len : es.length ≤ n
  held : ∀ e ∈ es, e.2.length ≤ m
theorem Ents.same {H H' : Hp} {c : Addr} {es : List (Pr × List Int)} {n m : Nat} (h : Ents H c es n m) (s : Same H H') : Ents H' c es n m := by
  obtain ⟨vs, h1, h2⟩ := h.ex
  exact ⟨⟨vs, s _ _ h1, Paired.mapP h2 fun v b q => q.kt (KT.same s)⟩, h.len, h.held⟩
theorem hall_len (r : Nat) (A B : List Cl) (x y : Int) : (hallF r A B x y).length ≤ r := by
  unfold hallF
  refine Nat.le_trans (List.length_filter_le _ _) ?_
  rw [rg_len]
  exact Nat.le_refl _
theorem flat_nd {L : List (List Int)} (h1 : ∀ l ∈ L, l.Nodup) (h2 : L.Pairwise fun a b => ∀ x, x ∈ a → x ∉ b) : L.flatten.Nodup := by
  induction L with
  | nil => exact List.nodup_nil
  | cons a L ih =>
    obtain ⟨p1, p2⟩ := List.pairwise_cons.mp h2
    rw [List.flatten_cons]
    refine List.nodup_append.mpr ⟨h1 a List.mem_cons_self, ih (fun l hl => h1 l (List.mem_cons_of_mem _ hl)) p2, fun x hx y hy e => ?_⟩
    obtain ⟨b, hb, hy⟩ := List.mem_flatten.mp hy
    subst e
    exact p1 b hb x hx hy
theorem pcs_flat {D : List Pr} {R : List Int} {L : List (List Int)} {r : Nat} (h : Pcs D R L) (hR : ∀ x ∈ R, 0 ≤ x ∧ x < r) : L.flatten.length ≤ r := by
  have nd : L.flatten.Nodup := flat_nd (fun l hl => by
    obtain ⟨s, _, pc⟩ := h.pc l hl
    exact List.Pairwise.imp (fun h => by omega) pc.1) (List.Pairwise.imp_of_mem (fun {a b} ha hb lt x xa xb => by
    obtain ⟨s, _, pa⟩ := h.pc a ha
    obtain ⟨t, _, pb⟩ := h.pc b hb
    have e := (pa.of xa).uniq (pb.of xb)
    rw [e] at lt
    omega) h.asc)
  have := pig (rg r) L.flatten nd fun x hx => by
    obtain ⟨l, hl, hx⟩ := List.mem_flatten.mp hx
    obtain ⟨s, _, pc⟩ := h.pc l hl
    have := hR x ((pc.2 x).mp hx).mem
    exact mem_rg this.1 this.2
  rw [rg_len] at this
  exact this
theorem sub_flat {α : Type} {S L : List (List α)} (h : S.Sublist L) : S.flatten.length ≤ L.flatten.length := by
  induction h with
  | slnil => exact Nat.le_refl _
  | cons a _ ih =>
    rw [List.flatten_cons, List.length_append]
    omega
  | cons_cons a _ ih =>
    rw [List.flatten_cons, List.flatten_cons, List.length_append, List.length_append]
    omega
section
variable {P : Program} {w : World} {K : PySem.W.Frag} {mg : Str → Option Value} {base : Heap}
theorem scGw : FnScope ["doors", "rooms", "order", "other", "pairs", "numbers", "entries", "k", "rest", "held", "piece"] ["doors", "rooms", "order", "other", "pairs", "numbers"] (defScope sGw) := ⟨rfl, rfl, rfl, by decide +kernel, rfl, by decide +kernel, by decide +kernel⟩
def spGw : Sp := fun vs H Q _ => ∃ (l o q p n : Addr) (us ps : List V) (D prs : List Pr) (A B : List Cl) (r : Nat) (ns : List Int), vs = [.ref l, .int r, .ref o, .ref q, .ref p, .ref n] ∧ H l = some (.lst us) ∧ PL H us D ∧ H o = some (.lst (((lastF A).map (·.1)).map V.int)) ∧ H q = some (.lst (((lastF B).map (·.1)).map V.int)) ∧ (lastF A).length ≤ 100 ∧ (lastF B).length ≤ 100 ∧ r ≤ 12 ∧
  H p = some (.lst ps) ∧ PL H ps prs ∧ (∀ d ∈ prs, d.1 ∈ A.map (·.1) ∧ d.2 ∈ B.map (·.1)) ∧ H n = some (.lst (ns.map V.int)) ∧ 2 * prs.length ≤ ns.length ∧ prs.length ≤ 66 ∧ ∀ (es : List (Pr × List Int)) (c : Addr) (H' : Hp), Same H H' → H c = none → Ents H' c es 66 12 → Q (.ref c) H'
theorem ok_gw {f f1 f2 : Addr} {fd fd1 fd2 : FuncData} (F : Fun K "_law_grown" "_law_grown" sGw f fd) (T : Bi mg) (d__law_pieces : Df P w K mg base "_law_pieces" ["doors", "rooms"] 2 (spLpc K) f1 fd1) (d__law_hall : Df P w K mg base "_law_hall" ["rooms", "order", "other", "pair"] 1 spLhl f2 fd2) : FnOk P w K mg base CX0 3 f fd ["doors", "rooms", "order", "other", "pairs", "numbers"] spGw := by
  refine F.ok scGw (fun vs H Q E h => ?_) (fun cdv A0 outer s H vs Q E hr h => ?_)
  · obtain ⟨l, o, q, p, n, us, ps, D, prs, A, B, r, ns, rfl, _⟩ := h
    rfl
  · obtain ⟨l, o, q, p, n, us, ps, D, prs, A, B, r, ns, rfl, hl, pl, ho, hq, al, bl, r12, hp, pp, pm, hn, n2, p66, ret⟩ := h
    refine ⟨_, (pss_cons (ps_set (i := 6) scGw.nd rfl (Or.inl rfl) (pe_lst pa_nil))
      (pss_cons (ps_for PassesOwn.never rfl (pi_range1 (by rfl) T.range (pa_cons (pe_callB call_len_seq (by rfl) T.len (by decide +kernel) (pa_cons (pv 4) pa_nil)) pa_nil)) (pg_name (i := 7) scGw.nd rfl (Or.inl rfl))
      (pss_cons (ps_set (i := 8) scGw.nd rfl (Or.inl rfl) (pe_op op_add (pe_ix ix_list (pv 5) (pe_op op_mul pe_int (pv 7)) (fun _ _ => rfl)) (pe_op op_mul pe_int (pe_ix ix_list (pv 5) (pe_op op_add (pe_op op_mul pe_int (pv 7)) pe_int) (fun _ _ => rfl)))))
        (pss_cons (ps_set (i := 9) scGw.nd rfl (Or.inl rfl) (pe_lst pa_nil))
        (pss_cons (ps_for PassesOwn.never rfl (pi_list (pe_call d__law_pieces.ok (hr.mono (by decide)) (by rfl) d__law_pieces.at_ d__law_pieces.kp d__law_pieces.b .nil pass0 (pa_cons (pv 0) (pa_cons (pe_call d__law_hall.ok (hr.mono (by decide)) (by rfl) d__law_hall.at_ d__law_hall.kp d__law_hall.b .nil pass0 (pa_cons (pv 1) (pa_cons (pv 2) (pa_cons (pv 3) (pa_cons (pe_ix ix_list (pv 4) (pv 7) (fun _ _ => rfl)) pa_nil))))) pa_nil)))) (pg_name (i := 10) scGw.nd rfl (Or.inl rfl))
        (pss_cons (ps_if (PW.pt (pw_or (pt_cmpR op_in_seq (pe_ix ix_tup (pe_ix ix_list (pv 4) (pv 7) (fun _ _ => rfl)) pe_int (fun _ _ => rfl)) (pv 10) (by rfl)) (pw_or1 (PW.pt (pw_and (pt_cmpR op_eqI (pe_op op_mod (pe_callTy cr_intI (by rfl) T.int (by decide +kernel) (pa_cons (pv 8) pa_nil)) pe_int) pe_int (nomark _)) (pw_and1 (pt_cmpR op_notIn_seq (pe_ix ix_tup (pe_ix ix_list (pv 4) (pv 7) (fun _ _ => rfl)) pe_int (fun _ _ => rfl)) (pv 10) (by rfl))))))))
          (pss_one (ps_expr (pe_bm PySem.F.plainAttrs_list PySem.F.slot_list_extend PySem.F.type_list_extend mt_extendT (pv 9) (pa_cons (pv 10) pa_nil))))
          pss_nil)
          (pss_one (ps_set (i := 8) scGw.nd rfl (Or.inl rfl) (pe_op op_fdiv (pv 8) pe_int)))))
        (pss_one (ps_expr (pe_bm PySem.F.plainAttrs_list PySem.F.slot_list_append PySem.F.type_list_append mt_append (pv 6) (pa_cons (pe_tup (pa_cons (pe_ix ix_tup (pe_ix ix_list (pv 4) (pv 7) (fun _ _ => rfl)) pe_int (fun _ _ => rfl)) (pa_cons (pe_ix ix_tup (pe_ix ix_list (pv 4) (pv 7) (fun _ _ => rfl)) pe_int (fun _ _ => rfl)) (pa_cons (pe_callTy call_tuple_of (by rfl) T.tuple (by decide +kernel) (pa_cons (pe_callB (cr_sortedI) (by rfl) T.sorted (by decide +kernel) (pa_cons (pv 9) pa_nil)) pa_nil)) pa_nil)))) pa_nil))))))))
      (pss_one (ps_ret (pv 6))))), ?_⟩
    walk_at "rd"
    refine ⟨by decide, fun pe0 npe => ?_⟩
    have s0 := same_upd (o := HO.lst []) npe
    have hpe0 := upd_same (H := H) (a := pe0) (o := HO.lst [])
    generalize upd H pe0 (HO.lst []) = H0 at s0 hpe0 ⊢
    have psl := pp.len
    refine for_iterW ?_
    unfold iRng1
    walk_at "rd"
    refine ⟨_, .inl (SqL.of (s0 _ _ hp)), ?_⟩
    obtain ⟨Pv, hPv⟩ : ∃ Pv : Nat → L2.St → Hp → Prop, Pv = (fun i σ Hx => ∃ (vs : List V) (es : List (Pr × List Int)) (v7 v8 v9 v10 : Option V), σ = [some (.ref l), some (.int r), some (.ref o), some (.ref q), some (.ref p), some (.ref n), some (.ref pe0), v7, v8, v9, v10] ∧ Same H Hx ∧ Hx pe0 = some (.lst vs) ∧ Paired (IsEnK Hx) vs es ∧ es.length = i ∧ ∀ e ∈ es, e.2.length ≤ 12) := ⟨_, rfl⟩
    refine ⟨by omega, by omega, for_range (lo := 0) (n := (ps.length : Int).toNat) Pv (by rw [hPv]; exact ⟨[], [], none, none, none, none, rfl, s0, hpe0, .nil, rfl, fun e he => by cases he⟩) (fun i σ Hx hi pv => ?_) (fun σ Hx pv => ?_)⟩
    · rw [hPv] at pv
      obtain ⟨vs, es, v7, v8, v9, v10, rfl, sx, hpe, pe, el, e12⟩ := pv
      rw [Int.zero_add]
      have hi2 : i < prs.length := by omega
      obtain ⟨d, gd⟩ : ∃ d, prs[i]? = some d := ⟨_, List.getElem?_eq_getElem hi2⟩
      obtain ⟨vd, gv, td, rfl, htd⟩ := pget2 pp gd
      obtain ⟨dA, dB⟩ := pm d (List.mem_of_getElem? gd)
      have gn : ∀ j : Nat, j < ns.length → ∃ x, (ns.map V.int)[j]? = some (.int x) := fun j hj => ⟨ns[j], by rw [List.getElem?_map, List.getElem?_eq_getElem hj]; rfl⟩
      obtain ⟨x1, gx1⟩ := gn (2 * i) (by omega)
      obtain ⟨x2, gx2⟩ := gn (2 * i + 1) (by omega)
      walk_at "rd"
      have cm : ∀ z : Int, CMul 2 (i : Int) := fun _ => .inl ⟨by decide, by decide⟩
      refine ⟨.inl ⟨by decide, by decide⟩, _, SqL.of (sx _ _ hn), .int x1, at_of (j := 2 * i) (by omega) gx1, .inl ⟨by decide, by decide⟩, _, SqL.of (sx _ _ hn), .int x2, at_of (j := 2 * i + 1) (by omega) gx2, x2, rfl, .inl ⟨by decide, by decide⟩, x1, rfl, by decide, fun hd nhd => ?_⟩
      have t1 := same_upd (o := HO.lst []) nhd
      have hhd := upd_same (H := Hx) (a := hd) (o := HO.lst [])
      generalize upd Hx hd (HO.lst []) = G1 at t1 hhd ⊢
      generalize x1 + 997 * x2 = rest
      have u1 := sx.trans t1
      have gp : ∀ {Hy : Hp}, Same H Hy → SqL K Hy p ps ∧ atI ps (i : Int) = some (.ref td) ∧ SqT K Hy td [.int d.1, .int d.2] := fun {Hy} sy => ⟨SqL.of (sy _ _ hp), atI_nat gv, SqT.of (sy _ _ htd)⟩
      refine for_iterW ?_
      walk_at "rd"
      refine ⟨ps, (gp u1).1, .ref td, atI_nat gv, o, q, td, A, B, r, d.1, d.2, [], rfl, u1 _ _ ho, u1 _ _ hq, al, bl, u1 _ _ htd, dA, dB, r12, fun hz G2 t2 nhz hhz => ?_⟩
      have hl12 := hall_len r A B d.1 d.2
      have u2 := u1.trans t2
      have inR : ∀ x ∈ hallF r A B d.1 d.2, 0 ≤ x ∧ x < r := fun x hx => (hall_mem.mp hx).1
      refine ⟨l, hz, us, D, hallF r A B d.1 d.2, rfl, u2 _ _ hl, pl.kt (KT.same u2), .inl (SqL.of hhz), by omega, fun x hx => (inR x hx).1, fun L ws tl G3 pcs t3 ntl htl rl => ?_⟩
      have u3 := u2.trans t3
      have hhd3 := t3 _ _ (t2 _ _ hhd)
      have hpe3 := t3 _ _ (t2 _ _ (t1 _ _ hpe))
      have flat := pcs_flat pcs inR
      have wl := rl.len
      have pe3 := Paired.mapP pe fun v b h => h.kt (KT.same (t1.trans (t2.trans t3)))
      have nhdH := sx.free nhd
      refine ⟨tl, rfl, ⟨_, SqL.of htl⟩, ?_⟩
      obtain ⟨Pw, hPw⟩ : ∃ Pw : Nat → L2.St → Hp → Prop, Pw = (fun j σ Hy => ∃ (z : Int) (v10 : Option V) (sub : List (List Int)), σ = [some (.ref l), some (.int r), some (.ref o), some (.ref q), some (.ref p), some (.ref n), some (.ref pe0), some (.int (i : Nat)), some (.int z), some (.ref hd), v10] ∧ (∀ b o, b ≠ hd → G3 b = some o → Hy b = some o) ∧ Hy hd = some (.lst (sub.flatten.map V.int)) ∧ sub.Sublist (L.take j)) := ⟨_, rfl⟩
      have keepH : ∀ {Hy : Hp}, (∀ b o, b ≠ hd → G3 b = some o → Hy b = some o) → Same H Hy := fun {Hy} k b o e => k b o (ne_of_none e nhdH) (u3 b o e)
      have nhl : tl ≠ hd := fun z => by
        rw [z, hhd3] at htl
        have h1 := HO.lst.inj (Option.some.inj htl)
        have h2 : ws.length = 0 := by rw [← h1]; rfl
        rw [z] at ntl
        exact absurd ((t2 _ _ hhd)) (by rw [ntl]; exact fun z => by cases z)
      refine for_list (K := K) (a := tl) (xs := ws) Pw (by rw [hPw]; exact ⟨rest, v10, [], rfl, fun _ _ _ e => e, hhd3, List.Sublist.slnil⟩) (fun j σ Hy _ pw => by rw [hPw] at pw; obtain ⟨_, _, _, _, k, _⟩ := pw; exact SqL.of (k _ _ nhl htl)) (fun j v σ Hy gw pw => ?_) (fun σ Hy pw => ?_)
      · rw [hPw] at pw
        obtain ⟨z, v10, sub, rfl, keep, hhy, sl⟩ := pw
        obtain ⟨ys, gy, ty, rfl, hty⟩ := pget rl gw
        have sy := keepH keep
        have nty : ty ≠ hd := fun z => by
          rw [z, hhd3] at hty
          cases hty
        have hty2 := keep _ _ nty hty
        have tk : L.take (j + 1) = L.take j ++ [ys] := by rw [List.take_add_one, gy]; rfl
        have fin : ∀ (sub2 : List (List Int)) (Hz : Hp), (∀ b o, b ≠ hd → G3 b = some o → Hz b = some o) → Hz hd = some (.lst (sub2.flatten.map V.int)) → sub2.Sublist (L.take (j + 1)) → ∀ z2 : Int, Pw (j + 1) [some (.ref l), some (.int r), some (.ref o), some (.ref q), some (.ref p), some (.ref n), some (.ref pe0), some (.int (i : Nat)), some (.int z2), some (.ref hd), some (.ref ty)] Hz := fun sub2 Hz k1 k2 k3 z2 => by
          rw [hPw]
          exact ⟨z2, _, sub2, rfl, k1, k2, k3⟩
        have ext : rExtendT K (.ref hd) [.ref ty] Hy fun x H1 => CDiv z 2 ∧ Pw (j + 1) [some (.ref l), some (.int r), some (.ref o), some (.ref q), some (.ref p), some (.ref n), some (.ref pe0), some (.int (i : Nat)), some (.int (z / 2)), some (.ref hd), some (.ref ty)] H1 := by
          have sl3 : (sub ++ [ys]).Sublist (L.take (j + 1)) := by rw [tk]; exact sl.append (List.Sublist.refl _)
          have b1 := sub_flat (sl3.trans (List.take_sublist _ _))
          rw [List.flatten_append, List.length_append] at b1
          have b2 : [ys].flatten = ys := by simp
          rw [b2] at b1
          refine ⟨hd, ty, _, _, rfl, rfl, hhy, SqT.of hty2, Nat.le_of_lt (len_big (by rw [List.length_map, List.length_map]; omega)), ⟨by decide, by decide⟩, fin (sub ++ [ys]) _ (fun b o ne e => by rw [upd_ne ne]; exact keep b o ne e) ?_ sl3 _⟩
          rw [upd_same, List.flatten_append, b2, List.map_append]
        have skp : Pw (j + 1) [some (.ref l), some (.int r), some (.ref o), some (.ref q), some (.ref p), some (.ref n), some (.ref pe0), some (.int (i : Nat)), some (.int (z / 2)), some (.ref hd), some (.ref ty)] Hy := fin sub Hy keep hhy (by rw [tk]; exact sl.trans (List.sublist_append_left _ _)) _
        have tyL : tyV K "list" (.ref hd) Hy := .inl ⟨rfl, _, SqL.of hhy⟩
        obtain ⟨g1, g2, g3⟩ := gp sy
        have isF : ∀ (v : Int) (Qz : VK), Qz (.bl (decide (v ∈ ys))) Hy → rIn K false (V.int v) (V.ref ty) Hy Qz := fun v Qz qz => ⟨ty, ys.map V.int, rfl, .inr (SqT.of hty2), rfl, flI _, by rw [inI, if_neg (by decide)]; exact qz⟩
        have isT : ∀ (v : Int) (Qz : VK), Qz (.bl (!decide (v ∈ ys))) Hy → rIn K true (V.int v) (V.ref ty) Hy Qz := fun v Qz qz => ⟨ty, ys.map V.int, rfl, .inr (SqT.of hty2), rfl, flI _, by rw [inI, if_pos rfl]; exact qz⟩
        walk_at "rd"
        refine ⟨ps, g1, .ref td, g2, td, rfl, _, g3, .int d.1, rfl, isF _ _ ⟨_, rfl, ?_⟩⟩
        by_cases c1 : d.1 ∈ ys
        · rw [decide_eq_true c1, if_pos rfl, if_pos trivial]
          exact ⟨tyL, ext⟩
        rw [decide_eq_false c1, if_neg (by decide)]
        refine ⟨by decide, ?_⟩
        by_cases c2 : z % 2 = 1
        · rw [if_pos c2]
          refine ⟨ps, g1, .ref td, g2, td, rfl, _, g3, .int d.2, rfl, isT _ _ ⟨_, rfl, ?_⟩⟩
          by_cases c3 : d.2 ∈ ys
          · rw [decide_eq_true c3, if_neg (show ¬ (!true) = true by decide)]
            exact ⟨⟨by decide, by decide⟩, skp⟩
          · rw [decide_eq_false c3, if_pos (show (!false) = true from rfl)]
            exact ⟨tyL, ext⟩
        · rw [if_neg c2, if_neg id]
          exact ⟨⟨by decide, by decide⟩, skp⟩
      · rw [hPw] at pw
        obtain ⟨z, v10, sub, rfl, keep, hhy, sl⟩ := pw
        have sy := keepH keep
        have sl2 := sub_flat (sl.trans (List.take_sublist _ _))
        walk_at "rd"
        obtain ⟨g1, g2, g3⟩ := gp sy
        have nph : pe0 ≠ hd := fun z => by
          rw [z] at hpe
          rw [nhd] at hpe
          cases hpe
        have hpeY := keep _ _ nph hpe3
        have ktG : KT G3 Hy := fun b xs e => keep b _ (fun z => by rw [z, hhd3] at e; cases e) e
        have peY := Paired.mapP pe3 fun v b h => h.kt ktG
        have vl := pe.length
        refine ⟨.inl ⟨rfl, _, SqL.of hpeY⟩, ps, g1, .ref td, g2, td, rfl, _, g3, .int d.1, rfl, ps, g1, .ref td, g2, td, rfl, _, g3, .int d.2, rfl, hd, sub.flatten, rfl, SqL.of hhy, fun ns2 p4 pm2 so np4 => ⟨p4, rfl, ns2.map V.int, .inl ⟨SqL.of upd_same, fun l5 nl5 => ⟨by decide, fun t6 nt6 => ?_⟩⟩⟩⟩
        have w1 := same_upd (o := HO.lst (ns2.map V.int)) np4
        generalize upd Hy p4 (HO.lst (ns2.map V.int)) = Y1 at w1 nl5 nt6 ⊢
        have w2 := same_upd (o := HO.tup (ns2.map V.int)) nl5
        have hl5 := upd_same (H := Y1) (a := l5) (o := HO.tup (ns2.map V.int))
        generalize upd Y1 l5 (HO.tup (ns2.map V.int)) = Y2 at w2 hl5 nt6 ⊢
        have w3 := same_upd (o := HO.tup [V.int d.1, V.int d.2, V.ref l5]) nt6
        have ht6 := upd_same (H := Y2) (a := t6) (o := HO.tup [V.int d.1, V.int d.2, V.ref l5])
        generalize upd Y2 t6 (HO.tup [V.int d.1, V.int d.2, V.ref l5]) = Y3 at w3 ht6 ⊢
        have w13 := (w1.trans w2).trans w3
        have hpe9 := w13 _ _ hpeY
        have kt : KT Y3 (upd Y3 pe0 (HO.lst (vs ++ [V.ref t6]))) := KT.lst hpe9
        refine ⟨vs, hpe9, len_big (by omega), ?_⟩
        rw [hPv]
        refine ⟨vs ++ [.ref t6], es ++ [(d, ns2)], _, _, _, _, rfl, same_ch (sy.trans w13) npe, upd_same, Paired.snoc (Paired.mapP peY fun v b h => (h.kt (KT.same w13)).kt kt) ⟨t6, l5, rfl, kt _ _ ht6, kt _ _ (w3 _ _ hl5)⟩, by rw [List.length_append, el]; rfl, fun e he => ?_⟩
        rcases List.mem_append.mp he with he | he
        · exact e12 e he
        · rw [List.mem_singleton.mp he]
          show ns2.length ≤ 12
          rw [pm2.length_eq]
          omega
    · rw [hPv] at pv
      obtain ⟨vs, es, v7, v8, v9, v10, rfl, sx, hpe, pe, el, e12⟩ := pv
      walk_at "rd"
      exact ret es pe0 Hx sx npe ⟨⟨vs, hpe, pe⟩, by omega, e12⟩
end

/-! ### _law_drawn_entries -/
abbrev sDe : Stmt := topS 45
theorem cut_mid (l : List Int) (a b : Nat) (h1 : a ≤ b) (h2 : b ≤ l.length) : cutV (l.map V.int) (some ((a : Nat) : Int)) (some ((b : Nat) : Int)) = ((l.drop a).take (b - a)).map V.int := by
  unfold cutV
  rw [HT.sIx_nat, HT.sIx_nat, List.length_map, Nat.min_eq_left h2, Nat.min_eq_left (Nat.le_trans h1 h2), List.map_take, List.map_drop]
section
variable {P : Program} {w : World} {K : PySem.W.Frag} {mg : Str → Option Value} {base : Heap}
theorem scDe : FnScope ["cell", "rooms", "numbers", "many", "entries", "k", "drawn", "size", "n"] ["cell", "rooms"] (defScope sDe) := ⟨rfl, rfl, rfl, by decide +kernel, rfl, by decide +kernel, by decide +kernel⟩
def spDe : Sp := fun vs H Q _ => ∃ (c : Int) (r : Nat), vs = [.int c, .int r] ∧ 1 ≤ r ∧ ∀ (es : List (Pr × List Int)) (e : Addr) (H' : Hp), Same H H' → H e = none → Ents H' e es 70 17 → Q (.ref e) H'
theorem ok_de {f f1 : Addr} {fd fd1 : FuncData} (F : Fun K "_law_drawn_entries" "_law_drawn_entries" sDe f fd) (T : Bi mg) (d__law_numbers : Df P w K mg base "_law_numbers" ["cell", "count"] 1 (spNum K) f1 fd1) : FnOk P w K mg base CX0 2 f fd ["cell", "rooms"] spDe := by
  refine F.ok scDe (fun vs H Q E h => ?_) (fun cdv A0 outer s H vs Q E hr h => ?_)
  · obtain ⟨c, r, rfl, _⟩ := h
    rfl
  · obtain ⟨c, r, rfl, r1, ret⟩ := h
    refine ⟨_, (pss_cons (ps_set (i := 2) scDe.nd rfl (Or.inl rfl) (pe_call d__law_numbers.ok (hr.mono (by decide)) (by rfl) d__law_numbers.at_ d__law_numbers.kp d__law_numbers.b .nil pass0 (pa_cons (pv 0) (pa_cons pe_int pa_nil))))
      (pss_cons (ps_set (i := 3) scDe.nd rfl (Or.inl rfl) (pe_op op_mod (pe_callTy cr_intI (by rfl) T.int (by decide +kernel) (pa_cons (pe_ix ix_list (pv 2) pe_int (fun _ _ => rfl)) pa_nil)) pe_int))
      (pss_cons (ps_if (pt_cmpR op_eqI (pe_op op_mod (pe_callTy cr_intI (by rfl) T.int (by decide +kernel) (pa_cons (pe_ix ix_list (pv 2) pe_int (fun _ _ => rfl)) pa_nil)) pe_int) pe_int (nomark _))
      (pss_one (ps_set (i := 3) scDe.nd rfl (Or.inl rfl) (pe_op op_mod (pe_callTy cr_intI (by rfl) T.int (by decide +kernel) (pa_cons (pe_ix ix_list (pv 2) pe_int (fun _ _ => rfl)) pa_nil)) pe_int)))
      pss_nil)
      (pss_cons (ps_set (i := 2) scDe.nd rfl (Or.inl rfl) (pe_call d__law_numbers.ok (hr.mono (by decide)) (by rfl) d__law_numbers.at_ d__law_numbers.kp d__law_numbers.b .nil pass0 (pa_cons (pv 0) (pa_cons (pe_op op_add pe_int (pe_op op_mul pe_int (pv 3))) pa_nil))))
      (pss_cons (ps_set (i := 4) scDe.nd rfl (Or.inl rfl) (pe_lst pa_nil))
      (pss_cons (ps_for PassesOwn.never rfl (pi_range1 (by rfl) T.range (pa_cons (pv 3) pa_nil)) (pg_name (i := 5) scDe.nd rfl (Or.inl rfl))
      (pss_cons (ps_setLc (i := 6) (own := [("n", 8)]) (te := (tOp (rI (fun x j => 0 < j) fun i j => V.int (i % j)) (tCB (fun xs H Q => ∃ i, xs = [V.int i] ∧ Q (V.int i) H) (tCons (tVar 8) tNil)) (tVar 1))) (by rfl) scDe.nd rfl rfl (sw_true rfl rfl rfl (by decide +kernel)) (pi_list (pe_slice sl_list (pv 2) (po_some (pe_op op_add pe_int (pe_op op_mul pe_int (pv 5)))) (po_some (pe_op op_add pe_int (pe_op op_mul pe_int (pv 5)))))) (blkOk_by (N := ["cell", "rooms", "numbers", "many", "entries", "k", "drawn", "size", "n"]) (sc := defScope sDe) (by decide +kernel)) (fun _ _ _ _ _ => pg_name (i := 8) scDe.nd rfl (Or.inl rfl)) (fun _ _ _ _ _ => pts_nil) (fun _ _ _ _ _ => (pe_op op_mod (pe_callTy cr_intI (by rfl) T.int (by decide +kernel) (pa_cons (pv 8) pa_nil)) (pv 1))))
        (pss_cons (ps_set (i := 7) scDe.nd rfl (Or.inl rfl) (pe_op op_mod (pe_callTy cr_intI (by rfl) T.int (by decide +kernel) (pa_cons (pe_ix ix_list (pv 2) (pe_op op_add pe_int (pe_op op_mul pe_int (pv 5))) (fun _ _ => rfl)) pa_nil)) pe_int))
        (pss_one (ps_expr (pe_bm PySem.F.plainAttrs_list PySem.F.slot_list_append PySem.F.type_list_append mt_append (pv 4) (pa_cons (pe_tup (pa_cons (pe_ix ix_list (pv 6) pe_int (fun _ _ => rfl)) (pa_cons (pe_ix ix_list (pv 6) pe_int (fun _ _ => rfl)) (pa_cons (pe_callTy call_tuple_of (by rfl) T.tuple (by decide +kernel) (pa_cons (pe_slice sl_list (pv 6) (po_some pe_int) (po_some (pe_op op_add pe_int (pv 7)))) pa_nil)) pa_nil)))) pa_nil)))))))
      (pss_one (ps_ret (pv 4))))))))), ?_⟩
    refine sq2 fun N hN => ?_
    walk_at "rd"
    refine ⟨c, 2, rfl, by decide, fun ns p H1 N1 s1 np hp => ?_⟩
    have gN : ∀ j : Nat, j < 2 → ∃ x, (ns.map V.int)[j]? = some (.int x) := fun j hj => ⟨ns[j]'(by rw [N1.1]; exact hj), by rw [List.getElem?_map, List.getElem?_eq_getElem (by rw [N1.1]; exact hj)]; rfl⟩
    obtain ⟨n0, g0⟩ := gN 0 (by decide)
    obtain ⟨n1, g1⟩ := gN 1 (by decide)
    refine ⟨p, rfl, _, SqL.of hp, .int n0, at_of (j := 0) rfl g0, n0, rfl, by decide, ?_⟩
    refine hN _ _ ?_
    clear hN N
    refine sq1 fun N hN => ?_
    have tail : ∀ m : Nat, m ≤ 70 → N [some (.int c), some (.int r), some (.ref p), some (.int m), none, none, none, none, none] H1 := fun m m70 => by
      refine hN _ _ ?_
      clear hN N
      walk_at "rd"
      have e17 : (2 : Int) + 17 * (m : Int) = ((2 + 17 * m : Nat) : Int) := by omega
      refine ⟨.inl ⟨by decide, by decide⟩, c, 2 + 17 * m, by rw [e17], by omega, fun ms q H2 N2 s2 nq hq => ⟨by decide, fun pe0 npe => ?_⟩⟩
      have s12 := s1.trans s2
      have t0 := same_upd (o := HO.lst []) npe
      have hpe0 := upd_same (H := H2) (a := pe0) (o := HO.lst [])
      have hq0 := t0 _ _ hq
      generalize upd H2 pe0 (HO.lst []) = H0 at t0 hpe0 hq0 ⊢
      have s10 := s12.trans t0
      have npH := s12.free npe
      have ml : ms.length = 2 + 17 * m := N2.1
      refine for_iterW ?_
      unfold iRng1
      walk_at "rd"
      obtain ⟨Pv, hPv⟩ : ∃ Pv : Nat → L2.St → Hp → Prop, Pv = (fun i σ Hx => ∃ (vs : List V) (es : List (Pr × List Int)) (v5 v6 v7 : Option V), σ = [some (.int c), some (.int r), some (.ref q), some (.int m), some (.ref pe0), v5, v6, v7, none] ∧ Same H2 Hx ∧ Hx pe0 = some (.lst vs) ∧ Paired (IsEnK Hx) vs es ∧ es.length = i ∧ ∀ e ∈ es, e.2.length ≤ 17) := ⟨_, rfl⟩
      refine ⟨by omega, by omega, for_range (lo := 0) (n := (m : Int).toNat) Pv (by rw [hPv]; exact ⟨[], [], none, none, none, rfl, t0, hpe0, .nil, rfl, fun e he => by cases he⟩) (fun i σ Hx hi pv => ?_) (fun σ Hx pv => ?_)⟩
      · rw [hPv] at pv
        obtain ⟨vs, es, v5, v6, v7, rfl, sx, hpe, pe, el, e17'⟩ := pv
        rw [Int.zero_add]
        have hi2 : i < m := by omega
        have hqx := sx _ _ hq
        have eLo : (2 : Int) + 17 * (i : Int) = ((2 + 17 * i : Nat) : Int) := by omega
        have eHi : (19 : Int) + 17 * (i : Int) = ((19 + 17 * i : Nat) : Int) := by omega
        walk_at "rd"
        refine lcW ?_
        walk_at "rd"
        refine ⟨.inl ⟨by decide, by decide⟩, .inl ⟨by decide, by decide⟩, _, SqL.of hqx, fun a na => ?_⟩
        rw [eLo, eHi, cut_mid ms _ _ (by omega) (by omega), show 19 + 17 * i - (2 + 17 * i) = 17 by omega]
        have al : ((ms.drop (2 + 17 * i)).take 17).length = 17 := by rw [List.length_take, List.length_drop]; omega
        generalize (ms.drop (2 + 17 * i)).take 17 = as at al ⊢
        have t1 := same_upd (o := HO.lst (as.map V.int)) na
        have ha := upd_same (H := Hx) (a := a) (o := HO.lst (as.map V.int))
        generalize upd Hx a (HO.lst (as.map V.int)) = G1 at t1 ha ⊢
        walk_at "rd"
        refine ⟨⟨_, SqL.of ha⟩, gc_list IsI (fun _ _ _ _ h _ => h) (fun j => as[j]?.bind fun x => some (x % (r : Int))) ha (by rw [List.length_map]; omega) (fun j x Hy A' B' gx sy hA hB => ?_) fun o ys G2 t2 no ho pr => ?_⟩
        · rw [List.getElem?_map] at gx
          cases ge : as[j]? with
          | none => rw [ge] at gx; cases gx
          | some z =>
            rw [ge] at gx hA
            have gx := Option.some.inj gx
            subst gx
            walk_at "rd"
            rw [if_pos trivial]
            exact ⟨by omega, hA _ (z % (r : Int)) Hy rfl (Same.refl _) rfl⟩
        · have e1 := isI_map pr
          rw [List.length_map, fm_range (L := as) (fun x => some (x % (r : Int))), List.filterMap_eq_map'] at e1
          rw [e1] at ho
          have bl : (as.map fun x => x % (r : Int)).length = 17 := by rw [List.length_map]; exact al
          generalize as.map (fun x => x % (r : Int)) = bs at bl ho
          have u2 := t1.trans t2
          have hq2 := u2 _ _ hqx
          have gb : ∀ j : Nat, j < 17 → ∃ x, (bs.map V.int)[j]? = some (.int x) := fun j hj => ⟨bs[j]'(by omega), by rw [List.getElem?_map, List.getElem?_eq_getElem (by omega)]; rfl⟩
          obtain ⟨b0, gb0⟩ := gb 0 (by decide)
          obtain ⟨b1, gb1⟩ := gb 1 (by decide)
          obtain ⟨m4, gm4⟩ : ∃ x, (ms.map V.int)[4 + 17 * i]? = some (.int x) := ⟨ms[4 + 17 * i]'(by omega), by rw [List.getElem?_map, List.getElem?_eq_getElem (by omega)]; rfl⟩
          have z0 := Int.emod_nonneg m4 (show (15 : Int) ≠ 0 by decide)
          have z1 := Int.emod_lt_of_pos m4 (show (0 : Int) < 15 by decide)
          obtain ⟨sz, esz⟩ : ∃ k : Nat, m4 % 15 = k := ⟨(m4 % 15).toNat, by omega⟩
          refine ⟨.inl ⟨by decide, by decide⟩, _, SqL.of hq2, .int m4, at_of (j := 4 + 17 * i) (by omega) gm4, m4, rfl, by decide, .inl ⟨rfl, _, SqL.of (u2 _ _ hpe)⟩, o, rfl, _, SqL.of ho, .int b0, at_of (j := 0) rfl gb0, o, rfl, _, SqL.of ho, .int b1, at_of (j := 1) rfl gb1, o, rfl, _, SqL.of ho, fun p5 np5 => ?_⟩
          rw [esz, show (some (3 : Int)) = some (((3 : Nat) : Int)) from rfl, show (3 : Int) + (sz : Int) = ((3 + sz : Nat) : Int) by omega, cut_mid bs 3 (3 + sz) (by omega) (by omega)]
          have cl : ((bs.drop 3).take (3 + sz - 3)).length ≤ 17 := by rw [List.length_take, List.length_drop]; omega
          generalize (bs.drop 3).take (3 + sz - 3) = cs at cl ⊢
          have w1 := same_upd (o := HO.lst (cs.map V.int)) np5
          refine ⟨cs.map V.int, .inl ⟨SqL.of upd_same, fun l6 nl6 => ⟨by decide, fun t6 nt6 => ?_⟩⟩⟩
          generalize upd G2 p5 (HO.lst (cs.map V.int)) = Y1 at w1 nl6 nt6 ⊢
          have w2 := same_upd (o := HO.tup (cs.map V.int)) nl6
          have hl6 := upd_same (H := Y1) (a := l6) (o := HO.tup (cs.map V.int))
          generalize upd Y1 l6 (HO.tup (cs.map V.int)) = Y2 at w2 hl6 nt6 ⊢
          have w3 := same_upd (o := HO.tup [V.int b0, V.int b1, V.ref l6]) nt6
          have ht6 := upd_same (H := Y2) (a := t6) (o := HO.tup [V.int b0, V.int b1, V.ref l6])
          generalize upd Y2 t6 (HO.tup [V.int b0, V.int b1, V.ref l6]) = Y3 at w3 ht6 ⊢
          have uY := u2.trans ((w1.trans w2).trans w3)
          have hpe9 := uY _ _ hpe
          have kt : KT Y3 (upd Y3 pe0 (HO.lst (vs ++ [V.ref t6]))) := KT.lst hpe9
          have vl := pe.length
          refine ⟨vs, hpe9, len_big (by omega), ?_⟩
          rw [hPv]
          refine ⟨vs ++ [.ref t6], es ++ [((b0, b1), cs)], _, _, _, rfl, same_ch (sx.trans uY) npe, upd_same, Paired.snoc (Paired.mapP pe fun v b h => (h.kt (KT.same uY)).kt kt) ⟨t6, l6, rfl, kt _ _ ht6, kt _ _ (w3 _ _ hl6)⟩, by rw [List.length_append, el]; rfl, fun e he => ?_⟩
          rcases List.mem_append.mp he with he | he
          · exact e17' e he
          · rw [List.mem_singleton.mp he]
            exact cl
      · rw [hPv] at pv
        obtain ⟨vs, es, v5, v6, v7, rfl, sx, hpe, pe, el, e17'⟩ := pv
        walk_at "rd"
        exact ret es pe0 Hx (s12.trans sx) npH ⟨⟨vs, hpe, pe⟩, by omega, e17'⟩
    walk_at "rd"
    have m4 := Int.emod_nonneg n0 (show (4 : Int) ≠ 0 by decide)
    have m4' := Int.emod_lt_of_pos n0 (show (0 : Int) < 4 by decide)
    have m70 := Int.emod_nonneg n0 (show (70 : Int) ≠ 0 by decide)
    have m70' := Int.emod_lt_of_pos n0 (show (0 : Int) < 70 by decide)
    obtain ⟨k4, ek4⟩ : ∃ k : Nat, n0 % 4 = k := ⟨(n0 % 4).toNat, by omega⟩
    obtain ⟨k70, ek70⟩ : ∃ k : Nat, n0 % 70 = k := ⟨(n0 % 70).toNat, by omega⟩
    refine ⟨_, SqL.of hp, .int n1, at_of (j := 1) rfl g1, n1, rfl, by decide, ite2 (fun _ => ?_) (fun _ => ?_)⟩
    · refine ⟨_, SqL.of hp, .int n0, at_of (j := 0) rfl g0, n0, rfl, by decide, ?_⟩
      rw [ek70]
      exact tail k70 (by omega)
    · rw [ek4]
      exact tail k4 (by omega)
end

/-! ### _law_changed -/
abbrev sCg : Stmt := topS 44
theorem catA_ok {K : PySem.W.Frag} {H : Hp} {a b : Addr} {xs ys : List Int} {Q : VK} (ha : H a = some (.tup (xs.map V.int))) (hb : H b = some (.tup (ys.map V.int))) (len : xs.length + ys.length ≤ 1000) (q : ∀ (t2 : Addr) (H' : Hp), Same H H' → H' t2 = some (.tup ((xs ++ ys).map V.int)) → Q (.ref t2) H') : rCatA K (.ref a) (.ref b) H Q := by
  refine ⟨a, b, _, _, rfl, rfl, SqT.of ha, SqT.of hb, by rw [List.length_map, List.length_map]; exact Nat.le_of_lt (len_big (by omega)), fun e => q b H (Same.refl _) ?_, fun _ e => q a H (Same.refl _) ?_, fun _ _ p np => q p _ (same_upd np) ?_⟩
  · rw [List.map_eq_nil_iff.mp e]
    exact hb
  · rw [List.map_eq_nil_iff.mp e, List.append_nil]
    exact ha
  · rw [List.map_append, upd_same]
theorem cut_end (l : List Int) : cutV (l.map V.int) (some (-1)) none = (l.drop (l.length - 1)).map V.int := by
  have e : HT.sIx (l.map V.int).length 0 (some (-1)) = l.length - 1 := by
    show (if (-1 : Int) < 0 then ((-1 : Int) + ((l.map V.int).length : Int)).toNat else min (-1 : Int).toNat (l.map V.int).length) = _
    rw [if_pos (by decide), List.length_map]
    omega
  unfold cutV
  rw [e, HT.sIx_none, List.length_map, List.map_drop, List.take_of_length_le (by rw [List.length_drop, List.length_map]; exact Nat.le_refl _)]
theorem if_or {c k X N : Prop} [Decidable c] [Decidable k] (h : c ∨ k → X) (g : ¬ c → ¬ k → N) : if c then (if True then X else N) else (if k then X else N) := by
  by_cases h1 : c
  · rw [if_pos h1, if_pos trivial]
    exact h (.inl h1)
  · rw [if_neg h1]
    by_cases h2 : k
    · rw [if_pos h2]
      exact h (.inr h2)
    · rw [if_neg h2]
      exact g h1 h2
section
variable {P : Program} {w : World} {K : PySem.W.Frag} {mg : Str → Option Value} {base : Heap}
theorem scCg : FnScope ["entries", "numbers", "rooms", "kind", "room", "at", "x", "y", "held", "entry", "r"] ["entries", "numbers", "rooms"] (defScope sCg) := ⟨rfl, rfl, rfl, by decide +kernel, rfl, by decide +kernel, by decide +kernel⟩
def spCg : Sp := fun vs H Q _ => ∃ (c n : Addr) (es : List (Pr × List Int)) (a b r : Nat) (ns : List Int), vs = [.ref c, .ref n, .int r] ∧ Ents H c es a b ∧ a ≤ 500 ∧ b ≤ 40 ∧ 12 ≤ b ∧ H n = some (.lst (ns.map V.int)) ∧ 4 ≤ ns.length ∧ 1 ≤ r ∧ r ≤ 12 ∧ ∀ (es2 : List (Pr × List Int)) (d : Addr) (H' : Hp), Same H H' → H d = none → Ents H' d es2 (a + 1) (b + 1) → Q (.ref d) H'
theorem ok_cg {f : Addr} {fd : FuncData} (F : Fun K "_law_changed" "_law_changed" sCg f fd) (T : Bi mg) : FnOk P w K mg base CX0 1 f fd ["entries", "numbers", "rooms"] spCg := by
  refine F.ok scCg (fun vs H Q E h => ?_) (fun cdv A0 outer s H vs Q E hr h => ?_)
  · obtain ⟨c, n, es, a, b, r, ns, rfl, _⟩ := h
    rfl
  · obtain ⟨c, n, es, a, b, r, ns, rfl, hc, a5, b4, b12, hn, n4, r1, r12, ret⟩ := h
    refine ⟨_, (pss_cons (ps_set (i := 3) scCg.nd rfl (Or.inl rfl) (pe_op op_mod (pe_callTy cr_intI (by rfl) T.int (by decide +kernel) (pa_cons (pe_ix ix_list (pv 1) pe_int (fun _ _ => rfl)) pa_nil)) pe_int))
      (pss_cons (ps_set (i := 4) scCg.nd rfl (Or.inr rfl) (pe_op op_mod (pe_callTy cr_intI (by rfl) T.int (by decide +kernel) (pa_cons (pe_ix ix_list (pv 1) pe_int (fun _ _ => rfl)) pa_nil)) (pv 2)))
      (pss_cons (ps_if (PW.pt (pw_or (pt_cmpR op_eqI (pe_callB call_len_seq (by rfl) T.len (by decide +kernel) (pa_cons (pv 0) pa_nil)) pe_int (nomark _)) (pw_or1 (pt_cmpR op_eqI (pv 3) pe_int (nomark _)))))
      (pss_cons (ps_set (i := 5) scCg.nd rfl (Or.inl rfl) (pe_op op_mod (pe_callTy cr_intI (by rfl) T.int (by decide +kernel) (pa_cons (pe_ix ix_list (pv 1) pe_int (fun _ _ => rfl)) pa_nil)) (pe_op op_add (pe_callB call_len_seq (by rfl) T.len (by decide +kernel) (pa_cons (pv 0) pa_nil)) pe_int)))
        (pss_one (ps_ret (pe_op op_cat (pe_op op_cat (pe_slice sl_list (pv 0) po_none (po_some (pv 5))) (pe_lst (pa_cons (pe_tup (pa_cons (pv 4) (pa_cons (pe_op op_mod (pe_callTy cr_intI (by rfl) T.int (by decide +kernel) (pa_cons (pe_ix ix_list (pv 1) pe_int (fun _ _ => rfl)) pa_nil)) (pv 2)) (pa_cons (pe_tup (pa_cons (pv 4) pa_nil)) pa_nil)))) pa_nil))) (pe_slice sl_list (pv 0) (po_some (pv 5)) po_none)))))
      pss_nil)
      (pss_cons (ps_set (i := 5) scCg.nd rfl (Or.inl rfl) (pe_op op_mod (pe_callTy cr_intI (by rfl) T.int (by decide +kernel) (pa_cons (pe_ix ix_list (pv 1) pe_int (fun _ _ => rfl)) pa_nil)) (pe_callB call_len_seq (by rfl) T.len (by decide +kernel) (pa_cons (pv 0) pa_nil))))
      (pss_cons (ps_asg (pe_ix ix_list (pv 0) (pv 5) (fun _ _ => rfl)) (pg_tup rfl (pgs_cons (pg_name (i := 6) scCg.nd rfl (Or.inl rfl)) (pgs_cons (pg_name (i := 7) scCg.nd rfl (Or.inl rfl)) (pgs_cons (pg_name (i := 8) scCg.nd rfl (Or.inr rfl)) pgs_nil)))))
      (pss_cons (ps_if (pt_cmpR op_eqI (pv 3) pe_int (nomark _))
      (pss_one (ps_ret (pe_op op_cat (pe_slice sl_list (pv 0) po_none (po_some (pv 5))) (pe_slice sl_list (pv 0) (po_some (pe_op op_add (pv 5) pe_int)) po_none))))
      pss_nil)
      (pss_cons (ps_if (pt_cmpR op_eqI (pv 3) pe_int (nomark _))
      (pss_one (ps_ret (pe_op op_cat (pe_slice sl_list (pv 0) po_none (po_some (pe_op op_add (pv 5) pe_int))) (pe_slice sl_list (pv 0) (po_some (pv 5)) po_none))))
      pss_nil)
      (pss_cons (ps_set (i := 9) scCg.nd rfl (Or.inl rfl) (pe_tup (pa_cons (pv 6) (pa_cons (pv 7) (pa_cons (pe_callTy call_tuple_of (by rfl) T.tuple (by decide +kernel) (pa_cons (pe_lc (own := [("r", 10)]) (tt := tTest (tOp rNe (tOp (rIn K false) (tVar 10) (tVar 8)) (tOp (rI0 fun i j => V.bl (decide (i = j))) (tVar 10) (tVar 4)))) (te := tVar 10) (by rfl) scCg.nd (pi_range1 (by rfl) T.range (pa_cons (pv 2) pa_nil)) (blkOk_by (N := ["entries", "numbers", "rooms", "kind", "room", "at", "x", "y", "held", "entry", "r"]) (sc := defScope sCg) (by decide +kernel)) (fun _ _ _ _ _ => pg_name (i := 10) scCg.nd rfl (Or.inl rfl)) (fun _ _ _ _ _ => (pts_one (pt_cmpR op_ne (pe_cmpR op_in_seq (pv 10) (pv 8) (by rfl)) (pe_cmpR op_eqI (pv 10) (pv 4) (nomark _)) (nomark _)))) (fun _ _ _ _ _ => (pv 10))) pa_nil)) pa_nil)))))
      (pss_cons (ps_if (pt_cmpR op_eqI (pv 3) pe_int (nomark _))
      (pss_one (ps_set (i := 9) scCg.nd rfl (Or.inl rfl) (pe_tup (pa_cons (pv 6) (pa_cons (pv 7) (pa_cons (pe_revT (pv 8)) pa_nil))))))
      pss_nil)
      (pss_cons (ps_if (pt_cmpR op_eqI (pv 3) pe_int (nomark _))
      (pss_one (ps_set (i := 9) scCg.nd rfl (Or.inl rfl) (pe_tup (pa_cons (pv 7) (pa_cons (pv 6) (pa_cons (pv 8) pa_nil))))))
      pss_nil)
      (pss_cons (ps_if (pt_cmpR op_eqI (pv 3) pe_int (nomark _))
      (pss_one (ps_set (i := 9) scCg.nd rfl (Or.inl rfl) (pe_tup (pa_cons (pv 6) (pa_cons (pv 7) (pa_cons (pe_op (show OpR _ (binaryOp .Add) (rCatA K) from op_catA) (pv 8) (pe_slice (show SlR _ (rSlA K) from sl_tupA) (pv 8) (po_some (pe_un un_neg pe_int)) po_none)) pa_nil))))))
      pss_nil)
      (pss_cons (ps_if (pt_cmpR op_eqI (pv 3) pe_int (nomark _))
      (pss_one (ps_set (i := 9) scCg.nd rfl (Or.inl rfl) (pe_tup (pa_cons (pv 6) (pa_cons (pv 7) (pa_cons (pe_tup pa_nil) pa_nil))))))
      pss_nil)
      (pss_cons (ps_if (pt_cmpR op_eqI (pv 3) pe_int (nomark _))
      (pss_one (ps_set (i := 9) scCg.nd rfl (Or.inl rfl) (pe_tup (pa_cons (pv 6) (pa_cons (pv 7) (pa_cons (pe_tupRg (by rfl) (by rfl) T.tuple (prg_1 (by rfl) T.range (pv 2))) pa_nil))))))
      pss_nil)
      (pss_one (ps_ret (pe_op op_cat (pe_op op_cat (pe_slice sl_list (pv 0) po_none (po_some (pv 5))) (pe_lst (pa_cons (pv 9) pa_nil))) (pe_slice sl_list (pv 0) (po_some (pe_op op_add (pv 5) pe_int)) po_none))))))))))))))))), ?_⟩
    refine sq2 fun N hN => ?_
    walk_at "rd"
    have gn : ∀ j : Nat, j < 4 → ∃ x, (ns.map V.int)[j]? = some (.int x) := fun j hj => ⟨ns[j]'(by omega), by rw [List.getElem?_map, List.getElem?_eq_getElem (by omega)]; rfl⟩
    obtain ⟨n0, g0⟩ := gn 0 (by decide)
    obtain ⟨n1, g1⟩ := gn 1 (by decide)
    obtain ⟨n2, g2⟩ := gn 2 (by decide)
    obtain ⟨n3, g3⟩ := gn 3 (by decide)
    refine ⟨_, SqL.of hn, .int n0, at_of (j := 0) rfl g0, n0, rfl, by decide, _, SqL.of hn, .int n2, at_of (j := 2) rfl g2, n2, rfl, by omega, ?_⟩
    refine hN _ _ ?_
    clear hN N
    obtain ⟨vs, hv, pe⟩ := hc.ex
    have vl := pe.length
    have el := hc.len
    have eh := hc.held
    have glue : ∀ (Hy : Hp) (p p3 te : Addr) (k j : Nat) (e0 : Pr × List Int), k ≤ j → Same H Hy → Hy p = some (.lst (vs.take k)) → Hy p3 = some (.lst [.ref te]) → IsEnK Hy (.ref te) e0 → e0.2.length ≤ b + 1 →
        rCat (V.ref p) (V.ref p3) Hy fun x5 H1 => ∃ x6, SqL K H1 c x6 ∧ ∀ p, H1 p = none → rCat x5 (V.ref p) (upd H1 p (HO.lst (cutV x6 (some (j : Int)) none))) Q := fun Hy p p3 te k j e0 kj sy hp hp3 he e0l => by
      have tl : (vs.take k).length ≤ vs.length := by rw [List.length_take]; omega
      have dl : (vs.drop j).length ≤ vs.length := by rw [List.length_drop]; omega
      refine ⟨p, p3, _, _, rfl, rfl, hp, hp3, Nat.le_of_lt (len_big (by show (vs.take k).length + 1 ≤ _; omega)), fun q4 n4 => ⟨vs, ?_⟩⟩
      have s1 := same_upd (o := HO.lst (vs.take k ++ [V.ref te])) n4
      have h4 := upd_same (H := Hy) (a := q4) (o := HO.lst (vs.take k ++ [V.ref te]))
      generalize upd Hy q4 (HO.lst (vs.take k ++ [V.ref te])) = Y1 at s1 h4 ⊢
      refine ⟨SqL.of (s1 _ _ (sy _ _ hv)), fun p5 n5 => ?_⟩
      rw [cut_drop]
      have s2 := same_upd (o := HO.lst (vs.drop j)) n5
      have h5 := upd_same (H := Y1) (a := p5) (o := HO.lst (vs.drop j))
      generalize upd Y1 p5 (HO.lst (vs.drop j)) = Y2 at s2 h5 ⊢
      refine ⟨q4, p5, _, _, rfl, rfl, s2 _ _ h4, h5, Nat.le_of_lt (len_big (by rw [List.length_append]; show (vs.take k).length + 1 + _ ≤ _; omega)), fun q6 n6 => ?_⟩
      have s3 := same_upd (o := HO.lst (vs.take k ++ [V.ref te] ++ vs.drop j)) n6
      have sA := sy.trans ((s1.trans s2).trans s3)
      have kt := KT.same ((s1.trans s2).trans s3)
      have pv := Paired.mapP pe fun v b h => h.kt (KT.same sA)
      refine ret (es.take k ++ [e0] ++ es.drop j) q6 _ sA ((sy.trans (s1.trans s2)).free n6) ⟨⟨_, upd_same, paired_append (paired_append (paired_take pv k) (.cons (he.kt kt) .nil)) (paired_drop pv j)⟩, ?_, fun e hm => ?_⟩
      · rw [List.length_append, List.length_append, List.length_take, List.length_drop]
        show min k es.length + 1 + _ ≤ _
        omega
      · rcases List.mem_append.mp hm with hm | hm
        · rcases List.mem_append.mp hm with hm | hm
          · exact Nat.le_trans (eh e (List.mem_of_mem_take hm)) (Nat.le_succ _)
          · rw [List.mem_singleton.mp hm]
            exact e0l
        · exact Nat.le_trans (eh e (List.mem_of_mem_drop hm)) (Nat.le_succ _)
    refine sq1 fun N hN => ?_
    have tail : es ≠ [] → N [some (.ref c), some (.ref n), some (.int r), some (.int (n0 % 12)), some (.int (n2 % (r : Int))), none, none, none, none, none, none] H := fun ne => by
      refine hN _ _ ?_
      clear hN N
      refine sq2 fun N hN => ?_
      walk_at "rd"
      have ep : 0 < vs.length := by rw [vl]; exact List.length_pos_iff.mpr ne
      have m0 := Int.emod_nonneg n1 (show (vs.length : Int) ≠ 0 by omega)
      have m1 := Int.emod_lt_of_pos n1 (show (0 : Int) < (vs.length : Int) by omega)
      obtain ⟨k, ek⟩ : ∃ k : Nat, n1 % (vs.length : Int) = k := ⟨(n1 % (vs.length : Int)).toNat, by omega⟩
      have kl : k < vs.length := by omega
      obtain ⟨v, gv⟩ : ∃ v, vs[k]? = some v := ⟨_, List.getElem?_eq_getElem kl⟩
      obtain ⟨e, ge, te, ue, rfl, hte, hue⟩ := pget pe gv
      have me := List.mem_of_getElem? ge
      refine ⟨_, SqL.of hn, .int n1, at_of (j := 1) rfl g1, n1, rfl, vs, .inl (SqL.of hv), by omega, vs, SqL.of hv, .ref te, at_of ek gv, te, rfl, _, SqT.of hte, rfl, _, _, rfl, _, _, rfl, _, _, rfl, rfl, ?_⟩
      rw [ek]
      refine hN _ _ ?_
      clear hN N
      -- two stretches of the entries, glued
      have glue2 : ∀ (i j : Nat), i ≤ j + 1 → ∃ x, SqL K H c x ∧ ∀ p, H p = none → ∃ x1, SqL K (upd H p (HO.lst (cutV x none (some (i : Int))))) c x1 ∧ ∀ p1, upd H p (HO.lst (cutV x none (some (i : Int)))) p1 = none → rCat (V.ref p) (V.ref p1) (upd (upd H p (HO.lst (cutV x none (some (i : Int))))) p1 (HO.lst (cutV x1 (some (j : Int)) none))) Q := fun i j ij => by
        refine ⟨vs, SqL.of hv, fun p np => ⟨vs, ?_⟩⟩
        rw [cut_takeQ]
        have s1 := same_upd (o := HO.lst (vs.take i)) np
        have hp := upd_same (H := H) (a := p) (o := HO.lst (vs.take i))
        generalize upd H p (HO.lst (vs.take i)) = Y1 at s1 hp ⊢
        refine ⟨SqL.of (s1 _ _ hv), fun p1 np1 => ?_⟩
        rw [cut_drop]
        have s2 := same_upd (o := HO.lst (vs.drop j)) np1
        have h2 := upd_same (H := Y1) (a := p1) (o := HO.lst (vs.drop j))
        generalize upd Y1 p1 (HO.lst (vs.drop j)) = Y2 at s2 h2 ⊢
        have b1 : (vs.take i).length ≤ vs.length := by rw [List.length_take]; omega
        have b2 : (vs.drop j).length ≤ vs.length := by rw [List.length_drop]; omega
        refine ⟨p, p1, _, _, rfl, rfl, s2 _ _ hp, h2, Nat.le_of_lt (len_big (by omega)), fun q6 n6 => ?_⟩
        have s3 := same_upd (o := HO.lst (vs.take i ++ vs.drop j)) n6
        have sA := (s1.trans s2).trans s3
        have pv := Paired.mapP pe fun v b h => h.kt (KT.same sA)
        refine ret (es.take i ++ es.drop j) q6 _ sA ((s1.trans s2).free n6) ⟨⟨_, upd_same, paired_append (paired_take pv i) (paired_drop pv j)⟩, ?_, fun e hm => ?_⟩
        · rw [List.length_append, List.length_take, List.length_drop]
          omega
        · rcases List.mem_append.mp hm with hm | hm
          · exact Nat.le_trans (eh e (List.mem_of_mem_take hm)) (Nat.le_succ _)
          · exact Nat.le_trans (eh e (List.mem_of_mem_drop hm)) (Nat.le_succ _)
      refine sq2 fun N hN => ?_
      walk_at "rd"
      have k1e : ((k : Int) + 1) = ((k + 1 : Nat) : Int) := by omega
      rw [k1e]
      refine ite2 (fun _ => glue2 k (k + 1) (by omega)) (fun _ => ite2 (fun _ => glue2 (k + 1) k (by omega)) (fun _ => ?_))
      refine hN _ _ ?_
      clear hN N glue2
      have mk : ∀ (xx yy : Int) (Hy : Hp) (u : Addr) (L : List Int), Same H Hy → Hy u = some (.tup (L.map V.int)) → L.length ≤ b + 1 → ∀ N' : Addr → Hp → Prop, (∀ et e0 Hz, Same H Hz → IsEnK Hz (.ref et) e0 → e0.2.length ≤ b + 1 → N' et Hz) → 3 ≤ sizeLine ∧ ∀ p, Hy p = none → N' p (upd Hy p (HO.tup [.int xx, .int yy, .ref u])) := fun xx yy Hy u L sy hu hl N' hN' => by
        refine ⟨by decide, fun p np => ?_⟩
        have s1 := same_upd (o := HO.tup [V.int xx, V.int yy, V.ref u]) np
        exact hN' p ((xx, yy), L) _ (sy.trans s1) ⟨p, u, rfl, upd_same, s1 _ _ hu⟩ hl
      refine sq1 fun N hN => ?_
      have tail : ∀ (et : Addr) (e0 : Pr × List Int) (Hy : Hp), Same H Hy → IsEnK Hy (.ref et) e0 → e0.2.length ≤ b + 1 → N [some (.ref c), some (.ref n), some (.int r), some (.int (n0 % 12)), some (.int (n2 % (r : Int))), some (.int k), some (.int e.1.1), some (.int e.1.2), some (.ref ue), some (.ref et), none] Hy := fun et e0 Hy sy he e0l => by
        refine hN _ _ ?_
        clear hN N
        refine sq1 fun N hN => ?_
        have hueY := sy _ _ hue
        have eu := eh e me
        have tail : ∀ (et : Addr) (e0 : Pr × List Int) (Hy : Hp), Same H Hy → IsEnK Hy (.ref et) e0 → e0.2.length ≤ b + 1 → N [some (.ref c), some (.ref n), some (.int r), some (.int (n0 % 12)), some (.int (n2 % (r : Int))), some (.int k), some (.int e.1.1), some (.int e.1.2), some (.ref ue), some (.ref et), none] Hy := fun et e0 Hy sy he e0l => by
          refine hN _ _ ?_
          clear hN N
          refine sq1 fun N hN => ?_
          have hueY := sy _ _ hue
          have tail : ∀ (et : Addr) (e0 : Pr × List Int) (Hy : Hp), Same H Hy → IsEnK Hy (.ref et) e0 → e0.2.length ≤ b + 1 → N [some (.ref c), some (.ref n), some (.int r), some (.int (n0 % 12)), some (.int (n2 % (r : Int))), some (.int k), some (.int e.1.1), some (.int e.1.2), some (.ref ue), some (.ref et), none] Hy := fun et e0 Hy sy he e0l => by
            refine hN _ _ ?_
            clear hN N
            refine sq1 fun N hN => ?_
            have hueY := sy _ _ hue
            have tail : ∀ (et : Addr) (e0 : Pr × List Int) (Hy : Hp), Same H Hy → IsEnK Hy (.ref et) e0 → e0.2.length ≤ b + 1 → N [some (.ref c), some (.ref n), some (.int r), some (.int (n0 % 12)), some (.int (n2 % (r : Int))), some (.int k), some (.int e.1.1), some (.int e.1.2), some (.ref ue), some (.ref et), none] Hy := fun et e0 Hy sy he e0l => by
              refine hN _ _ ?_
              clear hN N
              refine sq1 fun N hN => ?_
              have hueY := sy _ _ hue
              have tail : ∀ (et : Addr) (e0 : Pr × List Int) (Hy : Hp), Same H Hy → IsEnK Hy (.ref et) e0 → e0.2.length ≤ b + 1 → N [some (.ref c), some (.ref n), some (.int r), some (.int (n0 % 12)), some (.int (n2 % (r : Int))), some (.int k), some (.int e.1.1), some (.int e.1.2), some (.ref ue), some (.ref et), none] Hy := fun et e0 Hy sy he e0l => by
                refine hN _ _ ?_
                clear hN N
                refine sq1 fun N hN => ?_
                have hueY := sy _ _ hue
                have tail : ∀ (et : Addr) (e0 : Pr × List Int) (Hy : Hp), Same H Hy → IsEnK Hy (.ref et) e0 → e0.2.length ≤ b + 1 → N [some (.ref c), some (.ref n), some (.int r), some (.int (n0 % 12)), some (.int (n2 % (r : Int))), some (.int k), some (.int e.1.1), some (.int e.1.2), some (.ref ue), some (.ref et), none] Hy := fun et e0 Hy sy he e0l => by
                  refine hN _ _ ?_
                  clear hN N
                  walk_at "rd"
                  refine ⟨vs, SqL.of (sy _ _ hv), fun p np => ⟨by decide, fun p1 np1 => ?_⟩⟩
                  rw [cut_takeQ] at np1 ⊢
                  have w1 := same_upd (o := HO.lst (vs.take k)) np
                  have hp := upd_same (H := Hy) (a := p) (o := HO.lst (vs.take k))
                  generalize upd Hy p (HO.lst (vs.take k)) = Y1 at w1 hp np1 ⊢
                  have w2 := same_upd (o := HO.lst [V.ref et]) np1
                  have h1 := upd_same (H := Y1) (a := p1) (o := HO.lst [V.ref et])
                  generalize upd Y1 p1 (HO.lst [V.ref et]) = Y2 at w2 h1 ⊢
                  rw [k1e]
                  exact glue Y2 p p1 et k (k + 1) e0 (Nat.le_succ _) (sy.trans (w1.trans w2)) (w2 _ _ hp) h1 (he.kt (KT.same (w1.trans w2))) e0l
                clear hN
                walk_at "rd"
                refine ite2 (fun _ => ?_) (fun _ => tail et e0 Hy sy he e0l)
                unfold tTupRg
                walk_at "rd"
                refine ⟨RgOk.of_le (by omega) (by omega) (by omega) (by omega), fun q nq => ?_⟩
                have s1 := same_upd (o := HO.tup (rgV 0 (r : Int))) nq
                have hq := upd_same (H := Hy) (a := q) (o := HO.tup (rgV 0 (r : Int)))
                generalize upd Hy q (HO.tup (rgV 0 (r : Int))) = Y1 at s1 hq ⊢
                rw [rgV_rg] at hq
                exact mk e.1.1 e.1.2 Y1 q (rg r) (sy.trans s1) hq (by rw [rg_len]; omega) _ fun et e0 Hz h1 h2 h3 => tail et e0 Hz h1 h2 h3
              clear hN
              walk_at "rd"
              refine ite2 (fun _ => ?_) (fun _ => tail et e0 Hy sy he e0l)
              refine ⟨by decide, fun p np => ?_⟩
              have s1 := same_upd (o := HO.tup []) np
              exact mk e.1.1 e.1.2 _ p [] (sy.trans s1) upd_same (Nat.zero_le _) _ fun et e0 Hz h1 h2 h3 => tail et e0 Hz h1 h2 h3
            clear hN
            walk_at "rd"
            refine ite2 (fun _ => ?_) (fun _ => tail et e0 Hy sy he e0l)
            refine ⟨ue, _, rfl, SqT.of hueY, fun wh => ?_, fun wh p np => ?_⟩
            · have w0 := wh.1
              have e9 : HT.sIx (e.2.map V.int).length 0 (some (-1)) = e.2.length - 1 := by
                show (if (-1 : Int) < 0 then ((-1 : Int) + ((e.2.map V.int).length : Int)).toNat else min (-1 : Int).toNat (e.2.map V.int).length) = _
                rw [if_pos (by decide), List.length_map]
                omega
              rw [e9] at w0
              exact catA_ok hueY hueY (by omega) fun t2 Hz sz ht => mk e.1.1 e.1.2 Hz t2 (e.2 ++ e.2) (sy.trans sz) ht (by rw [List.length_append]; omega) _ fun et e0 Hz h1 h2 h3 => tail et e0 Hz h1 h2 h3
            · rw [cut_end]
              have s1 := same_upd (o := HO.tup ((e.2.drop (e.2.length - 1)).map V.int)) np
              have hp := upd_same (H := Hy) (a := p) (o := HO.tup ((e.2.drop (e.2.length - 1)).map V.int))
              generalize upd Hy p (HO.tup ((e.2.drop (e.2.length - 1)).map V.int)) = Y1 at s1 hp ⊢
              have dl : (e.2.drop (e.2.length - 1)).length ≤ 1 := by rw [List.length_drop]; omega
              exact catA_ok (s1 _ _ hueY) hp (by omega) fun t2 Hz sz ht => mk e.1.1 e.1.2 Hz t2 (e.2 ++ e.2.drop (e.2.length - 1)) (sy.trans (s1.trans sz)) ht (by rw [List.length_append]; omega) _ fun et e0 Hz h1 h2 h3 => tail et e0 Hz h1 h2 h3
          clear hN
          walk_at "rd"
          refine ite2 (fun _ => ?_) (fun _ => tail et e0 Hy sy he e0l)
          exact mk e.1.2 e.1.1 Hy ue e.2 sy hueY (by omega) _ fun et e0 Hz h1 h2 h3 => tail et e0 Hz h1 h2 h3
        clear hN
        walk_at "rd"
        refine ite2 (fun _ => ?_) (fun _ => tail et e0 Hy sy he e0l)
        unfold tRevT
        walk_at "rd"
        refine ⟨_, SqT.of hueY, fun p np => ?_⟩
        have s1 := same_upd (o := HO.tup (e.2.map V.int).reverse) np
        have hp := upd_same (H := Hy) (a := p) (o := HO.tup (e.2.map V.int).reverse)
        generalize upd Hy p (HO.tup (e.2.map V.int).reverse) = Y1 at s1 hp ⊢
        rw [← List.map_reverse] at hp
        exact mk e.1.1 e.1.2 Y1 p e.2.reverse (sy.trans s1) hp (by rw [List.length_reverse]; omega) _ fun et e0 Hz h1 h2 h3 => tail et e0 Hz h1 h2 h3
      walk_at "rd"
      refine lcW ?_
      unfold iRng1
      walk_at "rd"
      refine ⟨by omega, by omega, gc_range IsI (fun _ _ _ _ h _ => h) (fun j : Nat => if decide ((j : Int) ∈ e.2) = decide ((j : Int) = n2 % (r : Int)) then none else some (j : Int)) (by omega) (fun j Hx A' B' jl sx hA hB => ?_) fun o ys H2 s2 no ho pr => ?_⟩
      · rw [Int.zero_add]
        walk_at "rd"
        refine ⟨ue, e.2.map V.int, rfl, .inr (SqT.of (sx _ _ hue)), rfl, flI _, ?_⟩
        rw [inI, if_neg (by decide)]
        refine ⟨rfl, _, rfl, ?_⟩
        by_cases z : decide ((j : Int) ∈ e.2) = decide ((j : Int) = n2 % (r : Int))
        · rw [decide_eq_true (show V.bl (decide ((j : Int) ∈ e.2)) = V.bl (decide ((j : Int) = n2 % (r : Int))) by rw [z]), if_neg (show ¬ (!true) = true by decide)]
          exact hB Hx (if_pos z) (Same.refl _)
        · rw [decide_eq_false (show ¬ V.bl (decide ((j : Int) ∈ e.2)) = V.bl (decide ((j : Int) = n2 % (r : Int))) from fun h => z (V.bl.inj h)), if_pos (show (!false) = true from rfl)]
          exact hA _ (j : Int) Hx (if_neg z) (Same.refl _) rfl
      · have e1 := isI_map pr
        rw [Int.toNat_natCast] at e1
        have yl := fm_len (fun j : Nat => if decide ((j : Int) ∈ e.2) = decide ((j : Int) = n2 % (r : Int)) then none else some (j : Int)) r
        rw [e1] at ho
        generalize (List.range r).filterMap (fun j : Nat => if decide ((j : Int) ∈ e.2) = decide ((j : Int) = n2 % (r : Int)) then none else some (j : Int)) = L at ho yl
        refine ⟨o, rfl, _, .inl ⟨SqL.of ho, fun l nl => ?_⟩⟩
        have s3 := same_upd (o := HO.tup (L.map V.int)) nl
        have hl := upd_same (H := H2) (a := l) (o := HO.tup (L.map V.int))
        generalize upd H2 l (HO.tup (L.map V.int)) = Y1 at s3 hl ⊢
        exact mk e.1.1 e.1.2 Y1 l L (s2.trans s3) hl (by omega) _ fun et e0 Hz h1 h2 h3 => tail et e0 Hz h1 h2 h3
    clear hN
    walk_at "rd"
    have lz : ((vs.length : Int) = 0) ↔ es = [] := by
      rw [vl]
      exact ⟨fun z => List.length_eq_zero_iff.mp (by omega), fun z => by rw [z]; rfl⟩
    refine ⟨vs, .inl (SqL.of hv), if_or ?_ fun z _ => tail fun e => z (lz.mpr e)⟩
    intro _
    have m0 := Int.emod_nonneg n1 (show ((vs.length : Int) + 1) ≠ 0 by omega)
    have m1 := Int.emod_lt_of_pos n1 (show (0 : Int) < (vs.length : Int) + 1 by omega)
    obtain ⟨k, ek⟩ : ∃ k : Nat, n1 % ((vs.length : Int) + 1) = k := ⟨(n1 % ((vs.length : Int) + 1)).toNat, by omega⟩
    refine ⟨_, SqL.of hn, .int n1, at_of (j := 1) rfl g1, n1, rfl, vs, .inl (SqL.of hv), by omega, vs, SqL.of hv, fun p np => ?_⟩
    rw [ek, cut_takeQ]
    have s1 := same_upd (o := HO.lst (vs.take k)) np
    have hp := upd_same (H := H) (a := p) (o := HO.lst (vs.take k))
    generalize upd H p (HO.lst (vs.take k)) = Y1 at s1 hp ⊢
    refine ⟨_, SqL.of (s1 _ _ hn), .int n3, at_of (j := 3) rfl g3, n3, rfl, by omega, by decide, fun p1 np1 => ⟨by decide, fun p2 np2 => ⟨by decide, fun p3 np3 => ?_⟩⟩⟩
    have s2 := same_upd (o := HO.tup [V.int (n2 % (r : Int))]) np1
    have h1 := upd_same (H := Y1) (a := p1) (o := HO.tup [V.int (n2 % (r : Int))])
    generalize upd Y1 p1 (HO.tup [V.int (n2 % (r : Int))]) = Y2 at s2 h1 np2 np3 ⊢
    have s3 := same_upd (o := HO.tup [V.int (n2 % (r : Int)), V.int (n3 % (r : Int)), V.ref p1]) np2
    have h2 := upd_same (H := Y2) (a := p2) (o := HO.tup [V.int (n2 % (r : Int)), V.int (n3 % (r : Int)), V.ref p1])
    generalize upd Y2 p2 (HO.tup [V.int (n2 % (r : Int)), V.int (n3 % (r : Int)), V.ref p1]) = Y3 at s3 h2 np3 ⊢
    have s4 := same_upd (o := HO.lst [V.ref p2]) np3
    have h3 := upd_same (H := Y3) (a := p3) (o := HO.lst [V.ref p2])
    generalize upd Y3 p3 (HO.lst [V.ref p2]) = Y4 at s4 h3 ⊢
    have s24 := (s2.trans s3).trans s4
    exact glue Y4 p p3 p2 k k ((n2 % (r : Int), n3 % (r : Int)), [n2 % (r : Int)]) (Nat.le_refl _) (s1.trans s24) (s24 _ _ hp) h3 ⟨p2, p1, rfl, s4 _ _ h2, (s3.trans s4) _ _ h1⟩ (by show 1 ≤ b + 1; omega)
end

/-! ### _law_lists -/
abbrev sLs : Stmt := topS 48
theorem paired_revE {α β : Type} {F : α → β → Prop} : ∀ {as : List α} {bs : List β}, Paired F as bs → Paired F as.reverse bs.reverse
  | _, _, .nil => .nil
  | _, _, .cons r t => by
    rw [List.reverse_cons, List.reverse_cons]
    exact paired_append (paired_revE t) (.cons r .nil)
theorem Ents.rev {H H' : Hp} {c d : Addr} {es : List (Pr × List Int)} {n m : Nat} {vs : List V} (h : Ents H c es n m) (hv : H c = some (.lst vs)) (s : Same H H') (hd : H' d = some (.lst vs.reverse)) : Ents H' d es.reverse n m := by
  obtain ⟨ws, h1, h2⟩ := h.ex
  rw [hv] at h1
  have e := HO.lst.inj (Option.some.inj h1)
  subst e
  exact ⟨⟨_, hd, paired_revE (Paired.mapP h2 fun v b q => q.kt (KT.same s))⟩, by rw [List.length_reverse]; exact h.len, fun e he => h.held e (List.mem_reverse.mp he)⟩
theorem Ents.up {H : Hp} {c : Addr} {es : List (Pr × List Int)} {n m n' m' : Nat} (h : Ents H c es n m) (h1 : n ≤ n') (h2 : m ≤ m') : Ents H c es n' m' := ⟨h.ex, Nat.le_trans h.len h1, fun e he => Nat.le_trans (h.held e he) h2⟩
/-- of two rooms only one pair is crossed -/
theorem cross66 {A B : List Cl} {rs : List Int} (up : rs.Pairwise (· < ·)) (h : ∀ x ∈ rs, 0 ≤ x ∧ x < 12) : (crossF A B rs).length ≤ 66 := by
  have ndr : rs.Nodup := List.Pairwise.imp (fun h => by omega) up
  have ndc : (crossF A B rs).Nodup := by
    unfold crossF
    have key : ∀ l : List Int, l.Nodup → (l.flatMap (crossR A B rs)).Nodup := fun l nl => by
      induction l with
      | nil => exact List.nodup_nil
      | cons x l ih =>
        obtain ⟨n1, n2⟩ := List.nodup_cons.mp nl
        rw [List.flatMap_cons]
        refine List.nodup_append.mpr ⟨?_, ih n2, fun d hd f hf e => ?_⟩
        · unfold crossR
          exact List.pairwise_map.mpr (List.Pairwise.imp (fun {a b} (ne : a ≠ b) e => ne (Prod.mk.inj e).2) (List.Pairwise.filter _ ndr))
        · subst e
          unfold crossR at hd
          obtain ⟨y, _, rfl⟩ := List.mem_map.mp hd
          obtain ⟨z, hz, hf⟩ := List.mem_flatMap.mp hf
          unfold crossR at hf
          obtain ⟨y2, _, e⟩ := List.mem_map.mp hf
          rw [(Prod.mk.inj e).1] at hz
          exact n1 hz
    exact key rs ndr
  have m : ∀ d ∈ crossF A B rs, (0 ≤ d.1 ∧ d.1 < 12) ∧ (0 ≤ d.2 ∧ d.2 < 12) ∧ placeI A d.2 < placeI A d.1 := fun d hd => by
    obtain ⟨h1, h2, h3⟩ := mem_crossF.mp hd
    unfold crossB at h3
    rw [Bool.and_eq_true, Bool.and_eq_true, decide_eq_true_iff, decide_eq_true_iff, decide_eq_true_iff] at h3
    exact ⟨h _ h1, h _ h2, h3.2.1⟩
  have nd : ((crossF A B rs).map (fun d : Pr => 12 * d.1 + d.2) ++ ((crossF A B rs).map (fun d : Pr => 12 * d.2 + d.1) ++ (rg 12).map fun x : Int => 13 * x)).Nodup := by
    have inj : ∀ d ∈ crossF A B rs, ∀ f ∈ crossF A B rs, 12 * d.1 + d.2 = 12 * f.1 + f.2 → d = f := fun d hd f hf e => by
      have h1 := m d hd
      have h2 := m f hf
      exact Prod.ext (by omega) (by omega)
    have inj2 : ∀ d ∈ crossF A B rs, ∀ f ∈ crossF A B rs, 12 * d.2 + d.1 = 12 * f.2 + f.1 → d = f := fun d hd f hf e => by
      have h1 := m d hd
      have h2 := m f hf
      exact Prod.ext (by omega) (by omega)
    refine List.nodup_append.mpr ⟨List.pairwise_map.mpr (List.Pairwise.imp_of_mem (fun {a b} ha hb ne e => ne (inj a ha b hb e)) ndc), List.nodup_append.mpr ⟨List.pairwise_map.mpr (List.Pairwise.imp_of_mem (fun {a b} ha hb ne e => ne (inj2 a ha b hb e)) ndc), ?_, fun x hx y hy e => ?_⟩, fun x hx y hy e => ?_⟩
    · decide
    · obtain ⟨d, hd, rfl⟩ := List.mem_map.mp hx
      obtain ⟨z, hz, rfl⟩ := List.mem_map.mp hy
      have h1 := m d hd
      have h2 : d.1 ≠ d.2 := fun z => by rw [z] at h1; omega
      have h3 := mem_rg_iff.mp hz
      omega
    · obtain ⟨d, hd, rfl⟩ := List.mem_map.mp hx
      have h1 := m d hd
      have h2 : d.1 ≠ d.2 := fun z => by rw [z] at h1; omega
      rcases List.mem_append.mp hy with hy | hy
      · obtain ⟨f, hf, rfl⟩ := List.mem_map.mp hy
        have h4 := m f hf
        have e1 : d.1 = f.2 := by omega
        have e2 : d.2 = f.1 := by omega
        rw [e1, e2] at h1
        omega
      · obtain ⟨z, hz, rfl⟩ := List.mem_map.mp hy
        have h3 := mem_rg_iff.mp hz
        omega
  have := pig (rg 144) _ nd fun x hx => by
    rcases List.mem_append.mp hx with hx | hx
    · obtain ⟨d, hd, rfl⟩ := List.mem_map.mp hx
      have h1 := m d hd
      exact mem_rg (by omega) (by omega)
    · rcases List.mem_append.mp hx with hx | hx
      · obtain ⟨d, hd, rfl⟩ := List.mem_map.mp hx
        have h1 := m d hd
        exact mem_rg (by omega) (by omega)
      · obtain ⟨z, hz, rfl⟩ := List.mem_map.mp hx
        have h3 := mem_rg_iff.mp hz
        exact mem_rg (by omega) (by omega)
  rw [rg_len, List.length_append, List.length_append, List.length_map, List.length_map, List.length_map, rg_len] at this
  omega
section
variable {P : Program} {w : World} {K : PySem.W.Frag} {mg : Str → Option Value} {base : Heap}
theorem scLs : FnScope ["script", "doors", "rooms", "logs", "numbers", "drawn", "entries", "order", "other", "pairs", "bent", "k", "alone", "entry", "call"] ["script", "doors", "rooms", "logs", "numbers"] (defScope sLs) := ⟨rfl, rfl, rfl, by decide +kernel, rfl, by decide +kernel, by decide +kernel⟩
def spLs (K : PySem.W.Frag) : Sp := fun vs H Q _ => ∃ (a l g pa pb n : Addr) (ss : List Int) (us u1 u2 : List V) (D : List Pr) (A B : List Cl) (r : Nat) (ns : List Int), vs = [.ref a, .ref l, .int r, .ref g, .ref n] ∧ SqL K H a (ss.map V.int) ∧ H l = some (.lst us) ∧ PL H us D ∧ H g = some (.lst [.ref pa, .ref pb]) ∧ H pa = some (.lst u1) ∧ LG H u1 A ∧ A.length ≤ 100 ∧ InR r A ∧ (∀ c ∈ A, wk 17 c.2) ∧ H pb = some (.lst u2) ∧ LG H u2 B ∧ B.length ≤ 100 ∧ InR r B ∧ (∀ c ∈ B, wk 17 c.2) ∧ 1 ≤ r ∧ r ≤ 12 ∧
  H n = some (.lst (ns.map V.int)) ∧ ns.length = 144 ∧ ∀ (ls : List V) (q : Addr) (H' : Hp), Same H H' → H q = none → H' q = some (.lst ls) → ls.length ≤ 4 → (∀ v ∈ ls, ∃ c es, v = V.ref c ∧ Ents H' c es 100 60) → Q (.ref q) H'
theorem ok_ls {f f1 f2 f3 f4 f5 f6 f7 : Addr} {fd fd1 fd2 fd3 fd4 fd5 fd6 fd7 : FuncData} (F : Fun K "_law_lists" "_law_lists" sLs f fd) (T : Bi mg) (d__law_cell : Df P w K mg base "_law_cell" ["script", "k"] 1 (spCell K) f1 fd1) (d__law_drawn_entries : Df P w K mg base "_law_drawn_entries" ["cell", "rooms"] 2 spDe f2 fd2) (d__law_own : Df P w K mg base "_law_own" ["rooms", "log"] 1 spLow f3 fd3) (d__law_last : Df P w K mg base "_law_last" ["log"] 1 spLast f4 fd4)
    (d__law_crossed : Df P w K mg base "_law_crossed" ["own", "order", "other"] 1 spLcr f5 fd5) (d__law_grown : Df P w K mg base "_law_grown" ["doors", "rooms", "order", "other", "pairs", "numbers"] 3 spGw f6 fd6) (d__law_changed : Df P w K mg base "_law_changed" ["entries", "numbers", "rooms"] 1 spCg f7 fd7) : FnOk P w K mg base CX0 4 f fd ["script", "doors", "rooms", "logs", "numbers"] (spLs K) := by
  refine F.ok scLs (fun vs H Q E h => ?_) (fun cdv A0 outer s H vs Q E hr h => ?_)
  · obtain ⟨a, l, g, pa, pb, n, ss, us, u1, u2, D, A, B, r, ns, rfl, _⟩ := h
    rfl
  · obtain ⟨a, l, g, pa, pb, n, ss, us, u1, u2, D, A, B, r, ns, rfl, hS, hl, pl, hg, ha, la, al, iA, kA, hb, lb, bl, iB, kB, r1, r12, hn, n144, ret⟩ := h
    refine ⟨_, (pss_cons (ps_if (pt_cmpR op_eqI (pe_op op_mod (pe_callTy cr_intI (by rfl) T.int (by decide +kernel) (pa_cons (pe_ix ix_list (pv 4) pe_int (fun _ _ => rfl)) pa_nil)) pe_int) pe_int (nomark _))
      (pss_cons (ps_set (i := 5) scLs.nd rfl (Or.inl rfl) (pe_call d__law_drawn_entries.ok (hr.mono (by decide)) (by rfl) d__law_drawn_entries.at_ d__law_drawn_entries.kp d__law_drawn_entries.b .nil pass0 (pa_cons (pe_call d__law_cell.ok (hr.mono (by decide)) (by rfl) d__law_cell.at_ d__law_cell.kp d__law_cell.b .nil pass0 (pa_cons (pv 0) (pa_cons pe_int pa_nil))) (pa_cons (pv 2) pa_nil))))
        (pss_one (ps_ret (pe_lst (pa_cons (pv 5) (pa_cons (pe_revL (pv 5)) pa_nil))))))
      pss_nil)
      (pss_cons (ps_set (i := 6) scLs.nd rfl (Or.inl rfl) (pe_lst pa_nil))
      (pss_cons (ps_if (pt_cmpR (op_eqD hr.units) (pe_call d__law_own.ok (hr.mono (by decide)) (by rfl) d__law_own.at_ d__law_own.kp d__law_own.b .nil pass0 (pa_cons (pv 2) (pa_cons (pe_ix ix_list (pv 3) pe_int (fun _ _ => rfl)) pa_nil))) (pe_call d__law_own.ok (hr.mono (by decide)) (by rfl) d__law_own.at_ d__law_own.kp d__law_own.b .nil pass0 (pa_cons (pv 2) (pa_cons (pe_ix ix_list (pv 3) pe_int (fun _ _ => rfl)) pa_nil))) (nomark _))
      (pss_cons (ps_setLc (i := 7) (own := [("call", 14)]) (te := (tOp (rIxT K) (tVar 14) (tC (V.int 0)))) (by rfl) scLs.nd rfl rfl (sw_true rfl rfl rfl (by decide +kernel)) (pi_list (pe_call d__law_last.ok (hr.mono (by decide)) (by rfl) d__law_last.at_ d__law_last.kp d__law_last.b .nil pass0 (pa_cons (pe_ix ix_list (pv 3) pe_int (fun _ _ => rfl)) pa_nil))) (blkOk_by (N := ["script", "doors", "rooms", "logs", "numbers", "drawn", "entries", "order", "other", "pairs", "bent", "k", "alone", "entry", "call"]) (sc := defScope sLs) (by decide +kernel)) (fun _ _ _ _ _ => pg_name (i := 14) scLs.nd rfl (Or.inl rfl)) (fun _ _ _ _ _ => pts_nil) (fun _ _ _ _ _ => (pe_ix ix_tup (pv 14) pe_int (fun _ _ => rfl))))
        (pss_cons (ps_setLc (i := 8) (own := [("call", 14)]) (te := (tOp (rIxT K) (tVar 14) (tC (V.int 0)))) (by rfl) scLs.nd rfl rfl (sw_true rfl rfl rfl (by decide +kernel)) (pi_list (pe_call d__law_last.ok (hr.mono (by decide)) (by rfl) d__law_last.at_ d__law_last.kp d__law_last.b .nil pass0 (pa_cons (pe_ix ix_list (pv 3) pe_int (fun _ _ => rfl)) pa_nil))) (blkOk_by (N := ["script", "doors", "rooms", "logs", "numbers", "drawn", "entries", "order", "other", "pairs", "bent", "k", "alone", "entry", "call"]) (sc := defScope sLs) (by decide +kernel)) (fun _ _ _ _ _ => pg_name (i := 14) scLs.nd rfl (Or.inl rfl)) (fun _ _ _ _ _ => pts_nil) (fun _ _ _ _ _ => (pe_ix ix_tup (pv 14) pe_int (fun _ _ => rfl))))
        (pss_cons (ps_set (i := 9) scLs.nd rfl (Or.inl rfl) (pe_call d__law_crossed.ok (hr.mono (by decide)) (by rfl) d__law_crossed.at_ d__law_crossed.kp d__law_crossed.b .nil pass0 (pa_cons (pe_call d__law_own.ok (hr.mono (by decide)) (by rfl) d__law_own.at_ d__law_own.kp d__law_own.b .nil pass0 (pa_cons (pv 2) (pa_cons (pe_ix ix_list (pv 3) pe_int (fun _ _ => rfl)) pa_nil))) (pa_cons (pv 7) (pa_cons (pv 8) pa_nil)))))
        (pss_one (ps_set (i := 6) scLs.nd rfl (Or.inl rfl) (pe_call d__law_grown.ok (hr.mono (by decide)) (by rfl) d__law_grown.at_ d__law_grown.kp d__law_grown.b .nil pass0 (pa_cons (pv 1) (pa_cons (pv 2) (pa_cons (pv 7) (pa_cons (pv 8) (pa_cons (pv 9) (pa_cons (pe_slice sl_list (pv 4) (po_some pe_int) po_none) pa_nil))))))))))))
      pss_nil)
      (pss_cons (ps_set (i := 10) scLs.nd rfl (Or.inl rfl) (pe_callTy call_list_of (by rfl) T.list (by decide +kernel) (pa_cons (pv 6) pa_nil)))
      (pss_cons (ps_for PassesOwn.never rfl (pi_range1 (by rfl) T.range (pa_cons (pe_op op_mod (pe_callTy cr_intI (by rfl) T.int (by decide +kernel) (pa_cons (pe_ix ix_list (pv 4) pe_int (fun _ _ => rfl)) pa_nil)) pe_int) pa_nil)) (pg_name (i := 11) scLs.nd rfl (Or.inl rfl))
      (pss_one (ps_set (i := 10) scLs.nd rfl (Or.inl rfl) (pe_call d__law_changed.ok (hr.mono (by decide)) (by rfl) d__law_changed.at_ d__law_changed.kp d__law_changed.b .nil pass0 (pa_cons (pv 10) (pa_cons (pe_slice sl_list (pv 4) (po_some (pe_op op_add pe_int (pe_op op_mul pe_int (pv 11)))) (po_some (pe_op op_add pe_int (pe_op op_mul pe_int (pv 11))))) (pa_cons (pv 2) pa_nil)))))))
      (pss_cons (ps_setLc (i := 12) (own := [("entry", 13)]) (te := (tTup (tCons (tOp (rIxT K) (tVar 13) (tC (V.int 0))) (tCons (tOp (rIxT K) (tVar 13) (tC (V.int 1))) (tCons (tTup (tCons (tOp (rIxT K) (tVar 13) (tC (V.int 0))) tNil)) tNil))))) (by rfl) scLs.nd rfl rfl (sw_true rfl rfl rfl (by decide +kernel)) (pi_list (pv 6)) (blkOk_by (N := ["script", "doors", "rooms", "logs", "numbers", "drawn", "entries", "order", "other", "pairs", "bent", "k", "alone", "entry", "call"]) (sc := defScope sLs) (by decide +kernel)) (fun _ _ _ _ _ => pg_name (i := 13) scLs.nd rfl (Or.inl rfl)) (fun _ _ _ _ _ => pts_nil) (fun _ _ _ _ _ => (pe_tup (pa_cons (pe_ix ix_tup (pv 13) pe_int (fun _ _ => rfl)) (pa_cons (pe_ix ix_tup (pv 13) pe_int (fun _ _ => rfl)) (pa_cons (pe_tup (pa_cons (pe_ix ix_tup (pv 13) pe_int (fun _ _ => rfl)) pa_nil)) pa_nil))))))
      (pss_one (ps_ret (pe_lst (pa_cons (pv 6) (pa_cons (pe_revL (pv 6)) (pa_cons (pv 12) (pa_cons (pv 10) pa_nil))))))))))))), ?_⟩
    refine sq2 fun N hN => ?_
    walk_at "rd"
    have gn : ∀ j : Nat, j < 144 → ∃ x, (ns.map V.int)[j]? = some (.int x) := fun j hj => ⟨ns[j]'(by omega), by rw [List.getElem?_map, List.getElem?_eq_getElem (by omega)]; rfl⟩
    obtain ⟨n1, g1⟩ := gn 1 (by decide)
    obtain ⟨n2, g2⟩ := gn 2 (by decide)
    refine ⟨_, SqL.of hn, .int n1, at_of (j := 1) rfl g1, n1, rfl, by decide, ite2 (fun _ => ?_) (fun _ => ?_)⟩
    · refine ⟨a, ss, 5, rfl, hS, fun c _ => ⟨c, r, rfl, r1, fun es e H1 s1 ne hE => ?_⟩⟩
      obtain ⟨vs, hv, pe⟩ := hE.ex
      unfold tRevL
      walk_at "rd"
      refine ⟨vs, SqL.of hv, fun p np => ?_⟩
      have s2 := same_upd (o := HO.lst vs.reverse) np
      have hp := upd_same (H := H1) (a := p) (o := HO.lst vs.reverse)
      generalize upd H1 p (HO.lst vs.reverse) = H2 at s2 hp ⊢
      refine ⟨by decide, fun q nq => ?_⟩
      have s3 := same_upd (o := HO.lst [V.ref e, V.ref p]) nq
      have sA := s1.trans (s2.trans s3)
      refine ret _ q _ sA ((s1.trans s2).free nq) upd_same (by show 2 ≤ 4; decide) fun v hv' => ?_
      rcases List.mem_cons.mp hv' with rfl | hv'
      · exact ⟨e, es, rfl, (hE.same (s2.trans s3)).up (by decide) (by decide)⟩
      · rw [List.mem_singleton.mp hv']
        exact ⟨p, es.reverse, rfl, (hE.rev hv (s2.trans s3) (s3 _ _ hp)).up (by decide) (by decide)⟩
    · refine ⟨by decide, fun p np => ?_⟩
      refine hN _ _ ?_
      clear hN N
      refine sq1 fun N hN => ?_
      have s0 := same_upd (o := HO.lst []) np
      have hp0 := upd_same (H := H) (a := p) (o := HO.lst [])
      generalize upd H p (HO.lst []) = H0 at s0 hp0 ⊢
      have tail : ∀ (pE : Addr) (es : List (Pr × List Int)) (v7 v8 v9 : Option V) (Hy : Hp), Same H Hy → Ents Hy pE es 66 12 → N [some (.ref a), some (.ref l), some (.int r), some (.ref g), some (.ref n), none, some (.ref pE), v7, v8, v9, none, none, none, none, none] Hy := fun pE es v7 v8 v9 Hy sy hE => by
        refine hN _ _ ?_
        clear hN N
        refine sq1 fun N hN => ?_
        walk_at "rd"
        obtain ⟨vE, hvE, peE⟩ := hE.ex
        refine ⟨vE, .inl (SqL.of hvE), fun pB nB => ?_⟩
        have t1 := same_upd (o := HO.lst vE) nB
        have hB0 := upd_same (H := Hy) (a := pB) (o := HO.lst vE)
        generalize upd Hy pB (HO.lst vE) = G0 at t1 hB0 ⊢
        have sG := sy.trans t1
        have eB0 : Ents G0 pB es 66 12 := ⟨⟨vE, hB0, Paired.mapP peE fun v b q => q.kt (KT.same t1)⟩, hE.len, hE.held⟩
        have eE0 := hE.same t1
        refine hN _ _ ?_
        clear hN N
        refine sq1 fun N hN => ?_
        refine for_iterW ?_
        unfold iRng1
        walk_at "rd"
        have m0 := Int.emod_nonneg n2 (show (3 : Int) ≠ 0 by decide)
        have m1 := Int.emod_lt_of_pos n2 (show (0 : Int) < 3 by decide)
        obtain ⟨Pv, hPv⟩ : ∃ Pv : Nat → L2.St → Hp → Prop, Pv = (fun i σ Hx => ∃ (pB : Addr) (fs : List (Pr × List Int)) (v11 : Option V), σ = [some (.ref a), some (.ref l), some (.int r), some (.ref g), some (.ref n), none, some (.ref pE), v7, v8, v9, some (.ref pB), v11, none, none, none] ∧ Same G0 Hx ∧ Ents Hx pB fs (66 + i) (12 + i)) := ⟨_, rfl⟩
        refine ⟨_, SqL.of (sG _ _ hn), .int n2, at_of (j := 2) rfl g2, n2, rfl, by decide, by omega, by omega, for_range (lo := 0) (n := (n2 % 3).toNat) Pv (by rw [hPv]; exact ⟨pB, es, none, rfl, Same.refl _, eB0⟩) (fun i σ Hx hi pv => ?_) (fun σ Hx pv => ?_)⟩
        · rw [hPv] at pv
          obtain ⟨pB, fs, v11, rfl, sx, eB⟩ := pv
          rw [Int.zero_add]
          have hi3 : i < 3 := by omega
          have k1 : ((4 : Int) + 4 * (i : Int)) = ((4 + 4 * i : Nat) : Int) := by omega
          have k2 : ((8 : Int) + 4 * (i : Int)) = ((8 + 4 * i : Nat) : Int) := by omega
          walk_at "rd"
          refine ⟨.inl ⟨by decide, by decide⟩, .inl ⟨by decide, by decide⟩, _, SqL.of (sx _ _ (sG _ _ hn)), fun p np => ?_⟩
          rw [k1, k2, cut_mid ns _ _ (by omega) (by omega), show 8 + 4 * i - (4 + 4 * i) = 4 by omega]
          have al4 : ((ns.drop (4 + 4 * i)).take 4).length = 4 := by rw [List.length_take, List.length_drop]; omega
          generalize (ns.drop (4 + 4 * i)).take 4 = as at al4 ⊢
          have w1 := same_upd (o := HO.lst (as.map V.int)) np
          have hp := upd_same (H := Hx) (a := p) (o := HO.lst (as.map V.int))
          generalize upd Hx p (HO.lst (as.map V.int)) = Y1 at w1 hp ⊢
          refine ⟨pB, p, fs, 66 + i, 12 + i, r, as, rfl, eB.same w1, by omega, by omega, by omega, hp, by omega, r1, r12, fun es2 d H' w2 nd he => ?_⟩
          rw [hPv]
          exact ⟨d, es2, _, rfl, sx.trans (w1.trans w2), he⟩
        · rw [hPv] at pv
          obtain ⟨pB, fs, v11, rfl, sx, eB⟩ := pv
          have sH := sG.trans sx
          have eB2 := eB.up (n' := 100) (m' := 60) (by omega) (by omega)
          have eE2 := eE0.same sx
          obtain ⟨vE2, hvE2, peE2⟩ := eE2.ex
          refine hN _ _ ?_
          clear hN N hPv Pv
          walk_at "rd"
          have vl := peE2.length
          have esl := eE2.len
          refine lcW ?_
          walk_at "rd"
          refine ⟨⟨_, SqL.of hvE2⟩, gc_listG (fun D H v (e : Pr × List Int) => ∃ t u, v = V.ref t ∧ t ≠ D ∧ u ≠ D ∧ H t = some (.tup [.int e.1.1, .int e.1.2, .ref u]) ∧ H u = some (.tup (e.2.map V.int))) (fun D H H' v b h k => by obtain ⟨t, u, e, n1, n2, h1, h2⟩ := h; exact ⟨t, u, e, n1, n2, k _ _ n1 h1, k _ _ n2 h2⟩) (fun j => es[j]?.bind fun e => some (e.1, [e.1.1])) hvE2 (by omega) (fun Dx j x Hy2 A' B' gx s2 hD hA hB => ?_) fun o ys G1 w1 no ho pr => ?_⟩
          · obtain ⟨e, ge, te, ue, rfl, hte, hue⟩ := pget peE2 gx
            rw [ge] at hA
            have ht := s2 _ _ hte
            obtain ⟨od, hod⟩ := hD
            simp only [wipe]
            walk_at "rd"
            rw [if_pos trivial]
            refine ⟨_, SqT.of ht, .int e.1.1, rfl, _, SqT.of ht, .int e.1.2, rfl, _, SqT.of ht, .int e.1.1, rfl, by decide, fun u nu => ⟨by decide, fun t nt => ?_⟩⟩
            have w1 := same_upd (o := HO.tup [V.int e.1.1]) nu
            have hu := upd_same (H := Hy2) (a := u) (o := HO.tup [V.int e.1.1])
            generalize upd Hy2 u (HO.tup [V.int e.1.1]) = Z1 at w1 hu nt ⊢
            have w2 := same_upd (o := HO.tup [V.int e.1.1, V.int e.1.2, V.ref u]) nt
            refine hA _ (e.1, [e.1.1]) _ rfl (w1.trans w2) ⟨t, u, rfl, fun z => ?_, fun z => ?_, upd_same, w2 _ _ hu⟩
            · have := w1 _ _ hod
              rw [← z, nt] at this
              cases this
            · rw [← z, nu] at hod
              cases hod
          · rw [vl, fm_range (L := es) (fun e => some (e.1, [e.1.1])), List.filterMap_eq_map'] at pr
            have eA : Ents G1 o (es.map fun e => (e.1, [e.1.1])) 66 12 := ⟨⟨ys, ho, Paired.mapP pr fun v b h => by obtain ⟨t, u, e, _, _, h1, h2⟩ := h; exact ⟨t, u, e, h1, h2⟩⟩, by rw [List.length_map]; exact esl, fun e he => by obtain ⟨f, _, rfl⟩ := List.mem_map.mp he; show 1 ≤ 12; decide⟩
            unfold tRevL
            walk_at "rd"
            refine ⟨vE2, SqL.of (w1 _ _ hvE2), fun p np => ?_⟩
            have w2 := same_upd (o := HO.lst vE2.reverse) np
            have hp := upd_same (H := G1) (a := p) (o := HO.lst vE2.reverse)
            generalize upd G1 p (HO.lst vE2.reverse) = G2 at w2 hp ⊢
            refine ⟨by decide, fun q nq => ?_⟩
            have w3 := same_upd (o := HO.lst [V.ref pE, V.ref p, V.ref o, V.ref pB]) nq
            have w12 := w1.trans w2
            refine ret _ q _ (sH.trans (w12.trans w3)) ((sH.trans w12).free nq) upd_same (by show 4 ≤ 4; decide) fun v hv' => ?_
            rcases List.mem_cons.mp hv' with rfl | hv'
            · exact ⟨pE, es, rfl, (eE2.same (w12.trans w3)).up (by decide) (by decide)⟩
            rcases List.mem_cons.mp hv' with rfl | hv'
            · exact ⟨p, es.reverse, rfl, (eE2.rev hvE2 (w12.trans w3) (w3 _ _ hp)).up (by decide) (by decide)⟩
            rcases List.mem_cons.mp hv' with rfl | hv'
            · exact ⟨o, _, rfl, (eA.same (w2.trans w3)).up (by decide) (by decide)⟩
            · rw [List.mem_singleton.mp hv']
              exact ⟨pB, fs, rfl, eB2.same (w12.trans w3)⟩
      clear hN
      walk_at "rd"
      refine ⟨_, SqL.of (s0 _ _ hg), .ref pa, rfl, pa, u1, A, r, rfl, s0 _ _ ha, la.kt (KT.same s0), iA, r12, fun pw H1 s1 npw hpw => ?_⟩
      have s01 := s0.trans s1
      refine ⟨_, SqL.of (s01 _ _ hg), .ref pb, rfl, pb, u2, B, r, rfl, s01 _ _ hb, lb.kt (KT.same s01), iB, r12, fun pv H2 s2 npv hpv => ?_⟩
      have s02 := s01.trans s2
      have hpw2 := s2 _ _ hpw
      rw [wordsF_own iA] at hpw2
      rw [wordsF_own iB] at hpv
      refine ⟨.list ((ownW r A).map optD), .list ((ownW r B).map optD), .lst (SqL.of hpw2) (dp_optS _), .lst (SqL.of hpv) (dp_optS _), optD_shaped _ (ownW_ok kA), optD_shaped _ (ownW_ok kB), _, rfl, ?_⟩
      rw [show PyData.eqv (.list ((ownW r A).map optD)) (.list ((ownW r B).map optD)) = decide (ownW r A = ownW r B) from optD_eqvAll _ _]
      by_cases c1 : ownW r A = ownW r B
      rotate_left
      · rw [decide_eq_false c1, if_neg (by decide)]
        exact tail p [] none none none H2 s02 ⟨⟨[], s2 _ _ (s1 _ _ hp0), .nil⟩, Nat.zero_le _, fun e he => by cases he⟩
      rw [decide_eq_true c1, if_pos rfl]
      have sw := (ownW_same iA iB).mp c1
      refine lcW ?_
      walk_at "rd"
      refine ⟨_, SqL.of (s02 _ _ hg), .ref pa, rfl, pa, u1, A, rfl, s02 _ _ ha, la.kt (KT.same s02), by omega, fun wa qa H3 s3 nqa hqa lwa => ?_⟩
      have s13 := s02.trans s3
      have lal := lastF_len A
      have lbl := lastF_len B
      walk_at "rd"
      refine ⟨⟨_, SqL.of hqa⟩, lc_fst hqa lwa (by omega) (by simp) fun po H4 s4 npo hpo => ?_⟩
      have s14 := s13.trans s4
      refine lcW ?_
      walk_at "rd"
      refine ⟨_, SqL.of (s14 _ _ hg), .ref pb, rfl, pb, u2, B, rfl, s14 _ _ hb, lb.kt (KT.same s14), by omega, fun wb qb H5 s5 nqb hqb lwb => ?_⟩
      have s15 := s14.trans s5
      walk_at "rd"
      refine ⟨⟨_, SqL.of hqb⟩, lc_fst hqb lwb (by omega) (by simp) fun pq H6 s6 npq hpq => ?_⟩
      have s16 := s15.trans s6
      have hpo6 := s6 _ _ (s5 _ _ hpo)
      refine ⟨_, SqL.of (s16 _ _ hg), .ref pa, rfl, pa, u1, A, r, rfl, s16 _ _ ha, la.kt (KT.same s16), iA, r12, fun pw7 H7 s7 npw7 hpw7 => ?_⟩
      have s17 := s16.trans s7
      refine ⟨pw7, po, pq, A, B, r, wordsF r A, wordL A, rfl, hpw7, s7 _ _ hpo6, s7 _ _ hpq, iA, r12, fun x hx => wordsF_get iA hx, fun x hx => ⟨rfl, (sw.mem x).mp hx⟩, fun rs zs q2 H8 rsU rsA s8 nq2 hq2 pz => ?_⟩
      have s18 := s17.trans s8
      have c66 := cross66 (A := A) (B := B) rsU fun x hx => by
        obtain ⟨c, hc, rfl⟩ := List.mem_map.mp ((rsA x).mp hx)
        have := iA c hc
        omega
      refine ⟨_, SqL.of (s18 _ _ hn), fun p9 np9 => ?_⟩
      rw [show (some (12 : Int)) = some (((12 : Nat) : Int)) from rfl, cut_drop, ← List.map_drop]
      have s9 := same_upd (o := HO.lst ((ns.drop 12).map V.int)) np9
      have hp9 := upd_same (H := H8) (a := p9) (o := HO.lst ((ns.drop 12).map V.int))
      generalize upd H8 p9 (HO.lst ((ns.drop 12).map V.int)) = H9 at s9 hp9 ⊢
      have s19 := s18.trans s9
      have s79 := s7.trans (s8.trans s9)
      refine ⟨l, po, pq, q2, p9, us, zs, D, crossF A B rs, A, B, r, ns.drop 12, rfl, s19 _ _ hl, pl.kt (KT.same s19), s79 _ _ hpo6, s79 _ _ hpq, by omega, by omega, r12, s9 _ _ hq2, pz.kt (KT.same s9), fun d hd => ?_, hp9, by rw [List.length_drop]; omega, c66, fun es c G s10 nc hE => ?_⟩
      · obtain ⟨m1, m2, _⟩ := mem_crossF.mp hd
        exact ⟨(rsA _).mp m1, (sw.mem _).mp ((rsA _).mp m2)⟩
      · exact tail c es _ _ _ G (s19.trans s10) hE
end

/-! ### the law of check_certificate -/
theorem lastF_sub : ∀ L : List Cl, ∀ c ∈ lastF L, c ∈ L := by
  intro L
  induction L with
  | nil => intro c hc; cases hc
  | cons d L ih =>
    intro c hc
    by_cases m : d.1 ∈ L.map (·.1)
    · have e : lastF (d :: L) = lastF L := if_pos m
      rw [e] at hc
      exact List.mem_cons_of_mem _ (ih c hc)
    · have e : lastF (d :: L) = d :: lastF L := if_neg m
      rw [e] at hc
      rcases List.mem_cons.mp hc with z | z
      · rw [z]; exact List.mem_cons_self
      · exact List.mem_cons_of_mem _ (ih c z)
theorem sm_entryK {H : Hp} {u v : V} {e : Pr × List Int} (hu : IsEnK H u e) (hv : IsEnK H v e) (l : e.2.length ≤ 100000) (n : Nat) : Sm H (n + 2) u v := by
  obtain ⟨a, b, rfl, h1, h2⟩ := hu
  obtain ⟨c, d, rfl, k1, k2⟩ := hv
  refine .inr ⟨a, c, _, _, rfl, rfl, .inr ⟨h1, k1⟩, .cons (Sm.flat rfl) (.cons (Sm.flat rfl) (.cons (sm_flatsT h2 k2 (fun x hx => ?_) (by rw [List.length_map]; exact l) n) .nil)), by show 3 ≤ 100000; decide⟩
  obtain ⟨i, _, rfl⟩ := List.mem_map.mp hx
  rfl
theorem sm_entriesK {H : Hp} {x y : Addr} {us vs : List V} {es : List (Pr × List Int)} (hx : H x = some (.lst us)) (hy : H y = some (.lst vs)) (pu : Paired (IsEnK H) us es) (pv : Paired (IsEnK H) vs es) (l : ∀ e ∈ es, e.2.length ≤ 100000) (hl : us.length ≤ 100000) (n : Nat) : Sm H (n + 3) (.ref x) (.ref y) := by
  refine .inr ⟨x, y, _, _, rfl, rfl, .inl ⟨hx, hy⟩, ?_, hl⟩
  clear hx hy hl
  induction pu generalizing vs with
  | nil => cases pv; exact .nil
  | cons r t ih =>
    cases pv with
    | cons r2 t2 => exact .cons (sm_entryK r r2 (l _ List.mem_cons_self) n) (ih t2 fun e he => l e (List.mem_cons_of_mem _ he))
theorem cross_self (A : List Cl) (rs : List Int) : crossF A A rs = [] := by
  unfold crossF
  rw [List.flatMap_eq_nil_iff]
  intro x _
  unfold crossR
  rw [List.map_eq_nil_iff, List.filter_eq_nil_iff]
  intro y _
  unfold crossB
  rw [Bool.and_eq_true, Bool.and_eq_true, decide_eq_true_iff, decide_eq_true_iff, decide_eq_true_iff]
  omega
abbrev sLaw : Stmt := topS 49
section
variable {P : Program} {w : World} {K : PySem.W.Frag} {mg : Str → Option Value} {base : Heap}
theorem scLaw : FnScope ["script", "numbers", "rooms", "doors", "words", "first", "logs", "house", "entries", "handed", "told"] ["script"] (defScope sLaw) := ⟨rfl, rfl, rfl, by decide +kernel, rfl, by decide +kernel, by decide +kernel⟩
theorem ok_law {f C fi fo f1 f2 f3 f4 f5 f6 f7 f8 f9 f10 f14 fa tb_lies_in tb_is_ascending : Addr} {fd fdi fdo fd1 fd2 fd3 fd4 fd5 fd6 fd7 fd8 fd9 fd10 fd14 fda : FuncData} (F : Fun K "law" "law" sLaw f fd) (T : Bi mg) (U : Hs K mg C) (M : Mk K C fi) (Gi : FnOk P w K mg base CX0 2 fi fdi ["self", "rooms", "doors"] (spHinit C)) (bi : Binds K fdi ["self", "rooms", "doors"] [])
    (m_doors : Md P w K mg base C "doors" ["self"] 1 (spHdoors C) fo fdo)
    (d__law_cell : Df P w K mg base "_law_cell" ["script", "k"] 1 (spCell K) f1 fd1) (d__law_numbers : Df P w K mg base "_law_numbers" ["cell", "count"] 1 (spNum K) f2 fd2) (d__law_doors : Df P w K mg base "_law_doors" ["numbers", "rooms"] 2 (spDrs K) f3 fd3)
    (d__law_pool : Df P w K mg base "_law_pool" ["cell"] 2 spPo4 f4 fd4) (d__law_any_log : Df P w K mg base "_law_any_log" ["cell", "rooms", "words"] 2 spAny f5 fd5) (d__law_calls : Df P w K mg base "_law_calls" ["script", "at", "rooms", "words", "most"] 2 (spLcs K) f6 fd6)
    (d__law_last : Df P w K mg base "_law_last" ["log"] 1 spLast f7 fd7) (d__law_twin : Df P w K mg base "_law_twin" ["cell", "calls", "words", "doors", "rooms"] 4 spLtw f8 fd8) (d__law_lists : Df P w K mg base "_law_lists" ["script", "doors", "rooms", "logs", "numbers"] 4 (spLs K) f9 fd9)
    (d__law_is_certificate : Df P w K mg base "_law_is_certificate" ["doors", "rooms", "logs", "entries"] 2 spIk f10 fd10) (d__law_same : Df P w K mg base "_law_same" ["got", "due"] 5 (spSame 4) f14 fd14)
    (d_check_certificate : Df P w K mg base "check_certificate" ["house", "first", "second", "certificate"] 4 (spCk C tb_lies_in tb_is_ascending) fa fda) : FnOk P w K mg base CX0 6 f fd ["script"] (spLawT K [tb_lies_in, tb_is_ascending]) := by
  refine F.ok scLaw (fun vs H Q E h => ?_) (fun cdv A0 outer s H vs Q E hr h => ?_)
  · obtain ⟨a, ns, rfl, _⟩ := h
    rfl
  · obtain ⟨a, ss, rfl, hS, s63, HT, q⟩ := h
    refine ⟨_, (pss_cons (ps_set (i := 1) scLaw.nd rfl (Or.inl rfl) (pe_call d__law_numbers.ok (hr.mono (by decide)) (by rfl) d__law_numbers.at_ d__law_numbers.kp d__law_numbers.b .nil pass0 (pa_cons (pe_call d__law_cell.ok (hr.mono (by decide)) (by rfl) d__law_cell.at_ d__law_cell.kp d__law_cell.b .nil pass0 (pa_cons (pv 0) (pa_cons pe_int pa_nil))) (pa_cons pe_int pa_nil))))
      (pss_cons (ps_set (i := 2) scLaw.nd rfl (Or.inl rfl) (pe_op op_add pe_int (pe_op op_mod (pe_callTy cr_intI (by rfl) T.int (by decide +kernel) (pa_cons (pe_ix ix_list (pv 1) pe_int (fun _ _ => rfl)) pa_nil)) pe_int)))
      (pss_cons (ps_set (i := 3) scLaw.nd rfl (Or.inl rfl) (pe_call d__law_doors.ok (hr.mono (by decide)) (by rfl) d__law_doors.at_ d__law_doors.kp d__law_doors.b .nil pass0 (pa_cons (pv 1) (pa_cons (pv 2) pa_nil))))
      (pss_cons (ps_set (i := 4) scLaw.nd rfl (Or.inl rfl) (pe_call d__law_pool.ok (hr.mono (by decide)) (by rfl) d__law_pool.at_ d__law_pool.kp d__law_pool.b .nil pass0 (pa_cons (pe_call d__law_cell.ok (hr.mono (by decide)) (by rfl) d__law_cell.at_ d__law_cell.kp d__law_cell.b .nil pass0 (pa_cons (pv 0) (pa_cons pe_int pa_nil))) pa_nil)))
      (pss_cons (ps_set (i := 5) scLaw.nd rfl (Or.inl rfl) (pe_op op_cat (pe_call d__law_any_log.ok (hr.mono (by decide)) (by rfl) d__law_any_log.at_ d__law_any_log.kp d__law_any_log.b .nil pass0 (pa_cons (pe_call d__law_cell.ok (hr.mono (by decide)) (by rfl) d__law_cell.at_ d__law_cell.kp d__law_cell.b .nil pass0 (pa_cons (pv 0) (pa_cons pe_int pa_nil))) (pa_cons (pv 2) (pa_cons (pv 4) pa_nil)))) (pe_call d__law_calls.ok (hr.mono (by decide)) (by rfl) d__law_calls.at_ d__law_calls.kp d__law_calls.b .nil pass0 (pa_cons (pv 0) (pa_cons pe_int (pa_cons (pv 2) (pa_cons (pv 4) (pa_cons pe_int pa_nil))))))))
      (pss_cons (ps_set (i := 1) scLaw.nd rfl (Or.inl rfl) (pe_call d__law_numbers.ok (hr.mono (by decide)) (by rfl) d__law_numbers.at_ d__law_numbers.kp d__law_numbers.b .nil pass0 (pa_cons (pe_call d__law_cell.ok (hr.mono (by decide)) (by rfl) d__law_cell.at_ d__law_cell.kp d__law_cell.b .nil pass0 (pa_cons (pv 0) (pa_cons pe_int pa_nil))) (pa_cons pe_int pa_nil))))
      (pss_cons (ps_set (i := 6) scLaw.nd rfl (Or.inl rfl) (pe_lst (pa_cons (pe_slice sl_list (pv 5) po_none (po_some pe_int)) (pa_cons (pe_call d__law_twin.ok (hr.mono (by decide)) (by rfl) d__law_twin.at_ d__law_twin.kp d__law_twin.b .nil pass0 (pa_cons (pe_call d__law_cell.ok (hr.mono (by decide)) (by rfl) d__law_cell.at_ d__law_cell.kp d__law_cell.b .nil pass0 (pa_cons (pv 0) (pa_cons pe_int pa_nil))) (pa_cons (pe_call d__law_last.ok (hr.mono (by decide)) (by rfl) d__law_last.at_ d__law_last.kp d__law_last.b .nil pass0 (pa_cons (pe_slice sl_list (pv 5) po_none (po_some pe_int)) pa_nil)) (pa_cons (pv 4) (pa_cons (pv 3) (pa_cons (pv 2) pa_nil)))))) pa_nil))))
      (pss_cons (ps_if (pt_cmpR op_eqI (pe_op op_mod (pe_callTy cr_intI (by rfl) T.int (by decide +kernel) (pa_cons (pe_ix ix_list (pv 1) pe_int (fun _ _ => rfl)) pa_nil)) pe_int) pe_int (nomark _))
      (pss_one (ps_set (i := 6) scLaw.nd rfl (Or.inl rfl) (pe_lst (pa_cons (pe_slice sl_list (pv 5) po_none (po_some pe_int)) (pa_cons (pe_call d__law_any_log.ok (hr.mono (by decide)) (by rfl) d__law_any_log.at_ d__law_any_log.kp d__law_any_log.b .nil pass0 (pa_cons (pe_call d__law_cell.ok (hr.mono (by decide)) (by rfl) d__law_cell.at_ d__law_cell.kp d__law_cell.b .nil pass0 (pa_cons (pv 0) (pa_cons pe_int pa_nil))) (pa_cons (pv 2) (pa_cons (pv 4) pa_nil)))) pa_nil)))))
      pss_nil)
      (pss_cons (ps_set (i := 7) scLaw.nd rfl (Or.inl rfl) (pe_make M Gi (hr.mono (by decide)) (by rfl) U.mgC bi .nil pass0 (pa_cons (pv 2) (pa_cons (pe_callTy call_list_of (by rfl) T.list (by decide +kernel) (pa_cons (pv 3) pa_nil)) pa_nil))))
      (pss_cons (ps_for PassesOwn.never rfl (pi_list (pe_call d__law_lists.ok (hr.mono (by decide)) (by rfl) d__law_lists.at_ d__law_lists.kp d__law_lists.b .nil pass0 (pa_cons (pv 0) (pa_cons (pv 3) (pa_cons (pv 2) (pa_cons (pv 6) (pa_cons (pv 1) pa_nil))))))) (pg_name (i := 8) scLaw.nd rfl (Or.inl rfl))
      (pss_cons (ps_set (i := 9) scLaw.nd rfl (Or.inl rfl) (pe_lst (pa_cons (pe_callTy call_list_of (by rfl) T.list (by decide +kernel) (pa_cons (pe_ix ix_list (pv 6) pe_int (fun _ _ => rfl)) pa_nil)) (pa_cons (pe_callTy call_list_of (by rfl) T.list (by decide +kernel) (pa_cons (pe_ix ix_list (pv 6) pe_int (fun _ _ => rfl)) pa_nil)) (pa_cons (pe_callTy call_list_of (by rfl) T.list (by decide +kernel) (pa_cons (pv 8) pa_nil)) pa_nil)))))
        (pss_cons (ps_set (i := 10) scLaw.nd rfl (Or.inl rfl) (pe_call d_check_certificate.ok (hr.mono (by decide)) (by rfl) d_check_certificate.at_ d_check_certificate.kp d_check_certificate.b .nil pass0 (pa_cons (pv 7) (pa_cons (pe_ix ix_list (pv 9) pe_int (fun _ _ => rfl)) (pa_cons (pe_ix ix_list (pv 9) pe_int (fun _ _ => rfl)) (pa_cons (pe_ix ix_list (pv 9) pe_int (fun _ _ => rfl)) pa_nil))))))
        (pss_cons (ps_if (pt_not (pt_val (pe_call d__law_same.ok (hr.mono (by decide)) (by rfl) d__law_same.at_ d__law_same.kp d__law_same.b .nil pass0 (pa_cons (pv 10) (pa_cons (pe_call d__law_is_certificate.ok (hr.mono (by decide)) (by rfl) d__law_is_certificate.at_ d__law_is_certificate.kp d__law_is_certificate.b .nil pass0 (pa_cons (pv 3) (pa_cons (pv 2) (pa_cons (pv 6) (pa_cons (pv 8) pa_nil))))) pa_nil)))))
        (pss_one (ps_ret pe_bl))
        pss_nil)
        (pss_cons (ps_if (pt_not (pt_val (pe_call d__law_same.ok (hr.mono (by decide)) (by rfl) d__law_same.at_ d__law_same.kp d__law_same.b .nil pass0 (pa_cons (pe_call d_check_certificate.ok (hr.mono (by decide)) (by rfl) d_check_certificate.at_ d_check_certificate.kp d_check_certificate.b .nil pass0 (pa_cons (pv 7) (pa_cons (pe_ix ix_list (pv 9) pe_int (fun _ _ => rfl)) (pa_cons (pe_ix ix_list (pv 9) pe_int (fun _ _ => rfl)) (pa_cons (pe_lst pa_nil) pa_nil))))) (pa_cons pe_bl pa_nil)))))
        (pss_one (ps_ret pe_bl))
        pss_nil)
        (pss_one (ps_if (pt_not (pt_val (pe_call d__law_same.ok (hr.mono (by decide)) (by rfl) d__law_same.at_ d__law_same.kp d__law_same.b .nil pass0 (pa_cons (pv 9) (pa_cons (pe_lst (pa_cons (pe_ix ix_list (pv 6) pe_int (fun _ _ => rfl)) (pa_cons (pe_ix ix_list (pv 6) pe_int (fun _ _ => rfl)) (pa_cons (pv 8) pa_nil)))) pa_nil)))))
        (pss_one (ps_ret pe_bl))
        pss_nil)))))))
      (pss_one (ps_ret (pe_call d__law_same.ok (hr.mono (by decide)) (by rfl) d__law_same.at_ d__law_same.kp d__law_same.b .nil pass0 (pa_cons (pe_meth0 (pv 7) U.cl m_doors.m m_doors.ok (hr.mono (by decide)) m_doors.b .nil pass0) (pa_cons (pv 3) pa_nil))))))))))))))), ?_⟩
    refine sq6 fun N hN => ?_
    walk_at "rd"
    refine ⟨a, ss, 0, rfl, hS, fun c0 _ => ⟨c0, 80, rfl, by decide, fun nl ln H1 N1 s1 fn1 hln => ?_⟩⟩
    obtain ⟨n79, g79⟩ : ∃ x, (nl.map V.int)[79]? = some (.int x) := ⟨nl[79]'(by rw [N1.1]; decide), by rw [List.getElem?_map, List.getElem?_eq_getElem (by rw [N1.1]; decide)]; rfl⟩
    refine ⟨ln, rfl, _, SqL.of hln, .int n79, at_of (j := 79) rfl g79, n79, rfl, by decide, ?_⟩
    obtain ⟨r, er, hr1, hr12⟩ : ∃ r : Nat, 1 + n79 % 12 = (r : Int) ∧ 1 ≤ r ∧ r ≤ 12 := ⟨(1 + n79 % 12).toNat, by omega, by omega, by omega⟩
    rw [er]
    refine ⟨ln, nl, r, rfl, SqL.of hln, by rw [N1.1]; omega, hr1, hr12, fun D us ld H2 drs s2 fd2 hld pD => ?_⟩
    have s02 := s1.trans s2
    refine ⟨a, ss, 1, rfl, s02.seq hS, fun c1 _ => ⟨c1, rfl, fun Z lz H3 z1 z120 zw s3 nlz hlz => ?_⟩⟩
    have zw17 : ∀ z ∈ Z, wk 17 z := fun z hz => (zw z hz).mono (by decide)
    have s03 := s02.trans s3
    refine ⟨a, ss, 2, rfl, s03.seq hS, fun c2 _ => ⟨c2, r, lz, Z, rfl, hr1, hlz, z1, zw17, fun L1 w1 p1 H4 l1 i1 k1 s4 np1 hp1 lg1 => ?_⟩⟩
    have s04 := s03.trans s4
    refine ⟨a, lz, ss, 6, 12, r, 17, Z, rfl, s04.seq hS, s63, by decide, by decide, hr1, s4 _ _ hlz, z1, zw17, fun M2 w2 p2 H5 l2 i2 k2 _ s5 np2 hp2 lg2 => ?_⟩
    have s05 := s04.trans s5
    have wl1 := lg1.len
    have wl2 := lg2.len
    refine ⟨p1, p2, w1, w2, rfl, rfl, s5 _ _ hp1, hp2, Nat.le_of_lt (len_big (by omega)), fun lf nlf => ?_⟩
    have s6 := same_upd (o := HO.lst (w1 ++ w2)) nlf
    have hlf := upd_same (H := H5) (a := lf) (o := HO.lst (w1 ++ w2))
    have lgF : LG (upd H5 lf (HO.lst (w1 ++ w2))) (w1 ++ w2) (L1 ++ M2) := paired_append (lg1.kt (KT.same (s5.trans s6))) (lg2.kt (KT.same s6))
    have iF : InR r (L1 ++ M2) := fun c hc => by
      rcases List.mem_append.mp hc with h | h
      · exact i1 c h
      · exact i2 c h
    have kF : ∀ c ∈ L1 ++ M2, wk 17 c.2 := fun c hc => by
      rcases List.mem_append.mp hc with h | h
      · exact k1 c h
      · exact k2 c h
    generalize upd H5 lf (HO.lst (w1 ++ w2)) = H6 at s6 hlf lgF ⊢
    generalize L1 ++ M2 = LF at lgF iF kF
    generalize w1 ++ w2 = wF at hlf lgF
    have s26 := s3.trans (s4.trans (s5.trans s6))
    have s36 := s4.trans (s5.trans s6)
    have s26 := s3.trans (s4.trans (s5.trans s6))
    have s36 := s4.trans (s5.trans s6)
    have s06 := s02.trans s26
    have hld6 := s26 _ _ hld
    have pD6 := pD.kt (KT.same s26)
    have hlz6 := s36 _ _ hlz
    have hS6 := s06.seq hS
    have lA : LG H6 (cutV wF none (some (60 : Int))) (LF.take 60) := by
      rw [show (some (60 : Int)) = some (((60 : Nat) : Int)) from rfl, cut_takeQ]
      exact paired_take lgF 60
    have iA : InR r (LF.take 60) := fun c hc => iF c (List.mem_of_mem_take hc)
    have kA : ∀ c ∈ LF.take 60, wk 17 c.2 := fun c hc => kF c (List.mem_of_mem_take hc)
    have al : (LF.take 60).length ≤ 60 := by rw [List.length_take]; omega
    generalize LF.take 60 = A at lA iA kA al
    have HT6 : ∀ t ∈ [tb_lies_in, tb_is_ascending], H6 t = some (TbO t) := fun t ht => s06 _ _ (HT t ht)
    have q6 : ∀ H', Same H6 H' → Q (.bl true) H' := fun H' k => q H' (s06.trans k)
    clear s26 s36 s06 s6 s05 s5 s04 s4 s03 s3 s02 s2 s1 lgF iF kF i1 i2 k1 k2 wl1 wl2 lg1 lg2 hp1 hp2 np1 np2 nlf l1 l2 hlz nlz hld pD fd2 hln fn1 zw g79 hS HT q
    refine ⟨a, ss, 4, rfl, hS6, fun c4 _ => ⟨c4, 144, rfl, by decide, fun n2 nn H7 N2 s7 fnn hnn => ?_⟩⟩
    have hld7 := s7 _ _ hld6
    have pD7 := pD6.kt (KT.same s7)
    have hlz7 := s7 _ _ hlz6
    have hS7 := s7.seq hS6
    have hlf7 := s7 _ _ hlf
    have lA7 := lA.kt (KT.same s7)
    have HT7 : ∀ t ∈ [tb_lies_in, tb_is_ascending], H7 t = some (TbO t) := fun t ht => s7 _ _ (HT6 t ht)
    have q7 : ∀ H', Same H7 H' → Q (.bl true) H' := fun H' k => q6 H' (s7.trans k)
    clear s7 hld6 pD6 hlz6 hS6 hlf lA HT6 q6 fnn
    refine hN _ _ ?_
    clear hN N
    refine sq2 fun N hN => ?_
    have tail : ∀ (pg pa pb : Addr) (wA wB : List V) (B : List Cl) (G : Hp), Same H7 G → G pg = some (.lst [.ref pa, .ref pb]) → G pa = some (.lst wA) → LG G wA A → G pb = some (.lst wB) → LG G wB B → B.length ≤ 100 → InR r B → (∀ c ∈ B, wk 17 c.2) → N [some (V.ref a), some (V.ref nn), some (V.int r), some (V.ref ld), some (V.ref lz), some (V.ref lf), some (V.ref pg), none, none, none, none] G := by
      intro pg pa pb wA wB B G s hpg hpa lA hpb lB bl iB kB
      refine hN _ _ ?_
      clear hN N
      have N144 : n2.length = 144 := N2.1
      have hld := s _ _ hld7
      have pD := pD7.kt (KT.same s)
      have hnn := s _ _ hnn
      have hS := s.seq hS7
      have HT := fun t ht => s _ _ (HT7 t ht)
      have q : ∀ H', Same G H' → Q (.bl true) H' := fun H' k => q7 H' (s.trans k)
      clear HT7 q7 hS7 hlz7 hlf7 lA7 N2
      walk_at "rd"
      refine ⟨us, .inl (SqL.of hld), fun ol fol y dy ny ndy ney => ?_⟩
      have t1 := same_upd (o := HO.lst us) fol
      refine use_init ny ndy upd_same (pD.kt (KT.same t1)) (by rw [mm2_same drs]) drs hr1 hr12 fun own Hz hh t2 _ => ⟨rfl, ?_⟩
      have t02 := t1.trans t2
      have hpg := t02 _ _ hpg
      have hpa := t02 _ _ hpa
      have hpb := t02 _ _ hpb
      have lA := lA.kt (KT.same t02)
      have lB := lB.kt (KT.same t02)
      have hld := t02 _ _ hld
      have pD := pD.kt (KT.same t02)
      have hnn := t02 _ _ hnn
      have hS := t02.seq hS
      have HT := fun t ht => t02 _ _ (HT t ht)
      have q : ∀ H', Same Hz H' → Q (.bl true) H' := fun H' k => q H' (t02.trans k)
      clear t1 t02 t2 s
      refine for_iterW ?_
      walk_at "rd"
      refine ⟨a, ld, pg, pa, pb, nn, ss, us, wA, wB, D, A, B, r, n2, rfl, hS, hld, pD, hpg, hpa, lA, by omega, iA, kA, hpb, lB, bl, iB, kB, hr1, hr12, hnn, N144, fun ls q0 H8 s8 nq0 hq0 lsl lsE => ?_⟩
      refine ⟨q0, rfl, ⟨_, SqL.of hq0⟩, ?_⟩
      have hh := hh.same s8
      have hpg := s8 _ _ hpg
      have hpa := s8 _ _ hpa
      have hpb := s8 _ _ hpb
      have lA := lA.kt (KT.same s8)
      have lB := lB.kt (KT.same s8)
      have hld := s8 _ _ hld
      have pD := pD.kt (KT.same s8)
      have HT := fun t ht => s8 _ _ (HT t ht)
      have q : ∀ H', Same H8 H' → Q (.bl true) H' := fun H' k => q H' (s8.trans k)
      clear hS hnn s8
      obtain ⟨rs, rsU, rsA⟩ : ∃ rs : List Int, rs.Pairwise (· < ·) ∧ ∀ x, x ∈ rs ↔ x ∈ A.map (·.1) := by
        refine ⟨(rg r).filter (fun x => decide (x ∈ A.map (·.1))), List.Pairwise.filter _ (rg_up r), fun x => ?_⟩
        rw [List.mem_filter, decide_eq_true_iff]
        refine ⟨fun h => h.2, fun h => ⟨?_, h⟩⟩
        obtain ⟨c, hc, rfl⟩ := List.mem_map.mp h
        exact mem_rg (iA c hc).1 (iA c hc).2
      obtain ⟨Pv, hPv⟩ : ∃ Pv : Nat → L2.St → Hp → Prop, Pv = (fun j σ H' => ∃ v8 v9 v10, σ = [some (V.ref a), some (V.ref nn), some (V.int r), some (V.ref ld), some (V.ref lz), some (V.ref lf), some (V.ref pg), some (V.ref y), v8, v9, v10] ∧ Same H8 H') := ⟨_, rfl⟩
      refine for_list (K := K) (a := q0) (xs := ls) Pv (by rw [hPv]; exact ⟨_, _, _, rfl, Same.refl _⟩) (fun i σ H' _ pv => by rw [hPv] at pv; obtain ⟨_, _, _, _, sm⟩ := pv; exact SqL.of (sm _ _ hq0)) (fun i v σ H9 gv pv => ?_) (fun σ H9 pv => ?_)
      rotate_left
      · rw [hPv] at pv
        obtain ⟨v8, v9, v10, rfl, sc⟩ := pv
        walk_at "rd"
        have hh := hh.same sc
        obtain ⟨dx1, l1, m1, ls1, ns1, e1, _⟩ := hh.ex
        refine ⟨dx1, _, e1, hf_no _ _ _ (by decide +kernel) (by decide +kernel) (by decide +kernel), y, r, D, own, rfl, hh, fun u1 p1 pl1 np1 => ?_⟩
        have s1 := same_upd (o := HO.lst u1) np1
        have dl := drs.len hr12
        exact same_ok (sm_pairs upd_same (s1 _ _ (sc _ _ hld)) (pl1.kt (KT.same s1)) (pD.kt (KT.same (sc.trans s1))) (by rw [pl1.len]; omega) 2) (q _ (sc.trans s1))
      rw [hPv] at pv
      obtain ⟨v8, v9, v10, rfl, sc⟩ := pv
      obtain ⟨ce, es, rfl, eE⟩ := lsE v (List.mem_of_getElem? gv)
      walk_at "rd"
      have eEc := eE.same sc
      obtain ⟨vE, hvE, peE⟩ := eEc.ex
      have vl := peE.length
      have esl := eEc.len
      have esh := eEc.held
      have hpg9 := sc _ _ hpg
      have hpa9 := sc _ _ hpa
      have hpb9 := sc _ _ hpb
      refine ⟨_, SqL.of hpg9, .ref pa, rfl, pa, rfl, wA, .inl (SqL.of hpa9), fun qa nqa => ?_⟩
      have t3 := same_upd (o := HO.lst wA) nqa
      have hqa := upd_same (H := H9) (a := qa) (o := HO.lst wA)
      generalize upd H9 qa (HO.lst wA) = H3 at t3 hqa ⊢
      refine ⟨_, SqL.of (t3 _ _ hpg9), .ref pb, rfl, pb, rfl, wB, .inl (SqL.of (t3 _ _ hpb9)), fun qb nqb => ?_⟩
      have t4 := same_upd (o := HO.lst wB) nqb
      have hqb := upd_same (H := H3) (a := qb) (o := HO.lst wB)
      generalize upd H3 qb (HO.lst wB) = H4 at t4 hqb ⊢
      refine ⟨vE, .inl (SqL.of (t4 _ _ (t3 _ _ hvE))), fun qc nqc => ⟨by decide, fun ph nph => ?_⟩⟩
      have t5 := same_upd (o := HO.lst vE) nqc
      have hqc := upd_same (H := H4) (a := qc) (o := HO.lst vE)
      generalize upd H4 qc (HO.lst vE) = H5 at t5 hqc nph ⊢
      have t6 := same_upd (o := HO.lst [V.ref qa, V.ref qb, V.ref qc]) nph
      have hph := upd_same (H := H5) (a := ph) (o := HO.lst [V.ref qa, V.ref qb, V.ref qc])
      generalize upd H5 ph (HO.lst [V.ref qa, V.ref qb, V.ref qc]) = H6 at t6 hph ⊢
      have t36 := t3.trans (t4.trans (t5.trans t6))
      have s6 := sc.trans t36
      have hqa := t6 _ _ (t5 _ _ (t4 _ _ hqa))
      have hqb := t6 _ _ (t5 _ _ hqb)
      have hqc := t6 _ _ hqc
      have hce := t36 _ _ hvE
      have peE := Paired.mapP peE fun v b h => h.kt (KT.same t36)
      have hpg := s6 _ _ hpg
      have hpa := s6 _ _ hpa
      have hpb := s6 _ _ hpb
      have lA := lA.kt (KT.same s6)
      have lB := lB.kt (KT.same s6)
      have hld := s6 _ _ hld
      have pD := pD.kt (KT.same s6)
      have hh := hh.same s6
      have HT := fun t ht => s6 _ _ (HT t ht)
      clear t36 t6 t5 t4 t3 sc nqa nqb nqc nph hvE hpg9 hpa9 hpb9 eE eEc
      refine ⟨_, SqL.of hph, .ref qa, rfl, _, SqL.of hph, .ref qb, rfl, _, SqL.of hph, .ref qc, rfl, ?_⟩
      refine ⟨y, qa, qb, qc, wA, wB, vE, A, B, r, D, own, es, rs, rfl, hh, hqa, lA, by omega, iA, hqb, lB, by omega, hqc, peE, by omega, rsU, rsA, HT _ (by simp), HT _ (by simp), fun k Ha hk a1 => ?_⟩
      refine ⟨ld, pg, pa, pb, ce, us, wA, wB, vE, D, A, B, r, es, rfl, a1 _ _ hld, pD.kt (KT.same a1), a1 _ _ hpg, a1 _ _ hpa, lA.kt (KT.same a1), by omega, iA, kA, a1 _ _ hpb, lB.kt (KT.same a1), by omega, iB, kB, hr12, a1 _ _ hce, Paired.mapP peE (fun v b h => h.kt (KT.same a1)), by omega, esh, fun k2 Hb hk2 a2 => ?_⟩
      have ek : k = k2 := Bool.eq_iff_iff.mpr (hk.trans (hk2 rs rsU rsA).symm)
      subst ek
      have a12 := a1.trans a2
      refine same_ok (Sm.flat rfl) ⟨true, rfl, iteF ?_⟩
      refine ⟨_, SqL.of (a12 _ _ hph), .ref qa, rfl, _, SqL.of (a12 _ _ hph), .ref qa, rfl, by decide, fun p6 np6 => ?_⟩
      have a3 := same_upd (o := HO.lst []) np6
      have hp6 := upd_same (H := Hb) (a := p6) (o := HO.lst [])
      generalize upd Hb p6 (HO.lst []) = Hc at a3 hp6 ⊢
      have a13 := a12.trans a3
      refine ⟨y, qa, qa, p6, wA, wA, [], A, A, r, D, own, [], rs, rfl, hh.same a13, a13 _ _ hqa, lA.kt (KT.same a13), by omega, iA, a13 _ _ hqa, lA.kt (KT.same a13), by omega, hp6, .nil, Nat.zero_le _, rsU, rsA, a13 _ _ (HT _ (by simp)), a13 _ _ (HT _ (by simp)), fun k3 Hd hk3 a4 => ?_⟩
      have e3 : k3 = true := hk3.mpr ⟨fun x => rfl, (cross_self A rs).symm, fun e he => by cases he⟩
      subst e3
      have a14 := a13.trans a4
      refine same_ok (Sm.flat rfl) ⟨true, rfl, iteF ?_⟩
      refine ⟨_, SqL.of (a14 _ _ hpg), .ref pa, rfl, _, SqL.of (a14 _ _ hpg), .ref pb, rfl, by decide, fun pn npn => ?_⟩
      have a5 := same_upd (o := HO.lst [V.ref pa, V.ref pb, V.ref ce]) npn
      have a15 := a14.trans a5
      refine same_ok (.inr ⟨ph, pn, _, _, rfl, rfl, .inl ⟨a15 _ _ hph, upd_same⟩, .cons (sm_logs (a15 _ _ hqa) (a15 _ _ hpa) (lA.kt (KT.same a15)) (lA.kt (KT.same a15)) (by omega) 1) (.cons (sm_logs (a15 _ _ hqb) (a15 _ _ hpb) (lB.kt (KT.same a15)) (lB.kt (KT.same a15)) (by omega) 1) (.cons ?_ .nil)), by show 3 ≤ 100000; decide⟩) ⟨true, rfl, iteF ?_⟩
      · exact sm_entriesK (a15 _ _ hqc) (a15 _ _ hce) (Paired.mapP peE fun v b h => h.kt (KT.same a15)) (Paired.mapP peE fun v b h => h.kt (KT.same a15)) (fun e he => by have := esh e he; omega) (by omega) 0
      rw [hPv]
      exact ⟨_, _, _, rfl, s6.trans a15⟩
    walk_at "rd"
    have C12 : (lastF A).length ≤ 12 := by
      have h := pig (rg r) ((lastF A).map (·.1)) (lastF_ndJ A) fun x hx => by
        obtain ⟨c, hc, rfl⟩ := List.mem_map.mp ((lastF_memJ A x).mp hx)
        exact mem_rg (iA c hc).1 (iA c hc).2
      rw [rg_len, List.length_map] at h
      omega
    refine ⟨wF, SqL.of hlf7, fun pa npa => ?_⟩
    have t1 := same_upd (o := HO.lst (cutV wF none (some (60 : Int)))) npa
    have hpa := upd_same (H := H7) (a := pa) (o := HO.lst (cutV wF none (some (60 : Int))))
    refine ⟨a, ss, 3, rfl, t1.seq hS7, fun c3 _ => ⟨wF, SqL.of (t1 _ _ hlf7), fun pc npc => ?_⟩⟩
    have t2 := same_upd (o := HO.lst (cutV wF none (some (60 : Int)))) npc
    have hpc := upd_same (H := upd H7 pa (HO.lst (cutV wF none (some (60 : Int))))) (a := pc) (o := HO.lst (cutV wF none (some (60 : Int))))
    have hpa2 := t2 _ _ hpa
    have t02 := t1.trans t2
    have lA2 := lA7.kt (KT.same t02)
    generalize eW : cutV wF none (some (60 : Int)) = wA at t02 hpc hpa2 lA2 lA7 t1 t2 hpa ⊢
    generalize upd (upd H7 pa (HO.lst wA)) pc (HO.lst wA) = G2 at t02 hpc hpa2 lA2 ⊢
    refine ⟨pc, _, A, rfl, hpc, lA2, by omega, fun wC lc G3 t3 nlc hlc lC => ?_⟩
    have t03 := t02.trans t3
    have lA3 := lA2.kt (KT.same t3)
    refine ⟨c3, lc, lz, ld, wC, us, lastF A, Z, D, r, rfl, hlc, lC, C12, lastF_ndJ A, fun c hc => iA c (lastF_sub A c hc), fun c hc => kA c (lastF_sub A c hc), t03 _ _ hlz7, z1, zw17, t03 _ _ hld7, pD7.kt (KT.same t03), hr12, fun R B wB pb G4 pR eB bl iB kB t4 npb hpb lB => ?_⟩
    refine ⟨by decide, fun pg npg => ?_⟩
    have t5 := same_upd (o := HO.lst [V.ref pa, V.ref pb]) npg
    have hpg := upd_same (H := G4) (a := pg) (o := HO.lst [V.ref pa, V.ref pb])
    generalize upd G4 pg (HO.lst [V.ref pa, V.ref pb]) = G at t5 hpg ⊢
    have t35 := t3.trans (t4.trans t5)
    have t05 := t02.trans t35
    have g0 : ∃ x, (n2.map V.int)[0]? = some (.int x) := ⟨n2[0]'(by rw [N2.1]; decide), by rw [List.getElem?_map, List.getElem?_eq_getElem (by rw [N2.1]; decide)]; rfl⟩
    obtain ⟨n0, g0⟩ := g0
    refine ⟨_, SqL.of (t05 _ _ hnn), .int n0, at_of (j := 0) rfl g0, n0, rfl, by decide, ite2 (fun _ => ?_) (fun _ => ?_)⟩
    rotate_left
    · exact tail pg pa pb wA wB B G t05 hpg (t35 _ _ hpa2) (lA2.kt (KT.same t35)) (t5 _ _ hpb) (lB.kt (KT.same t5)) (by omega) iB kB
    refine ⟨wF, SqL.of (t05 _ _ hlf7), fun pe npe => ?_⟩
    rw [eW]
    have u1 := same_upd (o := HO.lst wA) npe
    have hpe := upd_same (H := G) (a := pe) (o := HO.lst wA)
    generalize upd G pe (HO.lst wA) = G5 at u1 hpe ⊢
    have u01 := t05.trans u1
    refine ⟨a, ss, 3, rfl, u01.seq hS7, fun c5 _ => ⟨c5, r, lz, Z, rfl, hr1, u01 _ _ hlz7, z1, zw17, fun L1 w1 p1 G6 l1 i1 k1 u6 np1 hp1 lg1 => ⟨by decide, fun pf npf => ?_⟩⟩⟩
    have u7 := same_upd (o := HO.lst [V.ref pe, V.ref p1]) npf
    have u06 := u01.trans (u6.trans u7)
    exact tail pf pe p1 wA w1 L1 _ u06 upd_same (u7 _ _ (u6 _ _ hpe)) (lA7.kt (KT.same u06)) (u7 _ _ hp1) (lg1.kt (KT.same u7)) (by omega) i1 k1
end

set_option maxHeartbeats 8000000 in
theorem all_mk {l : PySem.W.OpenLaw} {w : World} {K : PySem.W.Frag} {h : Heap} {mg : Str → Option Value} {fa : Addr} (X : K.In h) (G : h.Ns mainGlobals mg) (hfa : mg "law" = some (.ref fa))
    {f_check_room_count : Addr} {od_check_room_count an_check_room_count : Option Addr} {sl_check_room_count : Array (Option Value)} {oc_check_room_count kV_check_room_count dc_check_room_count pm_check_room_count cd_check_room_count ct_check_room_count : Value}
    {f_checked_doors : Addr} {od_checked_doors an_checked_doors : Option Addr} {sl_checked_doors : Array (Option Value)} {oc_checked_doors kV_checked_doors dc_checked_doors pm_checked_doors cd_checked_doors ct_checked_doors : Value}
    {f__law_cell : Addr} {od__law_cell an__law_cell : Option Addr} {sl__law_cell : Array (Option Value)} {oc__law_cell kV__law_cell dc__law_cell pm__law_cell cd__law_cell ct__law_cell : Value}
    {f__law_numbers : Addr} {od__law_numbers an__law_numbers : Option Addr} {sl__law_numbers : Array (Option Value)} {oc__law_numbers kV__law_numbers dc__law_numbers pm__law_numbers cd__law_numbers ct__law_numbers : Value}
    {f__law_names : Addr} {od__law_names an__law_names : Option Addr} {sl__law_names : Array (Option Value)} {oc__law_names kV__law_names dc__law_names pm__law_names cd__law_names ct__law_names : Value}
    {f__law_joined : Addr} {od__law_joined an__law_joined : Option Addr} {sl__law_joined : Array (Option Value)} {oc__law_joined kV__law_joined dc__law_joined pm__law_joined cd__law_joined ct__law_joined : Value}
    {f__law_doors : Addr} {od__law_doors an__law_doors : Option Addr} {sl__law_doors : Array (Option Value)} {oc__law_doors kV__law_doors dc__law_doors pm__law_doors cd__law_doors ct__law_doors : Value}
    {f__law_word : Addr} {od__law_word an__law_word : Option Addr} {sl__law_word : Array (Option Value)} {oc__law_word kV__law_word dc__law_word pm__law_word cd__law_word ct__law_word : Value}
    {f__law_pool : Addr} {od__law_pool an__law_pool : Option Addr} {sl__law_pool : Array (Option Value)} {oc__law_pool kV__law_pool dc__law_pool pm__law_pool cd__law_pool ct__law_pool : Value}
    {f__law_length : Addr} {od__law_length an__law_length : Option Addr} {sl__law_length : Array (Option Value)} {oc__law_length kV__law_length dc__law_length pm__law_length cd__law_length ct__law_length : Value}
    {f__law_log : Addr} {od__law_log an__law_log : Option Addr} {sl__law_log : Array (Option Value)} {oc__law_log kV__law_log dc__law_log pm__law_log cd__law_log ct__law_log : Value}
    {f__law_any_log : Addr} {od__law_any_log an__law_any_log : Option Addr} {sl__law_any_log : Array (Option Value)} {oc__law_any_log kV__law_any_log dc__law_any_log pm__law_any_log cd__law_any_log ct__law_any_log : Value}
    {f__law_calls : Addr} {od__law_calls an__law_calls : Option Addr} {sl__law_calls : Array (Option Value)} {oc__law_calls kV__law_calls dc__law_calls pm__law_calls cd__law_calls ct__law_calls : Value}
    {f__law_last : Addr} {od__law_last an__law_last : Option Addr} {sl__law_last : Array (Option Value)} {oc__law_last kV__law_last dc__law_last pm__law_last cd__law_last ct__law_last : Value}
    {f__law_reach : Addr} {od__law_reach an__law_reach : Option Addr} {sl__law_reach : Array (Option Value)} {oc__law_reach kV__law_reach dc__law_reach pm__law_reach cd__law_reach ct__law_reach : Value}
    {f__law_quiet : Addr} {od__law_quiet an__law_quiet : Option Addr} {sl__law_quiet : Array (Option Value)} {oc__law_quiet kV__law_quiet dc__law_quiet pm__law_quiet cd__law_quiet ct__law_quiet : Value}
    {f__law_reordered : Addr} {od__law_reordered an__law_reordered : Option Addr} {sl__law_reordered : Array (Option Value)} {oc__law_reordered kV__law_reordered dc__law_reordered pm__law_reordered cd__law_reordered ct__law_reordered : Value}
    {f__law_padded : Addr} {od__law_padded an__law_padded : Option Addr} {sl__law_padded : Array (Option Value)} {oc__law_padded kV__law_padded dc__law_padded pm__law_padded cd__law_padded ct__law_padded : Value}
    {f__law_twin : Addr} {od__law_twin an__law_twin : Option Addr} {sl__law_twin : Array (Option Value)} {oc__law_twin kV__law_twin dc__law_twin pm__law_twin cd__law_twin ct__law_twin : Value}
    {f__law_drawn_entries : Addr} {od__law_drawn_entries an__law_drawn_entries : Option Addr} {sl__law_drawn_entries : Array (Option Value)} {oc__law_drawn_entries kV__law_drawn_entries dc__law_drawn_entries pm__law_drawn_entries cd__law_drawn_entries ct__law_drawn_entries : Value}
    {f__law_own : Addr} {od__law_own an__law_own : Option Addr} {sl__law_own : Array (Option Value)} {oc__law_own kV__law_own dc__law_own pm__law_own cd__law_own ct__law_own : Value}
    {f__law_crossed : Addr} {od__law_crossed an__law_crossed : Option Addr} {sl__law_crossed : Array (Option Value)} {oc__law_crossed kV__law_crossed dc__law_crossed pm__law_crossed cd__law_crossed ct__law_crossed : Value}
    {f__law_pieces : Addr} {od__law_pieces an__law_pieces : Option Addr} {sl__law_pieces : Array (Option Value)} {oc__law_pieces kV__law_pieces dc__law_pieces pm__law_pieces cd__law_pieces ct__law_pieces : Value}
    {f__law_hall : Addr} {od__law_hall an__law_hall : Option Addr} {sl__law_hall : Array (Option Value)} {oc__law_hall kV__law_hall dc__law_hall pm__law_hall cd__law_hall ct__law_hall : Value}
    {f__law_grown : Addr} {od__law_grown an__law_grown : Option Addr} {sl__law_grown : Array (Option Value)} {oc__law_grown kV__law_grown dc__law_grown pm__law_grown cd__law_grown ct__law_grown : Value}
    {f__law_changed : Addr} {od__law_changed an__law_changed : Option Addr} {sl__law_changed : Array (Option Value)} {oc__law_changed kV__law_changed dc__law_changed pm__law_changed cd__law_changed ct__law_changed : Value}
    {f__law_lists : Addr} {od__law_lists an__law_lists : Option Addr} {sl__law_lists : Array (Option Value)} {oc__law_lists kV__law_lists dc__law_lists pm__law_lists cd__law_lists ct__law_lists : Value}
    {f__law_keeps_apart : Addr} {od__law_keeps_apart an__law_keeps_apart : Option Addr} {sl__law_keeps_apart : Array (Option Value)} {oc__law_keeps_apart kV__law_keeps_apart dc__law_keeps_apart pm__law_keeps_apart cd__law_keeps_apart ct__law_keeps_apart : Value}
    {f__law_is_certificate : Addr} {od__law_is_certificate an__law_is_certificate : Option Addr} {sl__law_is_certificate : Array (Option Value)} {oc__law_is_certificate kV__law_is_certificate dc__law_is_certificate pm__law_is_certificate cd__law_is_certificate ct__law_is_certificate : Value}
    {f__law_same : Addr} {od__law_same an__law_same : Option Addr} {sl__law_same : Array (Option Value)} {oc__law_same kV__law_same dc__law_same pm__law_same cd__law_same ct__law_same : Value}
    {f_last_calls : Addr} {od_last_calls an_last_calls : Option Addr} {sl_last_calls : Array (Option Value)} {oc_last_calls kV_last_calls dc_last_calls pm_last_calls cd_last_calls ct_last_calls : Value}
    {f_same_last_words : Addr} {od_same_last_words an_same_last_words : Option Addr} {sl_same_last_words : Array (Option Value)} {oc_same_last_words kV_same_last_words dc_same_last_words pm_same_last_words cd_same_last_words ct_same_last_words : Value}
    {f_last_places : Addr} {od_last_places an_last_places : Option Addr} {sl_last_places : Array (Option Value)} {oc_last_places kV_last_places dc_last_places pm_last_places cd_last_places ct_last_places : Value}
    {f_crossed_pairs : Addr} {od_crossed_pairs an_crossed_pairs : Option Addr} {sl_crossed_pairs : Array (Option Value)} {oc_crossed_pairs kV_crossed_pairs dc_crossed_pairs pm_crossed_pairs cd_crossed_pairs ct_crossed_pairs : Value}
    {f_hall : Addr} {od_hall an_hall : Option Addr} {sl_hall : Array (Option Value)} {oc_hall kV_hall dc_hall pm_hall cd_hall ct_hall : Value}
    {co_lies_in tb_lies_in : Addr}
    {f_lies_in : Addr} {od_lies_in an_lies_in : Option Addr} {sl_lies_in : Array (Option Value)} {oc_lies_in kV_lies_in dc_lies_in pm_lies_in cd_lies_in ct_lies_in : Value}
    {co_is_ascending tb_is_ascending : Addr}
    {f_is_ascending : Addr} {od_is_ascending an_is_ascending : Option Addr} {sl_is_ascending : Array (Option Value)} {oc_is_ascending kV_is_ascending dc_is_ascending pm_is_ascending cd_is_ascending ct_is_ascending : Value}
    {f_is_closed : Addr} {od_is_closed an_is_closed : Option Addr} {sl_is_closed : Array (Option Value)} {oc_is_closed kV_is_closed dc_is_closed pm_is_closed cd_is_closed ct_is_closed : Value}
    {f_check_certificate : Addr} {od_check_certificate an_check_certificate : Option Addr} {sl_check_certificate : Array (Option Value)} {oc_check_certificate kV_check_certificate dc_check_certificate pm_check_certificate cd_check_certificate ct_check_certificate : Value}
    {f_law : Addr} {od_law an_law : Option Addr} {sl_law : Array (Option Value)} {oc_law kV_law dc_law pm_law cd_law ct_law : Value}
    {f_m_init_ : Addr} {od_m_init_ an_m_init_ : Option Addr} {sl_m_init_ : Array (Option Value)} {oc_m_init_ kV_m_init_ dc_m_init_ pm_m_init_ cd_m_init_ ct_m_init_ : Value}
    {f_mdoors : Addr} {od_mdoors an_mdoors : Option Addr} {sl_mdoors : Array (Option Value)} {oc_mdoors kV_mdoors dc_mdoors pm_mdoors cd_mdoors ct_mdoors : Value}
    {f_mneighbours : Addr} {od_mneighbours an_mneighbours : Option Addr} {sl_mneighbours : Array (Option Value)} {oc_mneighbours kV_mneighbours dc_mneighbours pm_mneighbours cd_mneighbours ct_mneighbours : Value}
    {C : Addr}
    {tk_MOST_ROOMS : Tok}
    (aC : PySem.W.nsIn K mainGlobals "House" = some (some (.ref C)))
    (pg : PySem.W.plainGet K C Str.empty = true)
    (hd : PySem.W.hasDictIn K C = true)
    (po : PySem.W.plainOver K C = true)
    (sa : PySem.W.findIn K (.ref C) "__setattr__" = some (some (.builtin "object.__setattr__")))
    (mk : PySem.W.makesIn K C = true)
    (kc : PySem.W.keepIn K (.ref C) = true)
    (a_check_room_count : PySem.W.nsIn K mainGlobals "check_room_count" = some (some (.ref f_check_room_count)))
    (l_check_room_count : K.lookup f_check_room_count = some ⟨oc_check_room_count, od_check_room_count, .func (PySem.W.fnOf "check_room_count" "check_room_count" (defArgs sRoom) (defBody sRoom) (defScope sRoom) .none kV_check_room_count dc_check_room_count pm_check_room_count an_check_room_count cd_check_room_count ct_check_room_count), sl_check_room_count⟩)
    (c_check_room_count : PySem.W.codeIn K cd_check_room_count "check_room_count" = true)
    (k_check_room_count : PySem.W.keepIn K (.ref f_check_room_count) = true)
    (a_checked_doors : PySem.W.nsIn K mainGlobals "checked_doors" = some (some (.ref f_checked_doors)))
    (l_checked_doors : K.lookup f_checked_doors = some ⟨oc_checked_doors, od_checked_doors, .func (PySem.W.fnOf "checked_doors" "checked_doors" (defArgs sChk) (defBody sChk) (defScope sChk) .none kV_checked_doors dc_checked_doors pm_checked_doors an_checked_doors cd_checked_doors ct_checked_doors), sl_checked_doors⟩)
    (c_checked_doors : PySem.W.codeIn K cd_checked_doors "checked_doors" = true)
    (k_checked_doors : PySem.W.keepIn K (.ref f_checked_doors) = true)
    (a__law_cell : PySem.W.nsIn K mainGlobals "_law_cell" = some (some (.ref f__law_cell)))
    (l__law_cell : K.lookup f__law_cell = some ⟨oc__law_cell, od__law_cell, .func (PySem.W.fnOf "_law_cell" "_law_cell" (defArgs sCell) (defBody sCell) (defScope sCell) .none kV__law_cell dc__law_cell pm__law_cell an__law_cell cd__law_cell ct__law_cell), sl__law_cell⟩)
    (c__law_cell : PySem.W.codeIn K cd__law_cell "_law_cell" = true)
    (k__law_cell : PySem.W.keepIn K (.ref f__law_cell) = true)
    (a__law_numbers : PySem.W.nsIn K mainGlobals "_law_numbers" = some (some (.ref f__law_numbers)))
    (l__law_numbers : K.lookup f__law_numbers = some ⟨oc__law_numbers, od__law_numbers, .func (PySem.W.fnOf "_law_numbers" "_law_numbers" (defArgs sNum) (defBody sNum) (defScope sNum) .none kV__law_numbers dc__law_numbers pm__law_numbers an__law_numbers cd__law_numbers ct__law_numbers), sl__law_numbers⟩)
    (c__law_numbers : PySem.W.codeIn K cd__law_numbers "_law_numbers" = true)
    (k__law_numbers : PySem.W.keepIn K (.ref f__law_numbers) = true)
    (a__law_names : PySem.W.nsIn K mainGlobals "_law_names" = some (some (.ref f__law_names)))
    (l__law_names : K.lookup f__law_names = some ⟨oc__law_names, od__law_names, .func (PySem.W.fnOf "_law_names" "_law_names" (defArgs sNam) (defBody sNam) (defScope sNam) .none kV__law_names dc__law_names pm__law_names an__law_names cd__law_names ct__law_names), sl__law_names⟩)
    (c__law_names : PySem.W.codeIn K cd__law_names "_law_names" = true)
    (k__law_names : PySem.W.keepIn K (.ref f__law_names) = true)
    (a__law_joined : PySem.W.nsIn K mainGlobals "_law_joined" = some (some (.ref f__law_joined)))
    (l__law_joined : K.lookup f__law_joined = some ⟨oc__law_joined, od__law_joined, .func (PySem.W.fnOf "_law_joined" "_law_joined" (defArgs sJnd) (defBody sJnd) (defScope sJnd) .none kV__law_joined dc__law_joined pm__law_joined an__law_joined cd__law_joined ct__law_joined), sl__law_joined⟩)
    (c__law_joined : PySem.W.codeIn K cd__law_joined "_law_joined" = true)
    (k__law_joined : PySem.W.keepIn K (.ref f__law_joined) = true)
    (a__law_doors : PySem.W.nsIn K mainGlobals "_law_doors" = some (some (.ref f__law_doors)))
    (l__law_doors : K.lookup f__law_doors = some ⟨oc__law_doors, od__law_doors, .func (PySem.W.fnOf "_law_doors" "_law_doors" (defArgs sDrs) (defBody sDrs) (defScope sDrs) .none kV__law_doors dc__law_doors pm__law_doors an__law_doors cd__law_doors ct__law_doors), sl__law_doors⟩)
    (c__law_doors : PySem.W.codeIn K cd__law_doors "_law_doors" = true)
    (k__law_doors : PySem.W.keepIn K (.ref f__law_doors) = true)
    (a__law_word : PySem.W.nsIn K mainGlobals "_law_word" = some (some (.ref f__law_word)))
    (l__law_word : K.lookup f__law_word = some ⟨oc__law_word, od__law_word, .func (PySem.W.fnOf "_law_word" "_law_word" (defArgs sLw4) (defBody sLw4) (defScope sLw4) .none kV__law_word dc__law_word pm__law_word an__law_word cd__law_word ct__law_word), sl__law_word⟩)
    (c__law_word : PySem.W.codeIn K cd__law_word "_law_word" = true)
    (k__law_word : PySem.W.keepIn K (.ref f__law_word) = true)
    (a__law_pool : PySem.W.nsIn K mainGlobals "_law_pool" = some (some (.ref f__law_pool)))
    (l__law_pool : K.lookup f__law_pool = some ⟨oc__law_pool, od__law_pool, .func (PySem.W.fnOf "_law_pool" "_law_pool" (defArgs sPo4) (defBody sPo4) (defScope sPo4) .none kV__law_pool dc__law_pool pm__law_pool an__law_pool cd__law_pool ct__law_pool), sl__law_pool⟩)
    (c__law_pool : PySem.W.codeIn K cd__law_pool "_law_pool" = true)
    (k__law_pool : PySem.W.keepIn K (.ref f__law_pool) = true)
    (a__law_length : PySem.W.nsIn K mainGlobals "_law_length" = some (some (.ref f__law_length)))
    (l__law_length : K.lookup f__law_length = some ⟨oc__law_length, od__law_length, .func (PySem.W.fnOf "_law_length" "_law_length" (defArgs sLen) (defBody sLen) (defScope sLen) .none kV__law_length dc__law_length pm__law_length an__law_length cd__law_length ct__law_length), sl__law_length⟩)
    (c__law_length : PySem.W.codeIn K cd__law_length "_law_length" = true)
    (k__law_length : PySem.W.keepIn K (.ref f__law_length) = true)
    (a__law_log : PySem.W.nsIn K mainGlobals "_law_log" = some (some (.ref f__law_log)))
    (l__law_log : K.lookup f__law_log = some ⟨oc__law_log, od__law_log, .func (PySem.W.fnOf "_law_log" "_law_log" (defArgs sLlg) (defBody sLlg) (defScope sLlg) .none kV__law_log dc__law_log pm__law_log an__law_log cd__law_log ct__law_log), sl__law_log⟩)
    (c__law_log : PySem.W.codeIn K cd__law_log "_law_log" = true)
    (k__law_log : PySem.W.keepIn K (.ref f__law_log) = true)
    (a__law_any_log : PySem.W.nsIn K mainGlobals "_law_any_log" = some (some (.ref f__law_any_log)))
    (l__law_any_log : K.lookup f__law_any_log = some ⟨oc__law_any_log, od__law_any_log, .func (PySem.W.fnOf "_law_any_log" "_law_any_log" (defArgs sAny) (defBody sAny) (defScope sAny) .none kV__law_any_log dc__law_any_log pm__law_any_log an__law_any_log cd__law_any_log ct__law_any_log), sl__law_any_log⟩)
    (c__law_any_log : PySem.W.codeIn K cd__law_any_log "_law_any_log" = true)
    (k__law_any_log : PySem.W.keepIn K (.ref f__law_any_log) = true)
    (a__law_calls : PySem.W.nsIn K mainGlobals "_law_calls" = some (some (.ref f__law_calls)))
    (l__law_calls : K.lookup f__law_calls = some ⟨oc__law_calls, od__law_calls, .func (PySem.W.fnOf "_law_calls" "_law_calls" (defArgs sLcs) (defBody sLcs) (defScope sLcs) .none kV__law_calls dc__law_calls pm__law_calls an__law_calls cd__law_calls ct__law_calls), sl__law_calls⟩)
    (c__law_calls : PySem.W.codeIn K cd__law_calls "_law_calls" = true)
    (k__law_calls : PySem.W.keepIn K (.ref f__law_calls) = true)
    (a__law_last : PySem.W.nsIn K mainGlobals "_law_last" = some (some (.ref f__law_last)))
    (l__law_last : K.lookup f__law_last = some ⟨oc__law_last, od__law_last, .func (PySem.W.fnOf "_law_last" "_law_last" (defArgs sLlast) (defBody sLlast) (defScope sLlast) .none kV__law_last dc__law_last pm__law_last an__law_last cd__law_last ct__law_last), sl__law_last⟩)
    (c__law_last : PySem.W.codeIn K cd__law_last "_law_last" = true)
    (k__law_last : PySem.W.keepIn K (.ref f__law_last) = true)
    (a__law_reach : PySem.W.nsIn K mainGlobals "_law_reach" = some (some (.ref f__law_reach)))
    (l__law_reach : K.lookup f__law_reach = some ⟨oc__law_reach, od__law_reach, .func (PySem.W.fnOf "_law_reach" "_law_reach" (defArgs sLre) (defBody sLre) (defScope sLre) .none kV__law_reach dc__law_reach pm__law_reach an__law_reach cd__law_reach ct__law_reach), sl__law_reach⟩)
    (c__law_reach : PySem.W.codeIn K cd__law_reach "_law_reach" = true)
    (k__law_reach : PySem.W.keepIn K (.ref f__law_reach) = true)
    (a__law_quiet : PySem.W.nsIn K mainGlobals "_law_quiet" = some (some (.ref f__law_quiet)))
    (l__law_quiet : K.lookup f__law_quiet = some ⟨oc__law_quiet, od__law_quiet, .func (PySem.W.fnOf "_law_quiet" "_law_quiet" (defArgs sLqu) (defBody sLqu) (defScope sLqu) .none kV__law_quiet dc__law_quiet pm__law_quiet an__law_quiet cd__law_quiet ct__law_quiet), sl__law_quiet⟩)
    (c__law_quiet : PySem.W.codeIn K cd__law_quiet "_law_quiet" = true)
    (k__law_quiet : PySem.W.keepIn K (.ref f__law_quiet) = true)
    (a__law_reordered : PySem.W.nsIn K mainGlobals "_law_reordered" = some (some (.ref f__law_reordered)))
    (l__law_reordered : K.lookup f__law_reordered = some ⟨oc__law_reordered, od__law_reordered, .func (PySem.W.fnOf "_law_reordered" "_law_reordered" (defArgs sLro) (defBody sLro) (defScope sLro) .none kV__law_reordered dc__law_reordered pm__law_reordered an__law_reordered cd__law_reordered ct__law_reordered), sl__law_reordered⟩)
    (c__law_reordered : PySem.W.codeIn K cd__law_reordered "_law_reordered" = true)
    (k__law_reordered : PySem.W.keepIn K (.ref f__law_reordered) = true)
    (a__law_padded : PySem.W.nsIn K mainGlobals "_law_padded" = some (some (.ref f__law_padded)))
    (l__law_padded : K.lookup f__law_padded = some ⟨oc__law_padded, od__law_padded, .func (PySem.W.fnOf "_law_padded" "_law_padded" (defArgs sLpd) (defBody sLpd) (defScope sLpd) .none kV__law_padded dc__law_padded pm__law_padded an__law_padded cd__law_padded ct__law_padded), sl__law_padded⟩)
    (c__law_padded : PySem.W.codeIn K cd__law_padded "_law_padded" = true)
    (k__law_padded : PySem.W.keepIn K (.ref f__law_padded) = true)
    (a__law_twin : PySem.W.nsIn K mainGlobals "_law_twin" = some (some (.ref f__law_twin)))
    (l__law_twin : K.lookup f__law_twin = some ⟨oc__law_twin, od__law_twin, .func (PySem.W.fnOf "_law_twin" "_law_twin" (defArgs sLtw) (defBody sLtw) (defScope sLtw) .none kV__law_twin dc__law_twin pm__law_twin an__law_twin cd__law_twin ct__law_twin), sl__law_twin⟩)
    (c__law_twin : PySem.W.codeIn K cd__law_twin "_law_twin" = true)
    (k__law_twin : PySem.W.keepIn K (.ref f__law_twin) = true)
    (a__law_drawn_entries : PySem.W.nsIn K mainGlobals "_law_drawn_entries" = some (some (.ref f__law_drawn_entries)))
    (l__law_drawn_entries : K.lookup f__law_drawn_entries = some ⟨oc__law_drawn_entries, od__law_drawn_entries, .func (PySem.W.fnOf "_law_drawn_entries" "_law_drawn_entries" (defArgs sDe) (defBody sDe) (defScope sDe) .none kV__law_drawn_entries dc__law_drawn_entries pm__law_drawn_entries an__law_drawn_entries cd__law_drawn_entries ct__law_drawn_entries), sl__law_drawn_entries⟩)
    (c__law_drawn_entries : PySem.W.codeIn K cd__law_drawn_entries "_law_drawn_entries" = true)
    (k__law_drawn_entries : PySem.W.keepIn K (.ref f__law_drawn_entries) = true)
    (a__law_own : PySem.W.nsIn K mainGlobals "_law_own" = some (some (.ref f__law_own)))
    (l__law_own : K.lookup f__law_own = some ⟨oc__law_own, od__law_own, .func (PySem.W.fnOf "_law_own" "_law_own" (defArgs sLow) (defBody sLow) (defScope sLow) .none kV__law_own dc__law_own pm__law_own an__law_own cd__law_own ct__law_own), sl__law_own⟩)
    (c__law_own : PySem.W.codeIn K cd__law_own "_law_own" = true)
    (k__law_own : PySem.W.keepIn K (.ref f__law_own) = true)
    (a__law_crossed : PySem.W.nsIn K mainGlobals "_law_crossed" = some (some (.ref f__law_crossed)))
    (l__law_crossed : K.lookup f__law_crossed = some ⟨oc__law_crossed, od__law_crossed, .func (PySem.W.fnOf "_law_crossed" "_law_crossed" (defArgs sLcr) (defBody sLcr) (defScope sLcr) .none kV__law_crossed dc__law_crossed pm__law_crossed an__law_crossed cd__law_crossed ct__law_crossed), sl__law_crossed⟩)
    (c__law_crossed : PySem.W.codeIn K cd__law_crossed "_law_crossed" = true)
    (k__law_crossed : PySem.W.keepIn K (.ref f__law_crossed) = true)
    (a__law_pieces : PySem.W.nsIn K mainGlobals "_law_pieces" = some (some (.ref f__law_pieces)))
    (l__law_pieces : K.lookup f__law_pieces = some ⟨oc__law_pieces, od__law_pieces, .func (PySem.W.fnOf "_law_pieces" "_law_pieces" (defArgs sLpc) (defBody sLpc) (defScope sLpc) .none kV__law_pieces dc__law_pieces pm__law_pieces an__law_pieces cd__law_pieces ct__law_pieces), sl__law_pieces⟩)
    (c__law_pieces : PySem.W.codeIn K cd__law_pieces "_law_pieces" = true)
    (k__law_pieces : PySem.W.keepIn K (.ref f__law_pieces) = true)
    (a__law_hall : PySem.W.nsIn K mainGlobals "_law_hall" = some (some (.ref f__law_hall)))
    (l__law_hall : K.lookup f__law_hall = some ⟨oc__law_hall, od__law_hall, .func (PySem.W.fnOf "_law_hall" "_law_hall" (defArgs sLhl) (defBody sLhl) (defScope sLhl) .none kV__law_hall dc__law_hall pm__law_hall an__law_hall cd__law_hall ct__law_hall), sl__law_hall⟩)
    (c__law_hall : PySem.W.codeIn K cd__law_hall "_law_hall" = true)
    (k__law_hall : PySem.W.keepIn K (.ref f__law_hall) = true)
    (a__law_grown : PySem.W.nsIn K mainGlobals "_law_grown" = some (some (.ref f__law_grown)))
    (l__law_grown : K.lookup f__law_grown = some ⟨oc__law_grown, od__law_grown, .func (PySem.W.fnOf "_law_grown" "_law_grown" (defArgs sGw) (defBody sGw) (defScope sGw) .none kV__law_grown dc__law_grown pm__law_grown an__law_grown cd__law_grown ct__law_grown), sl__law_grown⟩)
    (c__law_grown : PySem.W.codeIn K cd__law_grown "_law_grown" = true)
    (k__law_grown : PySem.W.keepIn K (.ref f__law_grown) = true)
    (a__law_changed : PySem.W.nsIn K mainGlobals "_law_changed" = some (some (.ref f__law_changed)))
    (l__law_changed : K.lookup f__law_changed = some ⟨oc__law_changed, od__law_changed, .func (PySem.W.fnOf "_law_changed" "_law_changed" (defArgs sCg) (defBody sCg) (defScope sCg) .none kV__law_changed dc__law_changed pm__law_changed an__law_changed cd__law_changed ct__law_changed), sl__law_changed⟩)
    (c__law_changed : PySem.W.codeIn K cd__law_changed "_law_changed" = true)
    (k__law_changed : PySem.W.keepIn K (.ref f__law_changed) = true)
    (a__law_lists : PySem.W.nsIn K mainGlobals "_law_lists" = some (some (.ref f__law_lists)))
    (l__law_lists : K.lookup f__law_lists = some ⟨oc__law_lists, od__law_lists, .func (PySem.W.fnOf "_law_lists" "_law_lists" (defArgs sLs) (defBody sLs) (defScope sLs) .none kV__law_lists dc__law_lists pm__law_lists an__law_lists cd__law_lists ct__law_lists), sl__law_lists⟩)
    (c__law_lists : PySem.W.codeIn K cd__law_lists "_law_lists" = true)
    (k__law_lists : PySem.W.keepIn K (.ref f__law_lists) = true)
    (a__law_keeps_apart : PySem.W.nsIn K mainGlobals "_law_keeps_apart" = some (some (.ref f__law_keeps_apart)))
    (l__law_keeps_apart : K.lookup f__law_keeps_apart = some ⟨oc__law_keeps_apart, od__law_keeps_apart, .func (PySem.W.fnOf "_law_keeps_apart" "_law_keeps_apart" (defArgs sKa) (defBody sKa) (defScope sKa) .none kV__law_keeps_apart dc__law_keeps_apart pm__law_keeps_apart an__law_keeps_apart cd__law_keeps_apart ct__law_keeps_apart), sl__law_keeps_apart⟩)
    (c__law_keeps_apart : PySem.W.codeIn K cd__law_keeps_apart "_law_keeps_apart" = true)
    (k__law_keeps_apart : PySem.W.keepIn K (.ref f__law_keeps_apart) = true)
    (a__law_is_certificate : PySem.W.nsIn K mainGlobals "_law_is_certificate" = some (some (.ref f__law_is_certificate)))
    (l__law_is_certificate : K.lookup f__law_is_certificate = some ⟨oc__law_is_certificate, od__law_is_certificate, .func (PySem.W.fnOf "_law_is_certificate" "_law_is_certificate" (defArgs sIk) (defBody sIk) (defScope sIk) .none kV__law_is_certificate dc__law_is_certificate pm__law_is_certificate an__law_is_certificate cd__law_is_certificate ct__law_is_certificate), sl__law_is_certificate⟩)
    (c__law_is_certificate : PySem.W.codeIn K cd__law_is_certificate "_law_is_certificate" = true)
    (k__law_is_certificate : PySem.W.keepIn K (.ref f__law_is_certificate) = true)
    (a__law_same : PySem.W.nsIn K mainGlobals "_law_same" = some (some (.ref f__law_same)))
    (l__law_same : K.lookup f__law_same = some ⟨oc__law_same, od__law_same, .func (PySem.W.fnOf "_law_same" "_law_same" (defArgs sSame) (defBody sSame) (defScope sSame) .none kV__law_same dc__law_same pm__law_same an__law_same cd__law_same ct__law_same), sl__law_same⟩)
    (c__law_same : PySem.W.codeIn K cd__law_same "_law_same" = true)
    (k__law_same : PySem.W.keepIn K (.ref f__law_same) = true)
    (a_last_calls : PySem.W.nsIn K mainGlobals "last_calls" = some (some (.ref f_last_calls)))
    (l_last_calls : K.lookup f_last_calls = some ⟨oc_last_calls, od_last_calls, .func (PySem.W.fnOf "last_calls" "last_calls" (defArgs sLast) (defBody sLast) (defScope sLast) .none kV_last_calls dc_last_calls pm_last_calls an_last_calls cd_last_calls ct_last_calls), sl_last_calls⟩)
    (c_last_calls : PySem.W.codeIn K cd_last_calls "last_calls" = true)
    (k_last_calls : PySem.W.keepIn K (.ref f_last_calls) = true)
    (a_same_last_words : PySem.W.nsIn K mainGlobals "same_last_words" = some (some (.ref f_same_last_words)))
    (l_same_last_words : K.lookup f_same_last_words = some ⟨oc_same_last_words, od_same_last_words, .func (PySem.W.fnOf "same_last_words" "same_last_words" (defArgs sSlw) (defBody sSlw) (defScope sSlw) .none kV_same_last_words dc_same_last_words pm_same_last_words an_same_last_words cd_same_last_words ct_same_last_words), sl_same_last_words⟩)
    (c_same_last_words : PySem.W.codeIn K cd_same_last_words "same_last_words" = true)
    (k_same_last_words : PySem.W.keepIn K (.ref f_same_last_words) = true)
    (a_last_places : PySem.W.nsIn K mainGlobals "last_places" = some (some (.ref f_last_places)))
    (l_last_places : K.lookup f_last_places = some ⟨oc_last_places, od_last_places, .func (PySem.W.fnOf "last_places" "last_places" (defArgs sLp) (defBody sLp) (defScope sLp) .none kV_last_places dc_last_places pm_last_places an_last_places cd_last_places ct_last_places), sl_last_places⟩)
    (c_last_places : PySem.W.codeIn K cd_last_places "last_places" = true)
    (k_last_places : PySem.W.keepIn K (.ref f_last_places) = true)
    (a_crossed_pairs : PySem.W.nsIn K mainGlobals "crossed_pairs" = some (some (.ref f_crossed_pairs)))
    (l_crossed_pairs : K.lookup f_crossed_pairs = some ⟨oc_crossed_pairs, od_crossed_pairs, .func (PySem.W.fnOf "crossed_pairs" "crossed_pairs" (defArgs sCrp) (defBody sCrp) (defScope sCrp) .none kV_crossed_pairs dc_crossed_pairs pm_crossed_pairs an_crossed_pairs cd_crossed_pairs ct_crossed_pairs), sl_crossed_pairs⟩)
    (c_crossed_pairs : PySem.W.codeIn K cd_crossed_pairs "crossed_pairs" = true)
    (k_crossed_pairs : PySem.W.keepIn K (.ref f_crossed_pairs) = true)
    (a_hall : PySem.W.nsIn K mainGlobals "hall" = some (some (.ref f_hall)))
    (l_hall : K.lookup f_hall = some ⟨oc_hall, od_hall, .func (PySem.W.fnOf "hall" "hall" (defArgs sHall) (defBody sHall) (defScope sHall) .none kV_hall dc_hall pm_hall an_hall cd_hall ct_hall), sl_hall⟩)
    (c_hall : PySem.W.codeIn K cd_hall "hall" = true)
    (k_hall : PySem.W.keepIn K (.ref f_hall) = true)
    (a_lies_in : PySem.W.nsIn K mainGlobals "lies_in" = some (some (.ref f_lies_in)))
    (l_lies_in : K.lookup f_lies_in = some ⟨oc_lies_in, od_lies_in, .func (PySem.W.fnOf "lies_in" "lies_in" (defArgs sLi) (defBody sLi) (defScope sLi) .none kV_lies_in dc_lies_in pm_lies_in an_lies_in cd_lies_in ct_lies_in), sl_lies_in⟩)
    (c_lies_in : PySem.W.codeIn K cd_lies_in "lies_in" = true)
    (k_lies_in : PySem.W.keepIn K (.ref f_lies_in) = true)
    (e_lies_in : cd_lies_in = .ref co_lies_in)
    (a_is_ascending : PySem.W.nsIn K mainGlobals "is_ascending" = some (some (.ref f_is_ascending)))
    (l_is_ascending : K.lookup f_is_ascending = some ⟨oc_is_ascending, od_is_ascending, .func (PySem.W.fnOf "is_ascending" "is_ascending" (defArgs sIa) (defBody sIa) (defScope sIa) .none kV_is_ascending dc_is_ascending pm_is_ascending an_is_ascending cd_is_ascending ct_is_ascending), sl_is_ascending⟩)
    (c_is_ascending : PySem.W.codeIn K cd_is_ascending "is_ascending" = true)
    (k_is_ascending : PySem.W.keepIn K (.ref f_is_ascending) = true)
    (e_is_ascending : cd_is_ascending = .ref co_is_ascending)
    (a_is_closed : PySem.W.nsIn K mainGlobals "is_closed" = some (some (.ref f_is_closed)))
    (l_is_closed : K.lookup f_is_closed = some ⟨oc_is_closed, od_is_closed, .func (PySem.W.fnOf "is_closed" "is_closed" (defArgs sIcl) (defBody sIcl) (defScope sIcl) .none kV_is_closed dc_is_closed pm_is_closed an_is_closed cd_is_closed ct_is_closed), sl_is_closed⟩)
    (c_is_closed : PySem.W.codeIn K cd_is_closed "is_closed" = true)
    (k_is_closed : PySem.W.keepIn K (.ref f_is_closed) = true)
    (a_check_certificate : PySem.W.nsIn K mainGlobals "check_certificate" = some (some (.ref f_check_certificate)))
    (l_check_certificate : K.lookup f_check_certificate = some ⟨oc_check_certificate, od_check_certificate, .func (PySem.W.fnOf "check_certificate" "check_certificate" (defArgs sCk) (defBody sCk) (defScope sCk) .none kV_check_certificate dc_check_certificate pm_check_certificate an_check_certificate cd_check_certificate ct_check_certificate), sl_check_certificate⟩)
    (c_check_certificate : PySem.W.codeIn K cd_check_certificate "check_certificate" = true)
    (k_check_certificate : PySem.W.keepIn K (.ref f_check_certificate) = true)
    (a_law : PySem.W.nsIn K mainGlobals "law" = some (some (.ref f_law)))
    (l_law : K.lookup f_law = some ⟨oc_law, od_law, .func (PySem.W.fnOf "law" "law" (defArgs sLaw) (defBody sLaw) (defScope sLaw) .none kV_law dc_law pm_law an_law cd_law ct_law), sl_law⟩)
    (c_law : PySem.W.codeIn K cd_law "law" = true)
    (k_law : PySem.W.keepIn K (.ref f_law) = true)
    (a_m_init_ : PySem.W.findIn K (.ref C) "__init__" = some (some (.ref f_m_init_)))
    (l_m_init_ : K.lookup f_m_init_ = some ⟨oc_m_init_, od_m_init_, .func (PySem.W.fnOf "__init__" "House.__init__" (defArgs sHinit) (defBody sHinit) (defScope sHinit) .none kV_m_init_ dc_m_init_ pm_m_init_ an_m_init_ cd_m_init_ ct_m_init_), sl_m_init_⟩)
    (c_m_init_ : PySem.W.codeIn K cd_m_init_ "House.__init__" = true)
    (k_m_init_ : PySem.W.keepIn K (.ref f_m_init_) = true)
    (i_m_init_ : PySem.W.isFn K (.ref f_m_init_) = true)
    (a_mdoors : PySem.W.findIn K (.ref C) "doors" = some (some (.ref f_mdoors)))
    (l_mdoors : K.lookup f_mdoors = some ⟨oc_mdoors, od_mdoors, .func (PySem.W.fnOf "doors" "House.doors" (defArgs sHdoors) (defBody sHdoors) (defScope sHdoors) .none kV_mdoors dc_mdoors pm_mdoors an_mdoors cd_mdoors ct_mdoors), sl_mdoors⟩)
    (c_mdoors : PySem.W.codeIn K cd_mdoors "House.doors" = true)
    (k_mdoors : PySem.W.keepIn K (.ref f_mdoors) = true)
    (i_mdoors : PySem.W.isFn K (.ref f_mdoors) = true)
    (a_mneighbours : PySem.W.findIn K (.ref C) "neighbours" = some (some (.ref f_mneighbours)))
    (l_mneighbours : K.lookup f_mneighbours = some ⟨oc_mneighbours, od_mneighbours, .func (PySem.W.fnOf "neighbours" "House.neighbours" (defArgs sHnear) (defBody sHnear) (defScope sHnear) .none kV_mneighbours dc_mneighbours pm_mneighbours an_mneighbours cd_mneighbours ct_mneighbours), sl_mneighbours⟩)
    (c_mneighbours : PySem.W.codeIn K cd_mneighbours "House.neighbours" = true)
    (k_mneighbours : PySem.W.keepIn K (.ref f_mneighbours) = true)
    (i_mneighbours : PySem.W.isFn K (.ref f_mneighbours) = true)
    (n_rooms : PySem.W.findIn K (.ref C) "rooms" = some none)
    (n__doors : PySem.W.findIn K (.ref C) "_doors" = some none)
    (n__near : PySem.W.findIn K (.ref C) "_near" = some none)
    (cr1 : PySem.W.readsIn K C (.type "type") = true)
    (cr2 : PySem.W.specialIn K (.ref C) "__getattribute__" = some (some (.builtin "type.__getattribute__")))
    (cv_MOST_ROOMS : PySem.W.findCls K (.ref C) (.type "type") "MOST_ROOMS" = some (.val (.int 12 tk_MOST_ROOMS)))
    (gf_nb : PySem.W.specialIn K (.ref f_mneighbours) "__get__" = some (some (.builtin "function.__get__")))
    (tk_nb : PySem.W.takesIn K (.ref f_mneighbours) = some false)
    (fi_nb : PySem.W.fnIn K f_mneighbours = true)
    (z_len : PySem.W.nsIn K mainGlobals "len" = some none)
    (z_abs : PySem.W.nsIn K mainGlobals "abs" = some none)
    (z_int : PySem.W.nsIn K mainGlobals "int" = some none)
    (z_range : PySem.W.nsIn K mainGlobals "range" = some none)
    (z_list : PySem.W.nsIn K mainGlobals "list" = some none)
    (z_tuple : PySem.W.nsIn K mainGlobals "tuple" = some none)
    (z_min : PySem.W.nsIn K mainGlobals "min" = some none)
    (z_max : PySem.W.nsIn K mainGlobals "max" = some none)
    (z_sorted : PySem.W.nsIn K mainGlobals "sorted" = some none)
    (z_isinstance : PySem.W.nsIn K mainGlobals "isinstance" = some none)
    (z_bool : PySem.W.nsIn K mainGlobals "bool" = some none)
    (z_str : PySem.W.nsIn K mainGlobals "str" = some none)
    (z_set : PySem.W.nsIn K mainGlobals "set" = some none)
    (z_enumerate : PySem.W.nsIn K mainGlobals "enumerate" = some none)
    (z_reversed : PySem.W.nsIn K mainGlobals "reversed" = some none)
    (z_dict : PySem.W.nsIn K mainGlobals "dict" = some none)
    (z_all : PySem.W.nsIn K mainGlobals "all" = some none)
    (z_zip : PySem.W.nsIn K mainGlobals "zip" = some none) :
    ∃ fd : FuncData, (∀ (s : Shared) (v : Value), BindsTo s fd ⟨[v], []⟩ [("script", v)]) ∧ ∀ base : Heap, K.In base → base.Ns mainGlobals mg → (∀ p ∈ [(co_lies_in, tb_lies_in), (co_is_ascending, tb_is_ascending)], LamX.TabB base mg p.1 p.2) → FnOk l.prog w K mg base CX0 6 fa fd ["script"] (spLawT K [tb_lies_in, tb_is_ascending]) := by
  have e := hfa.symm.trans (PySem.W.mg_of X G a_law)
  cases e
  have T : Bi mg := ⟨PySem.W.mg_none_of X G z_len, PySem.W.mg_none_of X G z_abs, PySem.W.mg_none_of X G z_int, PySem.W.mg_none_of X G z_range, PySem.W.mg_none_of X G z_list, PySem.W.mg_none_of X G z_tuple, PySem.W.mg_none_of X G z_min, PySem.W.mg_none_of X G z_max, PySem.W.mg_none_of X G z_sorted, PySem.W.mg_none_of X G z_isinstance, PySem.W.mg_none_of X G z_bool, PySem.W.mg_none_of X G z_str, PySem.W.mg_none_of X G z_set, PySem.W.mg_none_of X G z_enumerate⟩
  have F_check_room_count := fun_mk (st := sRoom) l_check_room_count c_check_room_count k_check_room_count
  have at_check_room_count := PySem.W.mg_of X G a_check_room_count
  have b_check_room_count := F_check_room_count.binds (ps := ["rooms"]) fun _ _ _ _ _ _ us hl => match us, hl with | [_], _ => rfl
  have F_checked_doors := fun_mk (st := sChk) l_checked_doors c_checked_doors k_checked_doors
  have at_checked_doors := PySem.W.mg_of X G a_checked_doors
  have b_checked_doors := F_checked_doors.binds (ps := ["rooms", "doors"]) fun _ _ _ _ _ _ us hl => match us, hl with | [_, _], _ => rfl
  have F__law_cell := fun_mk (st := sCell) l__law_cell c__law_cell k__law_cell
  have at__law_cell := PySem.W.mg_of X G a__law_cell
  have b__law_cell := F__law_cell.binds (ps := ["script", "k"]) fun _ _ _ _ _ _ us hl => match us, hl with | [_, _], _ => rfl
  have F__law_numbers := fun_mk (st := sNum) l__law_numbers c__law_numbers k__law_numbers
  have at__law_numbers := PySem.W.mg_of X G a__law_numbers
  have b__law_numbers := F__law_numbers.binds (ps := ["cell", "count"]) fun _ _ _ _ _ _ us hl => match us, hl with | [_, _], _ => rfl
  have F__law_names := fun_mk (st := sNam) l__law_names c__law_names k__law_names
  have at__law_names := PySem.W.mg_of X G a__law_names
  have b__law_names := F__law_names.binds (ps := ["numbers", "at", "rooms"]) fun _ _ _ _ _ _ us hl => match us, hl with | [_, _, _], _ => rfl
  have F__law_joined := fun_mk (st := sJnd) l__law_joined c__law_joined k__law_joined
  have at__law_joined := PySem.W.mg_of X G a__law_joined
  have b__law_joined := F__law_joined.binds (ps := ["kind", "a", "b", "rooms", "number", "parent"]) fun _ _ _ _ _ _ us hl => match us, hl with | [_, _, _, _, _, _], _ => rfl
  have F__law_doors := fun_mk (st := sDrs) l__law_doors c__law_doors k__law_doors
  have at__law_doors := PySem.W.mg_of X G a__law_doors
  have b__law_doors := F__law_doors.binds (ps := ["numbers", "rooms"]) fun _ _ _ _ _ _ us hl => match us, hl with | [_, _], _ => rfl
  have F__law_word := fun_mk (st := sLw4) l__law_word c__law_word k__law_word
  have at__law_word := PySem.W.mg_of X G a__law_word
  have b__law_word := F__law_word.binds (ps := ["numbers", "at"]) fun _ _ _ _ _ _ us hl => match us, hl with | [_, _], _ => rfl
  have F__law_pool := fun_mk (st := sPo4) l__law_pool c__law_pool k__law_pool
  have at__law_pool := PySem.W.mg_of X G a__law_pool
  have b__law_pool := F__law_pool.binds (ps := ["cell"]) fun _ _ _ _ _ _ us hl => match us, hl with | [_], _ => rfl
  have F__law_length := fun_mk (st := sLen) l__law_length c__law_length k__law_length
  have at__law_length := PySem.W.mg_of X G a__law_length
  have b__law_length := F__law_length.binds (ps := ["numbers", "at"]) fun _ _ _ _ _ _ us hl => match us, hl with | [_, _], _ => rfl
  have F__law_log := fun_mk (st := sLlg) l__law_log c__law_log k__law_log
  have at__law_log := PySem.W.mg_of X G a__law_log
  have b__law_log := F__law_log.binds (ps := ["numbers", "at", "many", "rooms", "words"]) fun _ _ _ _ _ _ us hl => match us, hl with | [_, _, _, _, _], _ => rfl
  have F__law_any_log := fun_mk (st := sAny) l__law_any_log c__law_any_log k__law_any_log
  have at__law_any_log := PySem.W.mg_of X G a__law_any_log
  have b__law_any_log := F__law_any_log.binds (ps := ["cell", "rooms", "words"]) fun _ _ _ _ _ _ us hl => match us, hl with | [_, _, _], _ => rfl
  have F__law_calls := fun_mk (st := sLcs) l__law_calls c__law_calls k__law_calls
  have at__law_calls := PySem.W.mg_of X G a__law_calls
  have b__law_calls := F__law_calls.binds (ps := ["script", "at", "rooms", "words", "most"]) fun _ _ _ _ _ _ us hl => match us, hl with | [_, _, _, _, _], _ => rfl
  have F__law_last := fun_mk (st := sLlast) l__law_last c__law_last k__law_last
  have at__law_last := PySem.W.mg_of X G a__law_last
  have b__law_last := F__law_last.binds (ps := ["log"]) fun _ _ _ _ _ _ us hl => match us, hl with | [_], _ => rfl
  have F__law_reach := fun_mk (st := sLre) l__law_reach c__law_reach k__law_reach
  have at__law_reach := PySem.W.mg_of X G a__law_reach
  have b__law_reach := F__law_reach.binds (ps := ["doors", "start", "inside"]) fun _ _ _ _ _ _ us hl => match us, hl with | [_, _, _], _ => rfl
  have F__law_quiet := fun_mk (st := sLqu) l__law_quiet c__law_quiet k__law_quiet
  have at__law_quiet := PySem.W.mg_of X G a__law_quiet
  have b__law_quiet := F__law_quiet.binds (ps := ["doors", "rooms", "calls", "numbers"]) fun _ _ _ _ _ _ us hl => match us, hl with | [_, _, _, _], _ => rfl
  have F__law_reordered := fun_mk (st := sLro) l__law_reordered c__law_reordered k__law_reordered
  have at__law_reordered := PySem.W.mg_of X G a__law_reordered
  have b__law_reordered := F__law_reordered.binds (ps := ["numbers", "calls", "doors", "rooms"]) fun _ _ _ _ _ _ us hl => match us, hl with | [_, _, _, _], _ => rfl
  have F__law_padded := fun_mk (st := sLpd) l__law_padded c__law_padded k__law_padded
  have at__law_padded := PySem.W.mg_of X G a__law_padded
  have b__law_padded := F__law_padded.binds (ps := ["numbers", "calls", "words"]) fun _ _ _ _ _ _ us hl => match us, hl with | [_, _, _], _ => rfl
  have F__law_twin := fun_mk (st := sLtw) l__law_twin c__law_twin k__law_twin
  have at__law_twin := PySem.W.mg_of X G a__law_twin
  have b__law_twin := F__law_twin.binds (ps := ["cell", "calls", "words", "doors", "rooms"]) fun _ _ _ _ _ _ us hl => match us, hl with | [_, _, _, _, _], _ => rfl
  have F__law_drawn_entries := fun_mk (st := sDe) l__law_drawn_entries c__law_drawn_entries k__law_drawn_entries
  have at__law_drawn_entries := PySem.W.mg_of X G a__law_drawn_entries
  have b__law_drawn_entries := F__law_drawn_entries.binds (ps := ["cell", "rooms"]) fun _ _ _ _ _ _ us hl => match us, hl with | [_, _], _ => rfl
  have F__law_own := fun_mk (st := sLow) l__law_own c__law_own k__law_own
  have at__law_own := PySem.W.mg_of X G a__law_own
  have b__law_own := F__law_own.binds (ps := ["rooms", "log"]) fun _ _ _ _ _ _ us hl => match us, hl with | [_, _], _ => rfl
  have F__law_crossed := fun_mk (st := sLcr) l__law_crossed c__law_crossed k__law_crossed
  have at__law_crossed := PySem.W.mg_of X G a__law_crossed
  have b__law_crossed := F__law_crossed.binds (ps := ["own", "order", "other"]) fun _ _ _ _ _ _ us hl => match us, hl with | [_, _, _], _ => rfl
  have F__law_pieces := fun_mk (st := sLpc) l__law_pieces c__law_pieces k__law_pieces
  have at__law_pieces := PySem.W.mg_of X G a__law_pieces
  have b__law_pieces := F__law_pieces.binds (ps := ["doors", "rooms"]) fun _ _ _ _ _ _ us hl => match us, hl with | [_, _], _ => rfl
  have F__law_hall := fun_mk (st := sLhl) l__law_hall c__law_hall k__law_hall
  have at__law_hall := PySem.W.mg_of X G a__law_hall
  have b__law_hall := F__law_hall.binds (ps := ["rooms", "order", "other", "pair"]) fun _ _ _ _ _ _ us hl => match us, hl with | [_, _, _, _], _ => rfl
  have F__law_grown := fun_mk (st := sGw) l__law_grown c__law_grown k__law_grown
  have at__law_grown := PySem.W.mg_of X G a__law_grown
  have b__law_grown := F__law_grown.binds (ps := ["doors", "rooms", "order", "other", "pairs", "numbers"]) fun _ _ _ _ _ _ us hl => match us, hl with | [_, _, _, _, _, _], _ => rfl
  have F__law_changed := fun_mk (st := sCg) l__law_changed c__law_changed k__law_changed
  have at__law_changed := PySem.W.mg_of X G a__law_changed
  have b__law_changed := F__law_changed.binds (ps := ["entries", "numbers", "rooms"]) fun _ _ _ _ _ _ us hl => match us, hl with | [_, _, _], _ => rfl
  have F__law_lists := fun_mk (st := sLs) l__law_lists c__law_lists k__law_lists
  have at__law_lists := PySem.W.mg_of X G a__law_lists
  have b__law_lists := F__law_lists.binds (ps := ["script", "doors", "rooms", "logs", "numbers"]) fun _ _ _ _ _ _ us hl => match us, hl with | [_, _, _, _, _], _ => rfl
  have F__law_keeps_apart := fun_mk (st := sKa) l__law_keeps_apart c__law_keeps_apart k__law_keeps_apart
  have at__law_keeps_apart := PySem.W.mg_of X G a__law_keeps_apart
  have b__law_keeps_apart := F__law_keeps_apart.binds (ps := ["doors", "entry", "hall_v"]) fun _ _ _ _ _ _ us hl => match us, hl with | [_, _, _], _ => rfl
  have F__law_is_certificate := fun_mk (st := sIk) l__law_is_certificate c__law_is_certificate k__law_is_certificate
  have at__law_is_certificate := PySem.W.mg_of X G a__law_is_certificate
  have b__law_is_certificate := F__law_is_certificate.binds (ps := ["doors", "rooms", "logs", "entries"]) fun _ _ _ _ _ _ us hl => match us, hl with | [_, _, _, _], _ => rfl
  have F__law_same := fun_mk (st := sSame) l__law_same c__law_same k__law_same
  have at__law_same := PySem.W.mg_of X G a__law_same
  have b__law_same := F__law_same.binds (ps := ["got", "due"]) fun _ _ _ _ _ _ us hl => match us, hl with | [_, _], _ => rfl
  have F_last_calls := fun_mk (st := sLast) l_last_calls c_last_calls k_last_calls
  have at_last_calls := PySem.W.mg_of X G a_last_calls
  have b_last_calls := F_last_calls.binds (ps := ["log"]) fun _ _ _ _ _ _ us hl => match us, hl with | [_], _ => rfl
  have F_same_last_words := fun_mk (st := sSlw) l_same_last_words c_same_last_words k_same_last_words
  have at_same_last_words := PySem.W.mg_of X G a_same_last_words
  have b_same_last_words := F_same_last_words.binds (ps := ["first", "second"]) fun _ _ _ _ _ _ us hl => match us, hl with | [_, _], _ => rfl
  have F_last_places := fun_mk (st := sLp) l_last_places c_last_places k_last_places
  have at_last_places := PySem.W.mg_of X G a_last_places
  have b_last_places := F_last_places.binds (ps := ["log"]) fun _ _ _ _ _ _ us hl => match us, hl with | [_], _ => rfl
  have F_crossed_pairs := fun_mk (st := sCrp) l_crossed_pairs c_crossed_pairs k_crossed_pairs
  have at_crossed_pairs := PySem.W.mg_of X G a_crossed_pairs
  have b_crossed_pairs := F_crossed_pairs.binds (ps := ["first", "second"]) fun _ _ _ _ _ _ us hl => match us, hl with | [_, _], _ => rfl
  have F_hall := fun_mk (st := sHall) l_hall c_hall k_hall
  have at_hall := PySem.W.mg_of X G a_hall
  have b_hall := F_hall.binds (ps := ["house", "first", "second", "pair"]) fun _ _ _ _ _ _ us hl => match us, hl with | [_, _, _, _], _ => rfl
  subst e_lies_in
  have C_lies_in : FunC K "lies_in" "lies_in" sLi f_lies_in _ co_lies_in := ⟨⟨_, _, _, _, _, _, _, _, rfl, l_lies_in, c_lies_in⟩⟩
  have F_lies_in := fun_mk (st := sLi) l_lies_in c_lies_in k_lies_in
  have at_lies_in := PySem.W.mg_of X G a_lies_in
  have b_lies_in := F_lies_in.binds (ps := ["rooms", "others"]) fun _ _ _ _ _ _ us hl => match us, hl with | [_, _], _ => rfl
  subst e_is_ascending
  have C_is_ascending : FunC K "is_ascending" "is_ascending" sIa f_is_ascending _ co_is_ascending := ⟨⟨_, _, _, _, _, _, _, _, rfl, l_is_ascending, c_is_ascending⟩⟩
  have F_is_ascending := fun_mk (st := sIa) l_is_ascending c_is_ascending k_is_ascending
  have at_is_ascending := PySem.W.mg_of X G a_is_ascending
  have b_is_ascending := F_is_ascending.binds (ps := ["rooms"]) fun _ _ _ _ _ _ us hl => match us, hl with | [_], _ => rfl
  have F_is_closed := fun_mk (st := sIcl) l_is_closed c_is_closed k_is_closed
  have at_is_closed := PySem.W.mg_of X G a_is_closed
  have b_is_closed := F_is_closed.binds (ps := ["steps", "start", "rooms", "inside"]) fun _ _ _ _ _ _ us hl => match us, hl with | [_, _, _, _], _ => rfl
  have F_check_certificate := fun_mk (st := sCk) l_check_certificate c_check_certificate k_check_certificate
  have at_check_certificate := PySem.W.mg_of X G a_check_certificate
  have b_check_certificate := F_check_certificate.binds (ps := ["house", "first", "second", "certificate"]) fun _ _ _ _ _ _ us hl => match us, hl with | [_, _, _, _], _ => rfl
  have F_law := fun_mk (st := sLaw) l_law c_law k_law
  have at_law := PySem.W.mg_of X G a_law
  have F_m_init_ := fun_mk (st := sHinit) l_m_init_ c_m_init_ k_m_init_
  have b_m_init_ := F_m_init_.binds (ps := ["self", "rooms", "doors"]) fun _ _ _ _ _ _ us hl => match us, hl with | [_, _, _], _ => rfl
  have mk_ : Mk K C f_m_init_ := ⟨mk, a_m_init_, i_m_init_, kc⟩
  have F_mdoors := fun_mk (st := sHdoors) l_mdoors c_mdoors k_mdoors
  have b_mdoors := F_mdoors.binds (ps := ["self"]) fun _ _ _ _ _ _ us hl => match us, hl with | [_], _ => rfl
  have mt_mdoors : Meth K C "doors" f_mdoors := ⟨a_mdoors, i_mdoors, k_mdoors⟩
  have F_mneighbours := fun_mk (st := sHnear) l_mneighbours c_mneighbours k_mneighbours
  have b_mneighbours := F_mneighbours.binds (ps := ["self", "room"]) fun _ _ _ _ _ _ us hl => match us, hl with | [_, _], _ => rfl
  have mt_mneighbours : Meth K C "neighbours" f_mneighbours := ⟨a_mneighbours, i_mneighbours, k_mneighbours⟩
  have U : Hs K mg C := ⟨⟨pg, hd, po, sa⟩, n_rooms, n__doors, n__near, PySem.W.mg_of X G aC, ⟨.type "type", _, ⟨cr1, cr2⟩, ⟨cv_MOST_ROOMS, ⟨_, rfl⟩⟩⟩⟩
  refine ⟨PySem.W.fnOf "law" "law" (defArgs sLaw) (defBody sLaw) (defScope sLaw) .none kV_law dc_law pm_law an_law cd_law ct_law, fun s v => .of_eq rfl, fun base _ _ HT => ?_⟩
  have B_lies_in := HT (co_lies_in, tb_lies_in) (by simp)
  have B_is_ascending := HT (co_is_ascending, tb_is_ascending) (by simp)
  have bm : BMeth K C "neighbours" f_mneighbours := ⟨mt_mneighbours, gf_nb, tk_nb, by decide +kernel, fi_nb⟩
  have D_check_room_count : Df l.prog w K mg base "check_room_count" _ 1 spRoom _ _ := ⟨at_check_room_count, k_check_room_count, b_check_room_count, ok_room F_check_room_count U⟩
  have D_checked_doors : Df l.prog w K mg base "checked_doors" _ 1 spChk _ _ := ⟨at_checked_doors, k_checked_doors, b_checked_doors, ok_chk F_checked_doors T⟩
  have GI := ok_hinit (P := l.prog) (w := w) (base := base) F_m_init_ T U D_check_room_count D_checked_doors
  have M_doors : Md l.prog w K mg base C "doors" _ 1 (spHdoors C) _ _ := ⟨mt_mdoors, b_mdoors, ok_hdoors F_mdoors T U⟩
  have GN := ok_hnear (P := l.prog) (w := w) (base := base) F_mneighbours T U
  have D__law_cell : Df l.prog w K mg base "_law_cell" _ 1 (spCell K) _ _ := ⟨at__law_cell, k__law_cell, b__law_cell, ok_cell F__law_cell T⟩
  have D__law_numbers : Df l.prog w K mg base "_law_numbers" _ 1 (spNum K) _ _ := ⟨at__law_numbers, k__law_numbers, b__law_numbers, ok_num F__law_numbers T⟩
  have D__law_names : Df l.prog w K mg base "_law_names" _ 1 (spNam K) _ _ := ⟨at__law_names, k__law_names, b__law_names, ok_nam F__law_names T⟩
  have D__law_joined : Df l.prog w K mg base "_law_joined" _ 1 spJnd _ _ := ⟨at__law_joined, k__law_joined, b__law_joined, ok_jnd F__law_joined T⟩
  have D__law_doors : Df l.prog w K mg base "_law_doors" _ 2 (spDrs K) _ _ := ⟨at__law_doors, k__law_doors, b__law_doors, ok_drs F__law_doors T D__law_names D__law_joined⟩
  have D__law_word : Df l.prog w K mg base "_law_word" _ 1 (spSp2 K) _ _ := ⟨at__law_word, k__law_word, b__law_word, ok_lw4 F__law_word T⟩
  have D__law_pool : Df l.prog w K mg base "_law_pool" _ 2 spPo4 _ _ := ⟨at__law_pool, k__law_pool, b__law_pool, ok_po4 F__law_pool T D__law_numbers D__law_word⟩
  have D__law_length : Df l.prog w K mg base "_law_length" _ 1 (spLen K) _ _ := ⟨at__law_length, k__law_length, b__law_length, ok_len F__law_length T⟩
  have D__law_log : Df l.prog w K mg base "_law_log" _ 1 (spLlg K) _ _ := ⟨at__law_log, k__law_log, b__law_log, ok_llg F__law_log T⟩
  have D__law_any_log : Df l.prog w K mg base "_law_any_log" _ 2 spAny _ _ := ⟨at__law_any_log, k__law_any_log, b__law_any_log, ok_any F__law_any_log T D__law_numbers D__law_length D__law_log⟩
  have D__law_calls : Df l.prog w K mg base "_law_calls" _ 2 (spLcs K) _ _ := ⟨at__law_calls, k__law_calls, b__law_calls, ok_lcs F__law_calls T D__law_cell⟩
  have D__law_last : Df l.prog w K mg base "_law_last" _ 1 spLast _ _ := ⟨at__law_last, k__law_last, b__law_last, ok_llast F__law_last T⟩
  have D__law_reach : Df l.prog w K mg base "_law_reach" _ 1 (spLre K) _ _ := ⟨at__law_reach, k__law_reach, b__law_reach, ok_lre F__law_reach T⟩
  have D__law_quiet : Df l.prog w K mg base "_law_quiet" _ 2 spLqu _ _ := ⟨at__law_quiet, k__law_quiet, b__law_quiet, ok_lqu F__law_quiet T D__law_reach⟩
  have D__law_reordered : Df l.prog w K mg base "_law_reordered" _ 3 spLro _ _ := ⟨at__law_reordered, k__law_reordered, b__law_reordered, ok_lro F__law_reordered T D__law_names D__law_quiet⟩
  have D__law_padded : Df l.prog w K mg base "_law_padded" _ 1 spLpd _ _ := ⟨at__law_padded, k__law_padded, b__law_padded, ok_lpd F__law_padded T⟩
  have D__law_twin : Df l.prog w K mg base "_law_twin" _ 4 spLtw _ _ := ⟨at__law_twin, k__law_twin, b__law_twin, ok_ltw F__law_twin T D__law_numbers D__law_reordered D__law_padded⟩
  have D__law_drawn_entries : Df l.prog w K mg base "_law_drawn_entries" _ 2 spDe _ _ := ⟨at__law_drawn_entries, k__law_drawn_entries, b__law_drawn_entries, ok_de F__law_drawn_entries T D__law_numbers⟩
  have D__law_own : Df l.prog w K mg base "_law_own" _ 1 spLow _ _ := ⟨at__law_own, k__law_own, b__law_own, ok_low F__law_own T⟩
  have D__law_crossed : Df l.prog w K mg base "_law_crossed" _ 1 spLcr _ _ := ⟨at__law_crossed, k__law_crossed, b__law_crossed, ok_lcr F__law_crossed T⟩
  have D__law_pieces : Df l.prog w K mg base "_law_pieces" _ 2 (spLpc K) _ _ := ⟨at__law_pieces, k__law_pieces, b__law_pieces, ok_lpc F__law_pieces T D__law_reach⟩
  have D__law_hall : Df l.prog w K mg base "_law_hall" _ 1 spLhl _ _ := ⟨at__law_hall, k__law_hall, b__law_hall, ok_lhl F__law_hall T⟩
  have D__law_grown : Df l.prog w K mg base "_law_grown" _ 3 spGw _ _ := ⟨at__law_grown, k__law_grown, b__law_grown, ok_gw F__law_grown T D__law_pieces D__law_hall⟩
  have D__law_changed : Df l.prog w K mg base "_law_changed" _ 1 spCg _ _ := ⟨at__law_changed, k__law_changed, b__law_changed, ok_cg F__law_changed T⟩
  have D__law_lists : Df l.prog w K mg base "_law_lists" _ 4 (spLs K) _ _ := ⟨at__law_lists, k__law_lists, b__law_lists, ok_ls F__law_lists T D__law_cell D__law_drawn_entries D__law_own D__law_last D__law_crossed D__law_grown D__law_changed⟩
  have D__law_keeps_apart : Df l.prog w K mg base "_law_keeps_apart" _ 1 spKa _ _ := ⟨at__law_keeps_apart, k__law_keeps_apart, b__law_keeps_apart, ok_ka F__law_keeps_apart T⟩
  have D__law_is_certificate : Df l.prog w K mg base "_law_is_certificate" _ 2 spIk _ _ := ⟨at__law_is_certificate, k__law_is_certificate, b__law_is_certificate, ok_ik F__law_is_certificate T D__law_own D__law_last D__law_crossed D__law_keeps_apart D__law_hall⟩
  have D__law_same : Df l.prog w K mg base "_law_same" _ 5 (spSame 4) _ _ := ⟨at__law_same, k__law_same, b__law_same, ok_same F__law_same T b__law_same at__law_same 4⟩
  have D_last_calls : Df l.prog w K mg base "last_calls" _ 1 spLast _ _ := ⟨at_last_calls, k_last_calls, b_last_calls, ok_last F_last_calls T (PySem.W.mg_none_of X G z_reversed)⟩
  have D_same_last_words : Df l.prog w K mg base "same_last_words" _ 2 spSlw _ _ := ⟨at_same_last_words, k_same_last_words, b_same_last_words, ok_slw F_same_last_words T (PySem.W.mg_none_of X G z_dict) D_last_calls⟩
  have D_last_places : Df l.prog w K mg base "last_places" _ 1 spLp _ _ := ⟨at_last_places, k_last_places, b_last_places, ok_lp F_last_places T⟩
  have D_crossed_pairs : Df l.prog w K mg base "crossed_pairs" _ 2 spCrp _ _ := ⟨at_crossed_pairs, k_crossed_pairs, b_crossed_pairs, ok_crp F_crossed_pairs T (PySem.W.mg_none_of X G z_dict) D_last_calls D_last_places⟩
  have D_hall : Df l.prog w K mg base "hall" _ 2 (spHall C) _ _ := ⟨at_hall, k_hall, b_hall, ok_hall F_hall T U D_last_places⟩
  have D_lies_in : Df l.prog w K mg base "lies_in" _ 2 (spLi tb_lies_in) _ _ := ⟨at_lies_in, k_lies_in, b_lies_in, ok_li C_lies_in (PySem.W.mg_none_of X G z_all) ⟨B_lies_in.code, B_lies_in.bm, B_lies_in.gP⟩⟩
  have D_is_ascending : Df l.prog w K mg base "is_ascending" _ 2 (spIa tb_is_ascending) _ _ := ⟨at_is_ascending, k_is_ascending, b_is_ascending, ok_ia C_is_ascending (PySem.W.mg_none_of X G z_all) (PySem.W.mg_none_of X G z_zip) ⟨B_is_ascending.code, B_is_ascending.bm, B_is_ascending.gP⟩⟩
  have D_is_closed : Df l.prog w K mg base "is_closed" _ 3 (spIcl C f_mneighbours tb_lies_in tb_is_ascending) _ _ := ⟨at_is_closed, k_is_closed, b_is_closed, ok_icl F_is_closed T U (PySem.W.mg_none_of X G z_all) bm GN b_mneighbours D_lies_in D_is_ascending⟩
  have D_check_certificate : Df l.prog w K mg base "check_certificate" _ 4 (spCk C tb_lies_in tb_is_ascending) _ _ := ⟨at_check_certificate, k_check_certificate, b_check_certificate, ok_ck F_check_certificate T U bm D_same_last_words D_crossed_pairs D_hall D_is_closed⟩
  exact ok_law F_law T U mk_ GI b_m_init_ M_doors D__law_cell D__law_numbers D__law_doors D__law_pool D__law_any_log D__law_calls D__law_last D__law_twin D__law_lists D__law_is_certificate D__law_same D_check_certificate
theorem walk {l : PySem.W.OpenLaw} {q : Program} {loose : List Str} {XP : (Str → Option Value) → Heap → Prop} {YP : World → Heap → Prop} {d : DefRec} {K : Params → PySem.W.Frag} {co_lies_in tb_lies_in co_is_ascending tb_is_ascending : Addr} (hn : l.most = some 63) (hdf : d.params.defaults = [])
    (hY : ∀ (w : World) (h : Heap), YP w h → (K w.params).In h)
    (th_lies_in : TabH q K ("lies_in" : Str) co_lies_in tb_lies_in)
    (th_is_ascending : TabH q K ("is_ascending" : Str) co_is_ascending tb_is_ascending)
    (nd : [tb_lies_in, tb_is_ascending].Nodup)
    (F : ∀ (w : World) (mg : Str → Option Value) (fa : Addr) (h : Heap), (K w.params).In h → h.Ns mainGlobals mg → mg d.name = some (.ref fa) →
      ∃ fd : FuncData, (∀ (s : Shared) (u : Value), BindsTo s fd ⟨[u], []⟩ [("script", u)]) ∧ ∀ base : Heap, (K w.params).In base → base.Ns mainGlobals mg → (∀ p ∈ [(co_lies_in, tb_lies_in), (co_is_ascending, tb_is_ascending)], LamX.TabB base mg p.1 p.2) → FnOk l.prog w (K w.params) mg base CX0 6 fa fd ["script"] (spLawT (K w.params) [tb_lies_in, tb_is_ascending])) :
    PySem.W.WalkO q loose XP YP l.row.toRowW d [] (fun f vs => PySem.call f vs) :=
  walkT (k := 6) (cs := [(co_lies_in, tb_lies_in), (co_is_ascending, tb_is_ascending)]) hn hdf ⟨rfl, by decide, by decide⟩ hY nd (fun p hp => by
    simp only [List.mem_cons, List.not_mem_nil, or_false] at hp
    rcases hp with rfl | rfl
    · exact ⟨_, th_lies_in⟩
    · exact ⟨_, th_is_ascending⟩) F
end My

open PySem PySem.W PyProof.Rows in
set_option maxRecDepth 100000 in
set_option maxHeartbeats 0 in
theorem PySem.Challenge.cw_callsheard_k14_check_certificate_holds : PySem.Challenge.rw_callsheard_k14_check_certificate.Holds := by
  w_on; o_law; k_head; (case hw => w_witness2)
  k_fill
  refine' My.walk (l := PySem.Challenge.rw_callsheard_k14_check_certificate) rfl rfl (fun w h Y => PySem.W.kIn_of Y) ?th_lies_in ?th_is_ascending ?nd ?F
  (case th_lies_in =>
    refine' My.TabH.of ?r ?n ?l ?e ?l2 ?v ?o
    (case n => intro w; k_is)
    (case l => intro w; k_is)
    (case e => exact rfl)
    (case l2 => intro w; k_is)
    (case v => exact rfl)
    (case o => intro w; first | rfl | k_is)
    (case r => first | kernel_rfl | decide +kernel))
  (case th_is_ascending =>
    refine' My.TabH.of ?r ?n ?l ?e ?l2 ?v ?o
    (case n => intro w; k_is)
    (case l => intro w; k_is)
    (case e => exact rfl)
    (case l2 => intro w; k_is)
    (case v => exact rfl)
    (case o => intro w; first | rfl | k_is)
    (case r => first | kernel_rfl | decide +kernel))
  (case nd => decide)
  case F =>
    intro w mg fa h KX G hmg
    refine' My.all_mk KX G hmg ?aC ?pg ?hd ?po ?sa ?mk ?kc ?a_check_room_count ?l_check_room_count ?c_check_room_count ?k_check_room_count ?a_checked_doors ?l_checked_doors ?c_checked_doors ?k_checked_doors ?a__law_cell ?l__law_cell ?c__law_cell ?k__law_cell ?a__law_numbers ?l__law_numbers ?c__law_numbers ?k__law_numbers ?a__law_names ?l__law_names ?c__law_names ?k__law_names ?a__law_joined ?l__law_joined ?c__law_joined ?k__law_joined ?a__law_doors ?l__law_doors ?c__law_doors ?k__law_doors ?a__law_word ?l__law_word ?c__law_word ?k__law_word ?a__law_pool ?l__law_pool ?c__law_pool ?k__law_pool ?a__law_length ?l__law_length ?c__law_length ?k__law_length ?a__law_log ?l__law_log ?c__law_log ?k__law_log ?a__law_any_log ?l__law_any_log ?c__law_any_log ?k__law_any_log ?a__law_calls ?l__law_calls ?c__law_calls ?k__law_calls ?a__law_last ?l__law_last ?c__law_last ?k__law_last ?a__law_reach ?l__law_reach ?c__law_reach ?k__law_reach ?a__law_quiet ?l__law_quiet ?c__law_quiet ?k__law_quiet ?a__law_reordered ?l__law_reordered ?c__law_reordered ?k__law_reordered ?a__law_padded ?l__law_padded ?c__law_padded ?k__law_padded ?a__law_twin ?l__law_twin ?c__law_twin ?k__law_twin ?a__law_drawn_entries ?l__law_drawn_entries ?c__law_drawn_entries ?k__law_drawn_entries ?a__law_own ?l__law_own ?c__law_own ?k__law_own ?a__law_crossed ?l__law_crossed ?c__law_crossed ?k__law_crossed ?a__law_pieces ?l__law_pieces ?c__law_pieces ?k__law_pieces ?a__law_hall ?l__law_hall ?c__law_hall ?k__law_hall ?a__law_grown ?l__law_grown ?c__law_grown ?k__law_grown ?a__law_changed ?l__law_changed ?c__law_changed ?k__law_changed ?a__law_lists ?l__law_lists ?c__law_lists ?k__law_lists ?a__law_keeps_apart ?l__law_keeps_apart ?c__law_keeps_apart ?k__law_keeps_apart ?a__law_is_certificate ?l__law_is_certificate ?c__law_is_certificate ?k__law_is_certificate ?a__law_same ?l__law_same ?c__law_same ?k__law_same ?a_last_calls ?l_last_calls ?c_last_calls ?k_last_calls ?a_same_last_words ?l_same_last_words ?c_same_last_words ?k_same_last_words ?a_last_places ?l_last_places ?c_last_places ?k_last_places ?a_crossed_pairs ?l_crossed_pairs ?c_crossed_pairs ?k_crossed_pairs ?a_hall ?l_hall ?c_hall ?k_hall ?a_lies_in ?l_lies_in ?c_lies_in ?k_lies_in ?e_lies_in ?a_is_ascending ?l_is_ascending ?c_is_ascending ?k_is_ascending ?e_is_ascending ?a_is_closed ?l_is_closed ?c_is_closed ?k_is_closed ?a_check_certificate ?l_check_certificate ?c_check_certificate ?k_check_certificate ?a_law ?l_law ?c_law ?k_law ?a_m_init_ ?l_m_init_ ?c_m_init_ ?k_m_init_ ?i_m_init_ ?a_mdoors ?l_mdoors ?c_mdoors ?k_mdoors ?i_mdoors ?a_mneighbours ?l_mneighbours ?c_mneighbours ?k_mneighbours ?i_mneighbours ?n_rooms ?n__doors ?n__near ?cr1 ?cr2 ?cv_MOST_ROOMS ?gf_nb ?tk_nb ?fi_nb ?z_len ?z_abs ?z_int ?z_range ?z_list ?z_tuple ?z_min ?z_max ?z_sorted ?z_isinstance ?z_bool ?z_str ?z_set ?z_enumerate ?z_reversed ?z_dict ?z_all ?z_zip
    (case aC => k_is)
    (case pg => k_is)
    (case hd => k_is)
    (case po => k_is)
    (case sa => k_is)
    (case mk => k_is)
    (case kc => k_is)
    (case a_check_room_count => k_is)
    (case l_check_room_count => k_is)
    (case c_check_room_count => k_is)
    (case k_check_room_count => k_is)
    (case a_checked_doors => k_is)
    (case l_checked_doors => k_is)
    (case c_checked_doors => k_is)
    (case k_checked_doors => k_is)
    (case a__law_cell => k_is)
    (case l__law_cell => k_is)
    (case c__law_cell => k_is)
    (case k__law_cell => k_is)
    (case a__law_numbers => k_is)
    (case l__law_numbers => k_is)
    (case c__law_numbers => k_is)
    (case k__law_numbers => k_is)
    (case a__law_names => k_is)
    (case l__law_names => k_is)
    (case c__law_names => k_is)
    (case k__law_names => k_is)
    (case a__law_joined => k_is)
    (case l__law_joined => k_is)
    (case c__law_joined => k_is)
    (case k__law_joined => k_is)
    (case a__law_doors => k_is)
    (case l__law_doors => k_is)
    (case c__law_doors => k_is)
    (case k__law_doors => k_is)
    (case a__law_word => k_is)
    (case l__law_word => k_is)
    (case c__law_word => k_is)
    (case k__law_word => k_is)
    (case a__law_pool => k_is)
    (case l__law_pool => k_is)
    (case c__law_pool => k_is)
    (case k__law_pool => k_is)
    (case a__law_length => k_is)
    (case l__law_length => k_is)
    (case c__law_length => k_is)
    (case k__law_length => k_is)
    (case a__law_log => k_is)
    (case l__law_log => k_is)
    (case c__law_log => k_is)
    (case k__law_log => k_is)
    (case a__law_any_log => k_is)
    (case l__law_any_log => k_is)
    (case c__law_any_log => k_is)
    (case k__law_any_log => k_is)
    (case a__law_calls => k_is)
    (case l__law_calls => k_is)
    (case c__law_calls => k_is)
    (case k__law_calls => k_is)
    (case a__law_last => k_is)
    (case l__law_last => k_is)
    (case c__law_last => k_is)
    (case k__law_last => k_is)
    (case a__law_reach => k_is)
    (case l__law_reach => k_is)
    (case c__law_reach => k_is)
    (case k__law_reach => k_is)
    (case a__law_quiet => k_is)
    (case l__law_quiet => k_is)
    (case c__law_quiet => k_is)
    (case k__law_quiet => k_is)
    (case a__law_reordered => k_is)
    (case l__law_reordered => k_is)
    (case c__law_reordered => k_is)
    (case k__law_reordered => k_is)
    (case a__law_padded => k_is)
    (case l__law_padded => k_is)
    (case c__law_padded => k_is)
    (case k__law_padded => k_is)
    (case a__law_twin => k_is)
    (case l__law_twin => k_is)
    (case c__law_twin => k_is)
    (case k__law_twin => k_is)
    (case a__law_drawn_entries => k_is)
    (case l__law_drawn_entries => k_is)
    (case c__law_drawn_entries => k_is)
    (case k__law_drawn_entries => k_is)
    (case a__law_own => k_is)
    (case l__law_own => k_is)
    (case c__law_own => k_is)
    (case k__law_own => k_is)
    (case a__law_crossed => k_is)
    (case l__law_crossed => k_is)
    (case c__law_crossed => k_is)
    (case k__law_crossed => k_is)
    (case a__law_pieces => k_is)
    (case l__law_pieces => k_is)
    (case c__law_pieces => k_is)
    (case k__law_pieces => k_is)
    (case a__law_hall => k_is)
    (case l__law_hall => k_is)
    (case c__law_hall => k_is)
    (case k__law_hall => k_is)
    (case a__law_grown => k_is)
    (case l__law_grown => k_is)
    (case c__law_grown => k_is)
    (case k__law_grown => k_is)
    (case a__law_changed => k_is)
    (case l__law_changed => k_is)
    (case c__law_changed => k_is)
    (case k__law_changed => k_is)
    (case a__law_lists => k_is)
    (case l__law_lists => k_is)
    (case c__law_lists => k_is)
    (case k__law_lists => k_is)
    (case a__law_keeps_apart => k_is)
    (case l__law_keeps_apart => k_is)
    (case c__law_keeps_apart => k_is)
    (case k__law_keeps_apart => k_is)
    (case a__law_is_certificate => k_is)
    (case l__law_is_certificate => k_is)
    (case c__law_is_certificate => k_is)
    (case k__law_is_certificate => k_is)
    (case a__law_same => k_is)
    (case l__law_same => k_is)
    (case c__law_same => k_is)
    (case k__law_same => k_is)
    (case a_last_calls => k_is)
    (case l_last_calls => k_is)
    (case c_last_calls => k_is)
    (case k_last_calls => k_is)
    (case a_same_last_words => k_is)
    (case l_same_last_words => k_is)
    (case c_same_last_words => k_is)
    (case k_same_last_words => k_is)
    (case a_last_places => k_is)
    (case l_last_places => k_is)
    (case c_last_places => k_is)
    (case k_last_places => k_is)
    (case a_crossed_pairs => k_is)
    (case l_crossed_pairs => k_is)
    (case c_crossed_pairs => k_is)
    (case k_crossed_pairs => k_is)
    (case a_hall => k_is)
    (case l_hall => k_is)
    (case c_hall => k_is)
    (case k_hall => k_is)
    (case a_lies_in => k_is)
    (case l_lies_in => k_is)
    (case c_lies_in => k_is)
    (case k_lies_in => k_is)
    (case e_lies_in => rfl)
    (case a_is_ascending => k_is)
    (case l_is_ascending => k_is)
    (case c_is_ascending => k_is)
    (case k_is_ascending => k_is)
    (case e_is_ascending => rfl)
    (case a_is_closed => k_is)
    (case l_is_closed => k_is)
    (case c_is_closed => k_is)
    (case k_is_closed => k_is)
    (case a_check_certificate => k_is)
    (case l_check_certificate => k_is)
    (case c_check_certificate => k_is)
    (case k_check_certificate => k_is)
    (case a_law => k_is)
    (case l_law => k_is)
    (case c_law => k_is)
    (case k_law => k_is)
    (case a_m_init_ => k_is)
    (case l_m_init_ => k_is)
    (case c_m_init_ => k_is)
    (case k_m_init_ => k_is)
    (case i_m_init_ => k_is)
    (case a_mdoors => k_is)
    (case l_mdoors => k_is)
    (case c_mdoors => k_is)
    (case k_mdoors => k_is)
    (case i_mdoors => k_is)
    (case a_mneighbours => k_is)
    (case l_mneighbours => k_is)
    (case c_mneighbours => k_is)
    (case k_mneighbours => k_is)
    (case i_mneighbours => k_is)
    (case n_rooms => k_is)
    (case n__doors => k_is)
    (case n__near => k_is)
    (case cr1 => k_is)
    (case cr2 => k_is)
    (case cv_MOST_ROOMS => k_is)
    (case gf_nb => k_is)
    (case tk_nb => k_is)
    (case fi_nb => k_is)
    (case z_len => k_is)
    (case z_abs => k_is)
    (case z_int => k_is)
    (case z_range => k_is)
    (case z_list => k_is)
    (case z_tuple => k_is)
    (case z_min => k_is)
    (case z_max => k_is)
    (case z_sorted => k_is)
    (case z_isinstance => k_is)
    (case z_bool => k_is)
    (case z_str => k_is)
    (case z_set => k_is)
    (case z_enumerate => k_is)
    (case z_reversed => k_is)
    (case z_dict => k_is)
    (case z_all => k_is)
    (case z_zip => k_is)


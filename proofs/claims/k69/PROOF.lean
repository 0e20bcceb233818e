import PyProof.Rows.All
import Wide.All
import OpenK.AllK
import Wide.FinOn
import HandS.ForMost
import HandS.SortRule
import HandS.IsInst
import HandS.Deep
import HandS.Property
import HandS.TupSets
import HandS.Style
import HandS.Conv
import HandS.Evl
import HandS.ClsMeth
import HandS.Zip
import HandS.Walk
import HandS.Strs
import HandS.Rev
import HandS.SetFor
import KE.DataCmp
import HandS.DictComp
import HandS.More
import HandS.AnyAll
import PyProof.WalksMore
import HandS.Nested
import KE.DataMinMax
import HandS.Star
import HandS.NoneIn
import HandS.EndTab
import KE.SortKeyHeap
import KE.SortUse
import PySem.Challenge.RW_callsheard_k69_hides_and_order
set_option Elab.async false
set_option linter.all false
set_option maxRecDepth 100000
namespace My
open PySem PySem.Spec PyProof.Rows L2
theorem cxK {CX : CXT} {P : Program} {w : World} {K : PySem.W.Frag} {mg : Str → Option Value} {base : Heap} {N : List Str} {q : Str} {sc : Scope} {f : Addr} {cdv : Value} {A : Around} {outer : List Env} {s : Shared} {H : Hp} {E : XK} : (cxOf CX P w K mg base N q sc f cdv A outer s H E).nox.K = K := rfl
theorem cxK2 {CX : CXT} {P : Program} {w : World} {K : PySem.W.Frag} {mg : Str → Option Value} {base : Heap} {N : List Str} {q : Str} {sc : Scope} {f : Addr} {cdv : Value} {A : Around} {outer : List Env} {s : Shared} {H : Hp} {E : XK} : (cxOf CX P w K mg base N q sc f cdv A outer s H E).K = K := rfl
theorem cxP {CX : CXT} {P : Program} {w : World} {K : PySem.W.Frag} {mg : Str → Option Value} {base : Heap} {N : List Str} {q : Str} {sc : Scope} {f : Addr} {cdv : Value} {A : Around} {outer : List Env} {s : Shared} {H : Hp} {E : XK} : (cxOf CX P w K mg base N q sc f cdv A outer s H E).prog = P := rfl
theorem cxW {CX : CXT} {P : Program} {w : World} {K : PySem.W.Frag} {mg : Str → Option Value} {base : Heap} {N : List Str} {q : Str} {sc : Scope} {f : Addr} {cdv : Value} {A : Around} {outer : List Env} {s : Shared} {H : Hp} {E : XK} : (cxOf CX P w K mg base N q sc f cdv A outer s H E).w = w := rfl
/-- built-in names that the text has not bound -/
structure Bi (mg : Str → Option Value) : Prop where
  len : mg "len" = none
  abs : mg "abs" = none
  int : mg "int" = none
  range : mg "range" = none
  list : mg "list" = none
  tuple : mg "tuple" = none
  min : mg "min" = none
  max : mg "max" = none
  sorted : mg "sorted" = none
  isinstance : mg "isinstance" = none
  bool : mg "bool" = none
  str : mg "str" = none
  set : mg "set" = none
  enumerate : mg "enumerate" = none
/-- a def of the text, bound in the module, that keeps a promise -/
structure Df (P : Program) (w : World) (K : PySem.W.Frag) (mg : Str → Option Value) (base : Heap) (x : Str) (ps : List Str) (k : Nat) (sp : Sp) (f : Addr) (fd : FuncData) : Prop where
  at_ : mg x = some (.ref f)
  kp : PySem.W.keepIn K (.ref f) = true
  b : Binds K fd ps []
  ok : FnOk P w K mg base CX0 k f fd ps sp
local macro_rules | `(tactic| walk_at "rd") => `(tactic| try simp only [cxK, cxK2, cxP, cxW, L2.start, List.length_cons, List.length_nil, List.replicate_succ, List.replicate_zero, List.map_cons, List.map_nil, List.cons_append, List.nil_append, tVar, tC, tAdd, tSub, t2I, tIsN, tNotN, tB, tAnd, tOr, tNot, tAndV, tOrV, tNotV, tIf, tNext, tSeq, tBreak, tCont, tDrop, tRet, tRetN, tIfS, gName, gNil, gCons, gTup, gSub, tAsg, tOp, tUn, rI, rI0, rU, tTest, tChain, tNil, tCons, tTup, tLst, tCall, tCB, tNoPart, tPart, tSl, rIxL, rIxT, rIxS, rSetL, rAppend, rExtend, tBM, tBM0, tFld, tMeth, tMake, sFld, tYes, tLstRg, tRg1, tRg2, rSlL, iRng1, iRng2, iList, List.getElem?_cons_zero, List.getElem?_cons_succ, Option.some.injEq, List.cons.injEq, V.int.injEq, V.ref.injEq, V.bl.injEq, V.str.injEq, exists_eq_left', exists_eq_left, exists_eq_right, exists_eq_right', true_and, and_true, and_assoc, exists_and_left, exists_and_right, List.set_cons_zero, List.set_cons_succ, List.append_nil, reduceCtorEq, false_and, and_false, exists_false, or_false, false_or, decide_eq_true_eq, Nat.reduceAdd, Nat.reduceSub])
section
variable {X : Cx}
theorem cr_intI : CallR X (.type "int") (fun xs H Q => ∃ i, xs = [.int i] ∧ Q (.int i) H) := fun pins s σ H xs us Q I r h => call_int1 pins s σ H xs us Q I r (.inl h)
theorem op_eqI : OpR X (compareOp .Eq) (rI0 fun i j => .bl (decide (i = j))) := fun pins s σ H x y v u Q I rx ry h => by
  obtain ⟨i, j, rfl, rfl, q⟩ := h
  have e : decide (i = j) = decide (V.int i = V.int j) := by
    by_cases h : i = j
    · subst h
      rw [decide_eq_true rfl, decide_eq_true rfl]
    · rw [decide_eq_false h, decide_eq_false (fun z => h (V.int.inj z))]
  exact op_eq pins s σ H _ _ v u Q I rx ry ⟨rfl, by rw [← e]; exact q⟩
theorem op_neI : OpR X (compareOp .NotEq) (rI0 fun i j => .bl (!decide (i = j))) := fun pins s σ H x y v u Q I rx ry h => by
  obtain ⟨i, j, rfl, rfl, q⟩ := h
  have e : decide (i = j) = decide (V.int i = V.int j) := by
    by_cases h : i = j
    · subst h
      rw [decide_eq_true rfl, decide_eq_true rfl]
    · rw [decide_eq_false h, decide_eq_false (fun z => h (V.int.inj z))]
  exact op_ne pins s σ H _ _ v u Q I rx ry ⟨rfl, by rw [← e]; exact q⟩
def rIsT : R2 := fun x y H Q => ∃ b : Bool, y = .bl b ∧ Q (.bl (decide (x = .bl b))) H
/-- x is True, x is False -/
theorem op_isT : OpR X (compareOp .Is) rIsT := by
  intro pins s σ H x y v u Q I rx ry h
  obtain ⟨b, rfl, q⟩ := h
  cases (show u = Value.bool b from ry)
  cases x with
  | non => cases (show v = Value.none from rx); exact wpAny_is_other rfl (fun z => nomatch z) ⟨.bl false, H, I, rfl, by simpa using q⟩
  | bl a =>
    cases (show v = Value.bool a from rx)
    by_cases e : a = b
    · subst e
      exact wpAny_is_self rfl ⟨.bl true, H, I, rfl, by simpa using q⟩
    · exact wpAny_is_other rfl (fun z => e (Value.bool.inj z)) ⟨.bl false, H, I, rfl, by simpa [e] using q⟩
  | int i => obtain ⟨t, e⟩ := (show ∃ t, v = Value.int i t from rx); cases e; exact wpAny_is_other rfl (fun z => nomatch z) ⟨.bl false, H, I, rfl, by simpa using q⟩
  | str i => obtain ⟨t, e⟩ := (show ∃ t, v = Value.str i t from rx); cases e; exact wpAny_is_other rfl (fun z => nomatch z) ⟨.bl false, H, I, rfl, by simpa using q⟩
  | byt i => obtain ⟨t, e⟩ := (show ∃ t, v = Value.bytes i t from rx); cases e; exact wpAny_is_other rfl (fun z => nomatch z) ⟨.bl false, H, I, rfl, by simpa using q⟩
  | flt i => obtain ⟨t, e⟩ := (show ∃ t, v = Value.float i t from rx); cases e; exact wpAny_is_other rfl (fun z => nomatch z) ⟨.bl false, H, I, rfl, by simpa using q⟩
  | ref a => cases (show v = Value.ref a from rx); exact wpAny_is_other rfl (fun z => nomatch z) ⟨.bl false, H, I, rfl, by simpa using q⟩
  | ty n => cases (show v = Value.type n from rx); exact wpAny_is_other rfl (fun z => nomatch z) ⟨.bl false, H, I, rfl, by simpa using q⟩
end
theorem same_upd {H : Hp} {p : Addr} {o : HO} (h : H p = none) : Same H (upd H p o) := fun b x e => by
  rw [upd_ne (ne_of_none e h)]
  exact e
/-- a list that was new and is changed: what stood before stands -/
theorem same_ch {H0 H : Hp} {p : Addr} {o : HO} (s : Same H0 H) (n : H0 p = none) : Same H0 (upd H p o) := fun b x e => by
  rw [upd_ne (ne_of_none e n)]
  exact s _ _ e
theorem ixn {n j : Nat} {z : Int} (e : z = (j : Int)) (hj : j < n) : ixN n z = some j := by
  rw [e]
  unfold ixN
  rw [if_pos (by omega), if_pos (by omega)]
  simp
theorem len_big {n : Nat} (h : n ≤ 100000) : n < sizeLine := Nat.lt_of_le_of_lt h (by decide)
theorem mem_ix {α : Type} {l : List α} {i : Nat} (h : i < l.length) : ∃ x, l[i]? = some x ∧ x ∈ l := ⟨l[i], List.getElem?_eq_getElem h, List.getElem_mem h⟩

local macro_rules | `(tactic| walk_at "rg") => `(tactic| try simp only [cxK, cxK2, cxP, cxW, L2.start, List.length_cons, List.length_nil, List.replicate_succ, List.replicate_zero, List.map_cons, List.map_nil, List.cons_append, List.nil_append, gName, gNil, gCons, gTup, gSub, List.getElem?_cons_zero, List.getElem?_cons_succ, Option.some.injEq, List.cons.injEq, V.int.injEq, V.ref.injEq, V.bl.injEq, V.str.injEq, exists_eq_left', exists_eq_left, exists_eq_right, exists_eq_right', true_and, and_true, and_assoc, exists_and_left, exists_and_right, List.set_cons_zero, List.set_cons_succ, List.append_nil, reduceCtorEq, false_and, and_false, exists_false, or_false, false_or, decide_eq_true_eq, Nat.reduceAdd, Nat.reduceSub])
def topS (i : Nat) : Stmt := PySem.Challenge.pw_callsheard_k69_hides_and_order.main.body.getD i (.Pass ⟨0, 0, 0, 0⟩)
abbrev sCell : Stmt := topS 42
abbrev sNum : Stmt := topS 43
def cellN (ns : List Int) (k : Nat) : Int := (ns.getD k 0).natAbs
theorem cellN_nn (ns : List Int) (k : Nat) : 0 ≤ cellN ns k := Int.natCast_nonneg _
section
variable {P : Program} {w : World} {K : PySem.W.Frag} {mg : Str → Option Value} {base : Heap}
theorem scCell : FnScope ["script", "k"] ["script", "k"] (defScope sCell) := ⟨rfl, rfl, rfl, by decide +kernel, rfl, by decide +kernel, by decide +kernel⟩
def spCell (K : PySem.W.Frag) : Sp := fun vs H Q _ => ∃ (a : Addr) (ns : List Int) (k : Nat), vs = [.ref a, .int k] ∧ SqL K H a (ns.map V.int) ∧ ∀ c, 0 ≤ c → Q (.int c) H
theorem ok_cell {f : Addr} {fd : FuncData} (F : Fun K "_law_cell" "_law_cell" sCell f fd) (T : Bi mg) : FnOk P w K mg base CX0 1 f fd ["script", "k"] (spCell K) := by
  refine F.ok scCell (fun vs H Q E h => ?_) (fun cdv A outer s H vs Q E hr h => ?_)
  · obtain ⟨a, ns, k, rfl, _⟩ := h
    rfl
  · obtain ⟨a, ns, k, rfl, hS, q⟩ := h
    refine ⟨_, (pss_cons (ps_if (pt_cmpR op_lt (pv 1) (pe_callB call_len_seq (by rfl) T.len (by decide +kernel) (pa_cons (pv 0) pa_nil)) (nomark _))
      (pss_one (ps_ret (pe_callB call_abs (by rfl) T.abs (by decide +kernel) (pa_cons (pe_callTy cr_intI (by rfl) T.int (by decide +kernel) (pa_cons (pe_ix ix_list (pv 0) (pv 1) (fun _ _ => rfl)) pa_nil)) pa_nil))))
      pss_nil)
      (pss_one (ps_ret pe_int))), ?_⟩
    walk_at "rd"
    refine ⟨_, .inl hS, ?_⟩
    rw [List.length_map]
    refine ite2 (fun hk => ?_) (fun _ => q _ (Int.le_refl _))
    have hk2 : k < ns.length := by omega
    refine ⟨_, hS, V.int ns[k], atI_nat (by rw [List.getElem?_map, List.getElem?_eq_getElem hk2]; rfl), _, rfl, ?_⟩
    refine q _ ?_
    split <;> omega
theorem scNum : FnScope ["cell", "count", "numbers", "rest", "mixed", "k"] ["cell", "count"] (defScope sNum) := ⟨rfl, rfl, rfl, by decide +kernel, rfl, by decide +kernel, by decide +kernel⟩
/-- n ints from 0 on below 997 -/
def Nums (n : Nat) (ns : List Int) : Prop := ns.length = n ∧ ∀ x ∈ ns, 0 ≤ x ∧ x < 997
def spNum (K : PySem.W.Frag) : Sp := fun vs H Q _ => ∃ (c : Int) (n : Nat), vs = [.int c, .int n] ∧ n ≤ 2000 ∧ ∀ ns p H', Nums n ns → Same H H' → H p = none → H' p = some (.lst (ns.map V.int)) → Q (.ref p) H'
theorem ok_num {f : Addr} {fd : FuncData} (F : Fun K "_law_numbers" "_law_numbers" sNum f fd) (T : Bi mg) : FnOk P w K mg base CX0 1 f fd ["cell", "count"] (spNum K) := by
  refine F.ok scNum (fun vs H Q E h => ?_) (fun cdv A outer s H vs Q E hr h => ?_)
  · obtain ⟨c, n, rfl, _⟩ := h
    rfl
  · obtain ⟨c, n, rfl, hn, q⟩ := h
    refine ⟨_, (pss_cons (ps_set (i := 2) scNum.nd rfl (Or.inl rfl) (pe_lst pa_nil))
      (pss_cons (ps_set (i := 3) scNum.nd rfl (Or.inl rfl) (pv 0))
      (pss_cons (ps_set (i := 4) scNum.nd rfl (Or.inl rfl) (pe_op op_mod (pe_callTy cr_intI (by rfl) T.int (by decide +kernel) (pa_cons (pe_op op_add (pe_op op_mul (pv 0) pe_int) pe_int) pa_nil)) pe_int))
      (pss_cons (ps_for PassesOwn.never rfl (pi_range1 (by rfl) T.range (pa_cons (pv 1) pa_nil)) (pg_name (i := 5) scNum.nd rfl (Or.inl rfl))
      (pss_cons (ps_set (i := 4) scNum.nd rfl (Or.inl rfl) (pe_op op_mod (pe_callTy cr_intI (by rfl) T.int (by decide +kernel) (pa_cons (pe_op op_add (pe_op op_add (pe_op op_mul (pv 4) pe_int) (pe_op op_mul pe_int (pv 5))) pe_int) pa_nil)) pe_int))
        (pss_one (ps_if (pt_cmpR op_ge (pv 0) (pe_op op_pow pe_int pe_int) (nomark _))
        (pss_cons (ps_expr (pe_bm PySem.F.plainAttrs_list PySem.F.slot_list_append PySem.F.type_list_append mt_append (pv 2) (pa_cons (pe_op op_mod (pe_callTy cr_intI (by rfl) T.int (by decide +kernel) (pa_cons (pv 3) pa_nil)) pe_int) pa_nil)))
          (pss_one (ps_set (i := 3) scNum.nd rfl (Or.inl rfl) (pe_op op_fdiv (pv 3) pe_int))))
        (pss_one (ps_expr (pe_bm PySem.F.plainAttrs_list PySem.F.slot_list_append PySem.F.type_list_append mt_append (pv 2) (pa_cons (pe_op op_mod (pe_callTy cr_intI (by rfl) T.int (by decide +kernel) (pa_cons (pe_op op_fdiv (pv 4) pe_int) pa_nil)) pe_int) pa_nil))))))))
      (pss_one (ps_ret (pv 2))))))), ?_⟩
    walk_at "rd"
    refine ⟨by decide, fun p np => ⟨.inr (by decide), by decide, ?_⟩⟩
    refine ⟨_, rfl, _, rfl, by omega, by omega, for_range (lo := 0) (n := (n : Int).toNat) (fun i σ H' => ∃ (ns : List Int) (rest mixed : Int) (v : Option V), σ = [some (.int c), some (.int n), some (.ref p), some (.int rest), some (.int mixed), v] ∧ Nums i ns ∧ Same H H' ∧ H' p = some (.lst (ns.map V.int)))
      ⟨[], c, _, none, rfl, ⟨rfl, fun x hx => by cases hx⟩, same_upd np, upd_same⟩ ?_ ?_⟩
    · rintro i σ H' hi ⟨ns, rest, mixed, v, rfl, hns, sm, hp⟩
      have small : (List.map V.int ns).length < sizeLine := len_big (by rw [List.length_map, hns.1]; omega)
      have next : ∀ y, 0 ≤ y → y < 997 → Nums (i + 1) (ns ++ [y]) := fun y h0 h1 => by
        refine ⟨by rw [List.length_append, hns.1]; rfl, fun x hx => ?_⟩
        rcases List.mem_append.mp hx with hx | hx
        · exact hns.2 x hx
        · rw [List.mem_singleton.mp hx]
          exact ⟨h0, h1⟩
      have ty : tyV K "list" (.ref p) H' := .inl ⟨rfl, _, SqL.of hp⟩
      walk_at "rd"
      refine ⟨.inr (by decide), .inl (by decide), by decide, ⟨by decide, by decide, by decide⟩, ite2 (fun _ => ?_) (fun _ => ?_)⟩
      · refine ⟨ty, by decide, _, hp, small, ⟨by decide, by decide⟩, ns ++ [rest % 997], next _ (Int.emod_nonneg _ (by decide)) (Int.emod_lt_of_pos _ (by decide)), same_ch sm np, ?_⟩
        rw [upd_same, List.map_append]
        rfl
      · refine ⟨ty, ⟨by decide, by decide⟩, by decide, _, hp, small, ns ++ [(mixed * 48271 + 7919 * (0 + (i : Int)) + 12345) % 2147483647 / 1009 % 997], next _ (Int.emod_nonneg _ (by decide)) (Int.emod_lt_of_pos _ (by decide)), same_ch sm np, ?_⟩
        rw [upd_same, List.map_append]
        rfl
    · rintro σ H' ⟨ns, rest, mixed, v, rfl, hns, sm, hp⟩
      walk_at "rd"
      exact q ns p H' (by simpa using hns) sm np hp
end

/-! ### pairs of ints in the heap -/
abbrev Pr := Int × Int
/-- v is a tuple of the two ints -/
def IsP (H : Hp) (v : V) (d : Pr) : Prop := ∃ t, v = .ref t ∧ H t = some (.tup [.int d.1, .int d.2])
def PL (H : Hp) (vs : List V) (D : List Pr) : Prop := Paired (IsP H) vs D
def kH (H : Hp) (v : V) : Pr := match v with
  | .ref t => match H t with
    | some (.tup [.int x, .int y]) => (x, y)
    | _ => (0, 0)
  | _ => (0, 0)
theorem IsP.k {H : Hp} {v : V} {d : Pr} (h : IsP H v d) : kH H v = d := by
  obtain ⟨t, rfl, e⟩ := h
  unfold kH
  simp only [e]
/-- tuples stand -/
def KT (H H' : Hp) : Prop := ∀ t xs, H t = some (.tup xs) → H' t = some (.tup xs)
theorem KT.refl (H : Hp) : KT H H := fun _ _ h => h
theorem KT.trans {H H1 H2 : Hp} (a : KT H H1) (b : KT H1 H2) : KT H H2 := fun t xs h => b t xs (a t xs h)
theorem KT.same {H H' : Hp} (s : Same H H') : KT H H' := fun t xs h => s t _ h
theorem KT.new {H : Hp} {p : Addr} {o : HO} (n : H p = none) : KT H (upd H p o) := KT.same (same_upd n)
theorem KT.ch {H : Hp} {p : Addr} {o o' : HO} (n : H p = some o') (ho : ∀ xs, o' ≠ .tup xs) : KT H (upd H p o) := fun t xs h => by
  rw [upd_ne]
  · exact h
  · rintro rfl
    rw [h] at n
    exact ho xs (Option.some.inj n).symm
theorem KT.lst {H : Hp} {p : Addr} {o : HO} {vs : List V} (n : H p = some (.lst vs)) : KT H (upd H p o) := KT.ch n (fun _ h => by cases h)
theorem IsP.kt {H H' : Hp} {v : V} {d : Pr} (h : IsP H v d) (k : KT H H') : IsP H' v d := by
  obtain ⟨t, e, h⟩ := h
  exact ⟨t, e, k _ _ h⟩
theorem PL.kt {H H' : Hp} {vs : List V} {D : List Pr} (h : PL H vs D) (k : KT H H') : PL H' vs D := Paired.mapP h fun _ _ q => q.kt k
theorem PL.len {H : Hp} {vs : List V} {D : List Pr} (h : PL H vs D) : vs.length = D.length := Paired.length h
theorem PL.nil0 (H : Hp) : PL H [] [] := Paired.nil
theorem PL.snoc {H : Hp} {vs : List V} {D : List Pr} {v : V} {d : Pr} (h : PL H vs D) (q : IsP H v d) : PL H (vs ++ [v]) (D ++ [d]) := Paired.snoc h q
theorem PL.get : ∀ {H : Hp} {vs : List V} {D : List Pr} {i : Nat} {v : V}, PL H vs D → vs[i]? = some v → ∃ d, D[i]? = some d ∧ IsP H v d
  | _, _, _, _, _, Paired.nil, e => by simp at e
  | _, _, _, 0, v, .cons r _, e => by
    have e2 := Option.some.inj e
    subst e2
    exact ⟨_, rfl, r⟩
  | _, _, _, i + 1, v, .cons _ t, e => PL.get (i := i) t e
theorem PL.get2 : ∀ {H : Hp} {vs : List V} {D : List Pr} {i : Nat} {d : Pr}, PL H vs D → D[i]? = some d → ∃ v, vs[i]? = some v ∧ IsP H v d
  | _, _, _, _, _, Paired.nil, e => by simp at e
  | _, _, _, 0, v, .cons r _, e => by
    have e2 := Option.some.inj e
    subst e2
    exact ⟨_, rfl, r⟩
  | _, _, _, i + 1, v, .cons _ t, e => PL.get2 (i := i) t e
theorem PL.toK : ∀ {H : Hp} {vs : List V} {D : List Pr}, PL H vs D → D = vs.map (kH H) ∧ ∀ v ∈ vs, IsP H v (kH H v)
  | _, _, _, Paired.nil => ⟨rfl, fun v hv => by cases hv⟩
  | H, _, _, .cons r t => by
    obtain ⟨e, h⟩ := PL.toK t
    have q := r.k
    refine ⟨by rw [List.map_cons, ← e, q], fun v hv => ?_⟩
    rcases List.mem_cons.mp hv with rfl | hv
    · rw [q]
      exact r
    · exact h v hv
theorem PL.ofK {H : Hp} : ∀ {vs : List V}, (∀ v ∈ vs, IsP H v (kH H v)) → PL H vs (vs.map (kH H))
  | [], _ => Paired.nil
  | v :: vs, h => .cons (h v List.mem_cons_self) (PL.ofK fun u hu => h u (List.mem_cons_of_mem _ hu))
/-! ### sorted lists of pairs -/
def lt2 (p q : Pr) : Prop := p.1 < q.1 ∨ (p.1 = q.1 ∧ p.2 < q.2)
def Asc (D : List Pr) : Prop := D.Pairwise lt2
theorem lt2_irr (p : Pr) : ¬ lt2 p p := by
  unfold lt2
  omega
theorem lt2_ne {p q : Pr} (h : lt2 p q) : p ≠ q := by
  rintro rfl
  exact lt2_irr p h
theorem Asc.nodup {D : List Pr} (h : Asc D) : D.Nodup := List.Pairwise.imp lt2_ne h
theorem asc_of {D : List Pr} (nd : D.Nodup) (h : D.Pairwise fun x y => ¬ lt2 y x) : Asc D := by
  induction D with
  | nil => exact List.Pairwise.nil
  | cons p D ih =>
    obtain ⟨h1, h2⟩ := List.pairwise_cons.mp h
    obtain ⟨n1, n2⟩ := List.nodup_cons.mp nd
    refine List.pairwise_cons.mpr ⟨fun q hq => ?_, ih n2 h2⟩
    have a := h1 q hq
    have b : p ≠ q := fun e => n1 (by rw [e]; exact hq)
    unfold lt2 at a ⊢
    obtain ⟨p1, p2⟩ := p
    obtain ⟨q1, q2⟩ := q
    have c : ¬ (p1 = q1 ∧ p2 = q2) := fun ⟨e1, e2⟩ => b (by rw [e1, e2])
    simp only at a ⊢
    omega
/-- two ascending lists with the same pairs are one -/
theorem asc_uniq : ∀ {D E : List Pr}, Asc D → Asc E → (∀ p, p ∈ D ↔ p ∈ E) → D = E
  | [], [], _, _, _ => rfl
  | [], q :: E, _, _, h => by
    have := (h q).mpr List.mem_cons_self
    cases this
  | p :: D, [], _, _, h => by
    have := (h p).mp List.mem_cons_self
    cases this
  | p :: D, q :: E, hD, hE, h => by
    obtain ⟨a1, a2⟩ := List.pairwise_cons.mp hD
    obtain ⟨b1, b2⟩ := List.pairwise_cons.mp hE
    have e : p = q := by
      rcases List.mem_cons.mp ((h p).mp List.mem_cons_self) with e | hp
      · exact e
      · rcases List.mem_cons.mp ((h q).mpr List.mem_cons_self) with e | hq
        · exact e.symm
        · have c1 := b1 p hp
          have c2 := a1 q hq
          unfold lt2 at c1 c2
          omega
    subst e
    rw [asc_uniq a2 b2 fun z => ?_]
    constructor
    · intro hz
      rcases List.mem_cons.mp ((h z).mp (List.mem_cons_of_mem _ hz)) with e | hz2
      · subst e
        exact absurd (a1 z hz) (lt2_irr z)
      · exact hz2
    · intro hz
      rcases List.mem_cons.mp ((h z).mpr (List.mem_cons_of_mem _ hz)) with e | hz2
      · subst e
        exact absurd (b1 z hz) (lt2_irr z)
      · exact hz2
theorem srtd_asc {H : Hp} {ys : List V} (nd : (ys.map (kH H)).Nodup) (h : SrtO.Srtd (ltP (kH H)) ys) : Asc (ys.map (kH H)) := by
  refine asc_of nd (List.pairwise_map.mpr (List.Pairwise.imp (fun {x y} h => ?_) h))
  exact SrtO.lexB_no.mp h
/-- doors of a house with r rooms -/
structure Drs (r : Nat) (D : List Pr) : Prop where
  asc : Asc D
  ok : ∀ d ∈ D, 0 ≤ d.1 ∧ d.1 < d.2 ∧ d.2 < r
def cd (d : Pr) : Nat := (d.1 * 12 + d.2).toNat
theorem drs_len' {r : Nat} {D : List Pr} (hr : r ≤ 12) (nd : D.Nodup) (ok : ∀ d ∈ D, 0 ≤ d.1 ∧ d.1 < d.2 ∧ d.2 < r) : D.length ≤ 66 := by
  have h1 : (D.map cd).Nodup := by
    refine List.pairwise_map.mpr (List.Pairwise.imp_of_mem (fun {x y} hx hy hne e => ?_) nd)
    have a := ok x hx
    have b := ok y hy
    unfold cd at e
    obtain ⟨x1, x2⟩ := x
    obtain ⟨y1, y2⟩ := y
    simp only at a b e
    have : x1 = y1 ∧ x2 = y2 := by omega
    exact hne (by rw [this.1, this.2])
  have h2 : ∀ c ∈ D.map cd, c ∈ (List.range 144).filter fun c => c / 12 < c % 12 := fun c hc => by
    obtain ⟨d, hd, rfl⟩ := List.mem_map.mp hc
    have a := ok d hd
    refine List.mem_filter.mpr ⟨List.mem_range.mpr ?_, ?_⟩
    · unfold cd
      omega
    · rw [decide_eq_true_eq]
      unfold cd
      omega
  have h3 := nat_nodup_len (D.map cd) _ h1 h2
  rw [List.length_map] at h3
  exact Nat.le_trans h3 (by decide)
theorem Drs.len {r : Nat} {D : List Pr} (hr : r ≤ 12) (h : Drs r D) : D.length ≤ 66 := drs_len' hr h.asc.nodup h.ok

abbrev sNam : Stmt := topS 46
abbrev sJnd : Stmt := topS 47
theorem sub_lt_of {i n : Nat} (h : i < n) : (0 : Int) < (n : Int) - (i : Int) := by omega
/-- the ints from 0 on below n -/
def rg (n : Nat) : List Int := (List.range n).map Int.ofNat
theorem rg_len (n : Nat) : (rg n).length = n := by unfold rg; rw [List.length_map, List.length_range]
theorem rgV_rg (n : Nat) : rgV 0 (n : Int) = (rg n).map V.int := by
  unfold rgV rg
  rw [List.map_map]
  show List.map _ (List.range ((n : Int) - 0).toNat) = _
  rw [show ((n : Int) - 0).toNat = n by omega]
  refine List.map_congr_left fun i _ => ?_
  show V.int (0 + (i : Int)) = V.int (i : Int)
  rw [Int.zero_add]
theorem set_map {α β : Type} (f : α → β) (l : List α) (i : Nat) (x : α) : (l.map f).set i (f x) = (l.set i x).map f := by
  rw [List.map_set]
section
variable {P : Program} {w : World} {K : PySem.W.Frag} {mg : Str → Option Value} {base : Heap}
theorem scNam : FnScope ["numbers", "at", "rooms", "names", "k", "j", "kept"] ["numbers", "at", "rooms"] (defScope sNam) := ⟨rfl, rfl, rfl, by decide +kernel, rfl, by decide +kernel, by decide +kernel⟩
def spNam (K : PySem.W.Frag) : Sp := fun vs H Q _ => ∃ (a : Addr) (ns : List Int) (at_ r : Nat), vs = [.ref a, .int at_, .int r] ∧ SqL K H a (ns.map V.int) ∧ at_ + r ≤ ns.length ∧ r ≤ 1000 ∧
  ∀ xs p H', List.Perm xs (rg r) → Same H H' → H p = none → H' p = some (.lst (xs.map V.int)) → Q (.ref p) H'
theorem ok_nam {f : Addr} {fd : FuncData} (F : Fun K "_law_names" "_law_names" sNam f fd) (T : Bi mg) : FnOk P w K mg base CX0 1 f fd ["numbers", "at", "rooms"] (spNam K) := by
  refine F.ok scNam (fun vs H Q E h => ?_) (fun cdv A outer s H vs Q E hr h => ?_)
  · obtain ⟨a, ns, at_, r, rfl, _⟩ := h
    rfl
  · obtain ⟨a, ns, at_, r, rfl, hS, hat, hr1, q⟩ := h
    refine ⟨_, (pss_cons (ps_set (i := 3) scNam.nd rfl (Or.inl rfl) (pe_listRg rfl (by rfl) T.list (prg_1 (by rfl) T.range (pv 2))))
      (pss_cons (ps_for PassesOwn.never rfl (pi_range1 (by rfl) T.range (pa_cons (pv 2) pa_nil)) (pg_name (i := 4) scNam.nd rfl (Or.inl rfl))
      (pss_cons (ps_set (i := 5) scNam.nd rfl (Or.inl rfl) (pe_op op_add (pv 4) (pe_op op_mod (pe_callTy cr_intI (by rfl) T.int (by decide +kernel) (pa_cons (pe_ix ix_list (pv 0) (pe_op op_add (pv 1) (pv 4)) (fun _ _ => rfl)) pa_nil)) (pe_op op_sub (pv 2) (pv 4)))))
        (pss_cons (ps_set (i := 6) scNam.nd rfl (Or.inl rfl) (pe_ix ix_list (pv 3) (pv 4) (fun _ _ => rfl)))
        (pss_cons (ps_asg (pe_ix ix_list (pv 3) (pv 5) (fun _ _ => rfl)) (pg_sub (pv 3) (pv 4) set_list))
        (pss_one (ps_asg (pv 6) (pg_sub (pv 3) (pv 5) set_list)))))))
      (pss_one (ps_ret (pv 3))))), ?_⟩
    walk_at "rd"
    refine ⟨RgOk.of_le (by omega) (by omega) (by omega) (by omega), fun p np => ?_⟩
    refine ⟨_, rfl, r, rfl, by omega, by omega, for_range (lo := 0) (n := (r : Int).toNat) (fun i σ H' => ∃ (xs : List Int) (v1 v2 v3 : Option V), σ = [some (.ref a), some (.int at_), some (.int r), some (.ref p), v1, v2, v3] ∧ List.Perm xs (rg r) ∧ Same H H' ∧ H' p = some (.lst (xs.map V.int)))
      ⟨rg r, none, none, none, rfl, List.Perm.refl _, same_upd np, by rw [upd_same, rgV_rg]⟩ ?_ ?_⟩
    · rintro i σ H' hi ⟨xs, v1, v2, v3, rfl, pm, sm, hp⟩
      have hi2 : i < r := by omega
      have hl : xs.length = r := by rw [pm.length_eq, rg_len]
      have hS' := sm.seq hS
      have hn : at_ + i < ns.length := by omega
      have hq : SqL K H' p (xs.map V.int) := SqL.of hp
      walk_at "rd"
      have hj0 := Int.emod_nonneg ns[at_ + i] (show ((r : Int) - (0 + (i : Int))) ≠ 0 by omega)
      have hj1 := Int.emod_lt_of_pos ns[at_ + i] (show 0 < ((r : Int) - (0 + (i : Int))) by omega)
      obtain ⟨j, hj⟩ : ∃ j : Nat, (0 + (i : Int)) + ns[at_ + i] % ((r : Int) - (0 + (i : Int))) = j := ⟨((0 + (i : Int)) + ns[at_ + i] % ((r : Int) - (0 + (i : Int)))).toNat, by omega⟩
      have hjr : j < r := by omega
      have gi : (xs.map V.int)[i]? = some (.int xs[i]) := by rw [List.getElem?_map, List.getElem?_eq_getElem (by omega)]; rfl
      have gj : (xs.map V.int)[j]? = some (.int xs[j]) := by rw [List.getElem?_map, List.getElem?_eq_getElem (by omega)]; rfl
      refine ⟨_, hS', .int ns[at_ + i], at_of (j := at_ + i) (by omega) (by rw [List.getElem?_map, List.getElem?_eq_getElem hn]; rfl), _, rfl, by omega, _, hq, .int xs[i], at_of (by omega) gi, _, hq, .int xs[j], at_of hj gj, _, hp, i, ixn (by omega) (by rw [List.length_map]; omega), _, upd_same, j, ixn hj (by rw [List.length_set, List.length_map]; omega), (xs.set i xs[j]).set j xs[i], (List.set_set_perm (by omega) (by omega)).trans pm, same_ch (same_ch sm np) np, ?_⟩
      rw [upd_same, set_map, set_map]
    · rintro σ H' ⟨xs, v1, v2, v3, rfl, pm, sm, hp⟩
      walk_at "rd"
      exact q xs p H' pm sm np hp
theorem scJnd : FnScope ["kind", "a", "b", "rooms", "number", "parent"] ["kind", "a", "b", "rooms", "number", "parent"] (defScope sJnd) := ⟨rfl, rfl, rfl, by decide +kernel, rfl, by decide +kernel, by decide +kernel⟩
def spJnd : Sp := fun vs H Q _ => ∃ (kd a b r n p : Int), vs = [.int kd, .int a, .int b, .int r, .int n, .int p] ∧ 0 < b ∧ (0 ≤ kd ∧ kd < 8) ∧ ∀ c H', Same H H' → Q (.bl c) H'
theorem ok_jnd {f : Addr} {fd : FuncData} (F : Fun K "_law_joined" "_law_joined" sJnd f fd) (T : Bi mg) : FnOk P w K mg base CX0 1 f fd ["kind", "a", "b", "rooms", "number", "parent"] spJnd := by
  refine F.ok scJnd (fun vs H Q E h => ?_) (fun cdv A outer s H vs Q E hr h => ?_)
  · obtain ⟨kd, a, b, r, n, p, rfl, _⟩ := h
    rfl
  · obtain ⟨kd, a, b, r, n, p, rfl, hb, ⟨k0, k8⟩, q⟩ := h
    refine ⟨_, (pss_cons (ps_if (pt_cmpR op_eqI (pv 0) pe_int (nomark _))
      (pss_one (ps_ret (pe_cmpR op_eqI (pv 1) pe_int (nomark _))))
      pss_nil)
      (pss_cons (ps_if (pt_cmpR op_eqI (pv 0) pe_int (nomark _))
      (pss_one (ps_ret (pe_or (pe_cmpR op_eqI (pv 2) (pe_op op_add (pv 1) pe_int) (nomark _)) (pe_one (pe_and (pe_cmpR op_eqI (pv 1) pe_int (nomark _)) (pe_one (pe_cmpR op_eqI (pv 2) (pe_op op_sub (pv 3) pe_int) (nomark _))))))))
      pss_nil)
      (pss_cons (ps_if (pt_cmpR op_eqI (pv 0) pe_int (nomark _))
      (pss_one (ps_ret pe_bl))
      pss_nil)
      (pss_cons (ps_if (pt_cmpR op_eqI (pv 0) pe_int (nomark _))
      (pss_one (ps_ret (pe_cmpR op_eqI (pv 1) (pe_op op_mod (pe_callTy cr_intI (by rfl) T.int (by decide +kernel) (pa_cons (pv 5) pa_nil)) (pv 2)) (nomark _))))
      pss_nil)
      (pss_cons (ps_if (pt_cmpR op_eqI (pv 0) pe_int (nomark _))
      (pss_one (ps_ret (pe_cmpR op_eqI (pe_op op_mod (pe_callTy cr_intI (by rfl) T.int (by decide +kernel) (pa_cons (pv 4) pa_nil)) pe_int) pe_int (nomark _))))
      pss_nil)
      (pss_cons (ps_if (pt_cmpR op_eqI (pv 0) pe_int (nomark _))
      (pss_one (ps_ret (pe_cmpR op_eqI (pe_op op_mod (pe_callTy cr_intI (by rfl) T.int (by decide +kernel) (pa_cons (pv 4) pa_nil)) pe_int) pe_int (nomark _))))
      pss_nil)
      (pss_cons (ps_if (pt_cmpR op_eqI (pv 0) pe_int (nomark _))
      (pss_one (ps_ret (pe_cmpR op_neI (pe_op op_mod (pe_callTy cr_intI (by rfl) T.int (by decide +kernel) (pa_cons (pv 4) pa_nil)) pe_int) pe_int (nomark _))))
      pss_nil)
      (pss_one (ps_ret (pe_cmpR op_eqI (pv 2) (pe_op op_add (pv 1) pe_int) (nomark _))))))))))), ?_⟩
    walk_at "rd"
    repeat (first | exact q _ _ (Same.refl _) | exact hb | decide | refine ⟨?_, ?_⟩ | refine ite2 (fun _ => ?_) (fun _ => ?_) | split)
end

abbrev sDrs : Stmt := topS 48
/-- min and max of the two names -/
def mm (xs : List Int) (p : Nat × Nat) : Pr := (if xs.getD p.2 0 < xs.getD p.1 0 then xs.getD p.2 0 else xs.getD p.1 0, if xs.getD p.2 0 > xs.getD p.1 0 then xs.getD p.2 0 else xs.getD p.1 0)
/-- pairs that have been met when the outer loop stands at b, the inner at a -/
structure Vis (r b a : Nat) (L : List (Nat × Nat)) : Prop where
  ok : ∀ p ∈ L, p.1 < p.2 ∧ p.2 < r ∧ (p.2 < b ∨ (p.2 = b ∧ p.1 < a))
  nd : L.Nodup
theorem Vis.zero (r : Nat) : Vis r 1 0 [] := ⟨fun p h => (by cases h), List.nodup_nil⟩
theorem Vis.skip {r b a : Nat} {L : List (Nat × Nat)} (h : Vis r b a L) : Vis r b (a + 1) L := by
  refine ⟨fun p hp => ?_, h.nd⟩
  have := h.ok p hp
  omega
theorem Vis.row {r b : Nat} {L : List (Nat × Nat)} (h : Vis r b b L) : Vis r (b + 1) 0 L := by
  refine ⟨fun p hp => ?_, h.nd⟩
  have := h.ok p hp
  omega
theorem Vis.more {r b a : Nat} {L : List (Nat × Nat)} (h : Vis r b a L) (hb : b < r) (ha : a < b) : Vis r b (a + 1) (L ++ [(a, b)]) := by
  refine ⟨fun p hp => ?_, ?_⟩
  · rcases List.mem_append.mp hp with hp | hp
    · have := h.ok p hp
      omega
    · rw [List.mem_singleton.mp hp]
      exact ⟨ha, hb, .inr ⟨rfl, Nat.lt_succ_self a⟩⟩
  · refine List.nodup_append.mpr ⟨h.nd, by simp, fun p hp q hq => ?_⟩
    rw [List.mem_singleton.mp hq]
    rintro rfl
    have := h.ok _ hp
    simp only at this
    omega
theorem rg_nodup (n : Nat) : (rg n).Nodup := by
  unfold rg
  exact List.pairwise_map.mpr (List.Pairwise.imp (fun {x y} h e => h (Int.ofNat.inj e)) List.nodup_range)
theorem rg_mem {n : Nat} {x : Int} (h : x ∈ rg n) : 0 ≤ x ∧ x < n := by
  obtain ⟨i, hi, rfl⟩ := List.mem_map.mp h
  have := List.mem_range.mp hi
  show 0 ≤ (i : Int) ∧ (i : Int) < n
  omega
/-- names: each room once -/
structure Nms (r : Nat) (xs : List Int) : Prop where
  pm : xs.Perm (rg r)
theorem Nms.len {r : Nat} {xs : List Int} (h : Nms r xs) : xs.length = r := by rw [h.pm.length_eq, rg_len]
theorem Nms.nd {r : Nat} {xs : List Int} (h : Nms r xs) : xs.Nodup := h.pm.nodup_iff.mpr (rg_nodup r)
theorem Nms.bd {r : Nat} {xs : List Int} (h : Nms r xs) {i : Nat} (hi : i < r) : 0 ≤ xs.getD i 0 ∧ xs.getD i 0 < r := by
  have hl := h.len
  have e : xs.getD i 0 = xs[i] := by rw [List.getD_eq_getElem?_getD, List.getElem?_eq_getElem (by omega)]; rfl
  rw [e]
  exact rg_mem (h.pm.mem_iff.mp (List.getElem_mem _))
theorem Nms.inj {r : Nat} {xs : List Int} (h : Nms r xs) {i j : Nat} (hi : i < r) (hj : j < r) (e : xs.getD i 0 = xs.getD j 0) : i = j := by
  have hl := h.len
  have e1 : xs.getD i 0 = xs[i] := by rw [List.getD_eq_getElem?_getD, List.getElem?_eq_getElem (by omega)]; rfl
  have e2 : xs.getD j 0 = xs[j] := by rw [List.getD_eq_getElem?_getD, List.getElem?_eq_getElem (by omega)]; rfl
  rw [e1, e2] at e
  refine nd_ix h.nd (List.getElem?_eq_getElem (by omega)) ?_
  rw [e]
  exact List.getElem?_eq_getElem (by omega)
theorem mm_ok {r : Nat} {xs : List Int} (h : Nms r xs) {p : Nat × Nat} (h1 : p.1 < p.2) (h2 : p.2 < r) : 0 ≤ (mm xs p).1 ∧ (mm xs p).1 < (mm xs p).2 ∧ (mm xs p).2 < r := by
  have a := h.bd (i := p.1) (by omega)
  have b := h.bd (i := p.2) h2
  have ne : xs.getD p.1 0 ≠ xs.getD p.2 0 := fun e => by
    have := h.inj (i := p.1) (j := p.2) (by omega) h2 e
    omega
  unfold mm
  simp only
  split <;> split <;> omega
theorem mm_inj {r : Nat} {xs : List Int} (h : Nms r xs) {p q : Nat × Nat} (p1 : p.1 < p.2) (p2 : p.2 < r) (q1 : q.1 < q.2) (q2 : q.2 < r) (e : mm xs p = mm xs q) : p = q := by
  have e1 := congrArg Prod.fst e
  have e2 := congrArg Prod.snd e
  unfold mm at e1 e2
  simp only at e1 e2
  have k : (xs.getD p.1 0 = xs.getD q.1 0 ∧ xs.getD p.2 0 = xs.getD q.2 0) ∨ (xs.getD p.1 0 = xs.getD q.2 0 ∧ xs.getD p.2 0 = xs.getD q.1 0) := by
    split at e1 <;> split at e1 <;> split at e2 <;> split at e2 <;> omega
  rcases k with ⟨k1, k2⟩ | ⟨k1, k2⟩
  · have a := h.inj (by omega) (by omega) k1
    have b := h.inj (by omega) (by omega) k2
    exact Prod.ext a b
  · have a := h.inj (by omega) (by omega) k1
    have b := h.inj (by omega) (by omega) k2
    omega
theorem vis_nd {r b a : Nat} {xs : List Int} {L : List (Nat × Nat)} (h : Nms r xs) (v : Vis r b a L) : (L.map (mm xs)).Nodup := by
  refine List.pairwise_map.mpr (List.Pairwise.imp_of_mem (fun {p q} hp hq hne e => ?_) v.nd)
  have a := v.ok p hp
  have b := v.ok q hq
  exact hne (mm_inj h a.1 a.2.1 b.1 b.2.1 e)
theorem vis_ok {r b a : Nat} {xs : List Int} {L : List (Nat × Nat)} (h : Nms r xs) (v : Vis r b a L) : ∀ d ∈ L.map (mm xs), 0 ≤ d.1 ∧ d.1 < d.2 ∧ d.2 < r := fun d hd => by
  obtain ⟨p, hp, rfl⟩ := List.mem_map.mp hd
  have a := v.ok p hp
  exact mm_ok h a.1 a.2.1
theorem tri {b : Nat} (h : b ≤ 11) : (b : Int) * ((b : Int) - 1) / 2 ≤ 55 ∧ 0 ≤ (b : Int) * ((b : Int) - 1) / 2 := by
  have : b = 0 ∨ b = 1 ∨ b = 2 ∨ b = 3 ∨ b = 4 ∨ b = 5 ∨ b = 6 ∨ b = 7 ∨ b = 8 ∨ b = 9 ∨ b = 10 ∨ b = 11 := by omega
  rcases this with rfl | rfl | rfl | rfl | rfl | rfl | rfl | rfl | rfl | rfl | rfl | rfl <;> decide
section
variable {P : Program} {w : World} {K : PySem.W.Frag} {mg : Str → Option Value} {base : Heap}
theorem scDrs : FnScope ["numbers", "rooms", "kind", "names", "doors", "b", "first", "a"] ["numbers", "rooms"] (defScope sDrs) := ⟨rfl, rfl, rfl, by decide +kernel, rfl, by decide +kernel, by decide +kernel⟩
def spDrs (K : PySem.W.Frag) : Sp := fun vs H Q _ => ∃ (a : Addr) (ns : List Int) (r : Nat), vs = [.ref a, .int r] ∧ SqL K H a (ns.map V.int) ∧ 79 ≤ ns.length ∧ 1 ≤ r ∧ r ≤ 12 ∧
  ∀ D vs p H', Drs r D → Same H H' → H p = none → H' p = some (.lst vs) → PL H' vs D → Q (.ref p) H'
theorem ok_drs {f fN fJ : Addr} {fd fdN fdJ : FuncData} (F : Fun K "_law_doors" "_law_doors" sDrs f fd) (T : Bi mg) (d__law_names : Df P w K mg base "_law_names" ["numbers", "at", "rooms"] 1 (spNam K) fN fdN)
    (d__law_joined : Df P w K mg base "_law_joined" ["kind", "a", "b", "rooms", "number", "parent"] 1 spJnd fJ fdJ) : FnOk P w K mg base CX0 2 f fd ["numbers", "rooms"] (spDrs K) := by
  refine F.ok scDrs (fun vs H Q E h => ?_) (fun cdv A outer s H vs Q E hr h => ?_)
  · obtain ⟨a, ns, r, rfl, _⟩ := h
    rfl
  · obtain ⟨a, ns, r, rfl, hS, hn, hr1, hr12, q⟩ := h
    refine ⟨_, (pss_cons (ps_set (i := 2) scDrs.nd rfl (Or.inl rfl) (pe_op op_mod (pe_callTy cr_intI (by rfl) T.int (by decide +kernel) (pa_cons (pe_ix ix_list (pv 0) pe_int (fun _ _ => rfl)) pa_nil)) pe_int))
      (pss_cons (ps_set (i := 3) scDrs.nd rfl (Or.inl rfl) (pe_call d__law_names.ok (hr.mono (by decide)) (by rfl) d__law_names.at_ d__law_names.kp d__law_names.b .nil pass0 (pa_cons (pv 0) (pa_cons pe_int (pa_cons (pv 1) pa_nil)))))
      (pss_cons (ps_set (i := 4) scDrs.nd rfl (Or.inl rfl) (pe_lst pa_nil))
      (pss_cons (ps_for PassesOwn.never rfl (pi_range2 (by rfl) T.range (pa_cons pe_int (pa_cons (pv 1) pa_nil))) (pg_name (i := 5) scDrs.nd rfl (Or.inl rfl))
      (pss_cons (ps_set (i := 6) scDrs.nd rfl (Or.inl rfl) (pe_op op_add (pe_op op_add pe_int (pv 1)) (pe_op op_fdiv (pe_op op_mul (pv 5) (pe_op op_sub (pv 5) pe_int)) pe_int)))
        (pss_one (ps_for PassesOwn.never rfl (pi_range1 (by rfl) T.range (pa_cons (pv 5) pa_nil)) (pg_name (i := 7) scDrs.nd rfl (Or.inl rfl))
        (pss_one (ps_if (pt_val (pe_call d__law_joined.ok (hr.mono (by decide)) (by rfl) d__law_joined.at_ d__law_joined.kp d__law_joined.b .nil pass0 (pa_cons (pv 2) (pa_cons (pv 7) (pa_cons (pv 5) (pa_cons (pv 1) (pa_cons (pe_ix ix_list (pv 0) (pe_op op_add (pv 6) (pv 7)) (fun _ _ => rfl)) (pa_cons (pe_ix ix_list (pv 0) (pv 6) (fun _ _ => rfl)) pa_nil))))))))
          (pss_one (ps_expr (pe_bm PySem.F.plainAttrs_list PySem.F.slot_list_append PySem.F.type_list_append mt_append (pv 4) (pa_cons (pe_tup (pa_cons (pe_callB (call_min2 rfl) (by rfl) T.min (by decide +kernel) (pa_cons (pe_ix ix_list (pv 3) (pv 7) (fun _ _ => rfl)) (pa_cons (pe_ix ix_list (pv 3) (pv 5) (fun _ _ => rfl)) pa_nil))) (pa_cons (pe_callB (call_max2 rfl) (by rfl) T.max (by decide +kernel) (pa_cons (pe_ix ix_list (pv 3) (pv 7) (fun _ _ => rfl)) (pa_cons (pe_ix ix_list (pv 3) (pv 5) (fun _ _ => rfl)) pa_nil))) pa_nil))) pa_nil))))
          pss_nil))))))
      (pss_one (ps_ret (pe_callB cr_sortedPO (by rfl) T.sorted (by decide +kernel) (pa_cons (pv 4) pa_nil)))))))), ?_⟩
    have at_n : ∀ (k : Nat) (hk : k < ns.length), (ns.map V.int)[k]? = some (.int ns[k]) := fun k hk => by
      rw [List.getElem?_map, List.getElem?_eq_getElem hk]
      rfl
    walk_at "rd"
    refine ⟨_, hS, .int ns[0], at_of (j := 0) rfl (at_n 0 (by omega)), _, rfl, by decide, a, ns, 1, r, rfl, hS, by omega, by omega, fun xs pn H1 pm s1 nn hN => ?_⟩
    have N : Nms r xs := ⟨pm⟩
    have hl := N.len
    walk_at "rd"
    refine ⟨Nat.zero_le _, fun p np => ?_⟩
    obtain ⟨Pv, hPv⟩ : ∃ Pv : Nat → L2.St → Hp → Prop, Pv = (fun i σ H' => ∃ (L : List (Nat × Nat)) (vs : List V) (v5 v6 v7 : Option V), σ = [some (.ref a), some (.int r), some (.int (ns[0] % 8)), some (.ref pn), some (.ref p), v5, v6, v7] ∧ Vis r (i + 1) 0 L ∧ Same H1 H' ∧ H' p = some (.lst vs) ∧ PL H' vs (L.map (mm xs))) := ⟨_, rfl⟩
    refine ⟨_, rfl, 1, (r : Int), rfl, ⟨by omega, by omega, by omega, by omega⟩, for_range (lo := 1) (n := ((r : Int) - 1).toNat) Pv (by rw [hPv]; exact ⟨[], [], none, none, none, rfl, Vis.zero r, same_upd np, upd_same, PL.nil0 _⟩) ?_ ?_⟩
    · rintro i σ H' hi pv
      have nxt : ∀ L vs v5 v6 v7 H', Vis r (i + 1 + 1) 0 L → Same H1 H' → H' p = some (.lst vs) → PL H' vs (L.map (mm xs)) → Pv (i + 1) [some (.ref a), some (.int r), some (.int (ns[0] % 8)), some (.ref pn), some (.ref p), v5, v6, v7] H' := fun L vs v5 v6 v7 H' h1 h2 h3 h4 => by
        rw [hPv]
        exact ⟨L, vs, v5, v6, v7, rfl, h1, h2, h3, h4⟩
      rw [hPv] at pv
      obtain ⟨L, vs, v5, v6, v7, rfl, vis, s2, hp, pl⟩ := pv
      have hb : i + 1 ≤ 11 := by omega
      have tr := tri hb
      have eb : (1 : Int) + (i : Int) = ((i + 1 : Nat) : Int) := by omega
      obtain ⟨fi, hfi⟩ : ∃ fi : Nat, (1 : Int) + (r : Int) + (1 + (i : Int)) * (1 + (i : Int) - 1) / 2 = fi ∧ fi ≤ 68 := by
        rw [eb]
        exact ⟨(1 + (r : Int) + ((i + 1 : Nat) : Int) * (((i + 1 : Nat) : Int) - 1) / 2).toNat, by omega, by omega⟩
      walk_at "rd"
      refine ⟨.inl (by omega), ⟨by decide, by decide⟩, ?_⟩
      rw [hfi.1]
      obtain ⟨Pw, hPw⟩ : ∃ Pw : Nat → L2.St → Hp → Prop, Pw = (fun j σ H' => ∃ (L : List (Nat × Nat)) (vs : List V) (v7 : Option V), σ = [some (.ref a), some (.int r), some (.int (ns[0] % 8)), some (.ref pn), some (.ref p), some (.int (1 + (i : Int))), some (.int fi), v7] ∧ Vis r (i + 1) j L ∧ Same H1 H' ∧ H' p = some (.lst vs) ∧ PL H' vs (L.map (mm xs))) := ⟨_, rfl⟩
      refine ⟨_, rfl, 1 + (i : Int), rfl, by omega, by omega, for_range (lo := 0) (n := (1 + (i : Int)).toNat) Pw (by rw [hPw]; exact ⟨L, vs, v7, rfl, vis, s2, hp, pl⟩) ?_ ?_⟩
      · clear hp pl s2 vis vs L v7
        rintro j σ H' hj pv
        have nxw : ∀ L vs v7 H', Vis r (i + 1) (j + 1) L → Same H1 H' → H' p = some (.lst vs) → PL H' vs (L.map (mm xs)) → Pw (j + 1) [some (.ref a), some (.int r), some (.int (ns[0] % 8)), some (.ref pn), some (.ref p), some (.int (1 + (i : Int))), some (.int fi), v7] H' := fun L vs v7 H' h1 h2 h3 h4 => by
          rw [hPw]
          exact ⟨L, vs, v7, rfl, h1, h2, h3, h4⟩
        rw [hPw] at pv
        obtain ⟨L, vs, v7, rfl, vis, s2, hp, pl⟩ := pv
        have hjb : j < i + 1 := by omega
        have hS' : SqL K H' a (ns.map V.int) := s2.seq (s1.seq hS)
        have hN' : SqL K H' pn (xs.map V.int) := s2.seq (SqL.of hN)
        have gj : (xs.map V.int)[j]? = some (.int (xs.getD j 0)) := by rw [List.getElem?_map, List.getElem?_eq_getElem (by omega), List.getD_eq_getElem?_getD, List.getElem?_eq_getElem (by omega)]; rfl
        have gi : (xs.map V.int)[i + 1]? = some (.int (xs.getD (i + 1) 0)) := by rw [List.getElem?_map, List.getElem?_eq_getElem (by omega), List.getD_eq_getElem?_getD, List.getElem?_eq_getElem (by omega)]; rfl
        have small : vs.length ≤ 66 := by
          rw [pl.len]
          exact drs_len' hr12 (vis_nd N vis) (vis_ok N vis)
        walk_at "rd"
        refine ⟨_, hS', .int ns[fi + j], at_of (j := fi + j) (by omega) (at_n _ (by omega)), _, hS', .int ns[fi], at_of (j := fi) rfl (at_n _ (by omega)), ?_⟩
        refine ⟨_, _, _, _, _, _, rfl, by omega, ⟨Int.emod_nonneg _ (by decide), Int.emod_lt_of_pos _ (by decide)⟩, fun c H' s3 => ?_⟩
        have hS' := s3.seq hS'
        have hN' := s3.seq hN'
        have hp := s3 _ _ hp
        have pl := pl.kt (KT.same s3)
        have s2 := s2.trans s3
        refine ⟨_, rfl, ite2 (fun _ => ?_) (fun _ => nxw L vs _ _ vis.skip s2 hp pl)⟩
        refine ⟨.inl ⟨rfl, _, SqL.of hp⟩, _, hN', .int (xs.getD j 0), at_of (j := j) (by omega) gj, _, hN', .int (xs.getD (i + 1) 0), at_of (j := i + 1) (by omega) gi, ?_⟩
        refine ⟨_, rfl, _, rfl, _, hN', .int (xs.getD j 0), at_of (j := j) (by omega) gj, _, hN', .int (xs.getD (i + 1) 0), at_of (j := i + 1) (by omega) gi, _, rfl, _, rfl, ?_⟩
        refine ⟨by decide, fun t nt => ⟨vs, ?_, len_big (by omega), ?_⟩⟩
        · rw [upd_ne (ne_of_none hp nt)]
          exact hp
        · have np' : p ≠ t := ne_of_none hp nt
          refine nxw (L ++ [(j, i + 1)]) (vs ++ [.ref t]) _ _ (vis.more (by omega) hjb) (same_ch (s2.trans (same_upd nt)) np) upd_same ?_
          rw [List.map_append]
          refine PL.snoc ((pl.kt (KT.new nt)).kt (KT.lst (by rw [upd_ne np']; exact hp))) ⟨t, rfl, ?_⟩
          rw [upd_ne np'.symm, upd_same]
          rfl
      · clear hp pl s2 vis vs L v7
        rintro σ H' pv
        rw [hPw] at pv
        obtain ⟨L, vs, v7, rfl, vis, s2, hp, pl⟩ := pv
        have e : (1 + (i : Int)).toNat = i + 1 := by omega
        rw [e] at vis
        exact nxt L vs _ _ _ _ vis.row s2 hp pl
    · rintro σ H' pv
      rw [hPv] at pv
      obtain ⟨L, vs, v5, v6, v7, rfl, vis, s2, hp, pl⟩ := pv
      walk_at "rd"
      obtain ⟨k1, k2⟩ := pl.toK
      refine ⟨p, vs, kH H', rfl, SqL.of hp, k2, fun ys t so st nt => ?_⟩
      have pmy := st.perm
      have hy : ∀ v ∈ ys, IsP H' v (kH H' v) := fun v hv => k2 v (pmy.mem_iff.mp hv)
      have nd : (ys.map (kH H')).Nodup := by
        refine (pmy.map _).nodup_iff.mpr ?_
        rw [← k1]
        exact vis_nd N vis
      refine q (ys.map (kH H')) ys t _ ⟨srtd_asc nd so, fun d hd => ?_⟩ ?_ ?_ upd_same ((PL.ofK hy).kt (KT.new nt))
      · refine vis_ok N vis d ?_
        rw [k1]
        exact (pmy.map _).mem_iff.mp hd
      · exact ((s1.trans s2).trans (same_upd nt))
      · exact (s1.trans s2).free nt
end

abbrev sSame : Stmt := topS 57
/-- isinstance of built-in kinds -/
def isTy (m n : String) : Bool := m == n || (m == "bool" && n == "int")
theorem kit5 {K : PySem.W.Frag} {m n : String} (hm : m = "bool" ∨ m = "int" ∨ m = "str" ∨ m = "list" ∨ m = "tuple") (hn : n = "bool" ∨ n = "int" ∨ n = "str" ∨ n = "list" ∨ n = "tuple") : PySem.W.kitOne K (.type m) (.type n) = some (isTy m n) := by
  rcases hm with rfl | rfl | rfl | rfl | rfl <;> rcases hn with rfl | rfl | rfl | rfl | rfl <;> exact kit_ty (by decide +kernel)
def rIs5 (K : PySem.W.Frag) : List V → Hp → VK → Prop := fun xs H Q => ∃ (x : V) (n m : String), xs = [x, .ty n] ∧ TyX K H x (.type m) ∧ (m = "bool" ∨ m = "int" ∨ m = "str" ∨ m = "list" ∨ m = "tuple") ∧ (n = "bool" ∨ n = "int" ∨ n = "str" ∨ n = "list" ∨ n = "tuple") ∧ Q (.bl (isTy m n)) H
theorem cr_is5 {X : Cx} : CallR X (.builtin "isinstance") (rIs5 X.K) := fun pins s σ H xs us Q I r h => by
  obtain ⟨x, n, m, rfl, ty, hm, hn, q⟩ := h
  exact call_isi pins s σ H _ us Q I r ⟨x, .ty n, _, _, _, rfl, .ty n, ty, kit5 hm hn, q⟩
theorem is5_of {K : PySem.W.Frag} {H : Hp} {x : V} {n m : String} {Q : VK} (ty : TyX K H x (.type m)) (hm : m = "bool" ∨ m = "int" ∨ m = "str" ∨ m = "list" ∨ m = "tuple") (hn : n = "bool" ∨ n = "int" ∨ n = "str" ∨ n = "list" ∨ n = "tuple") (q : Q (.bl (isTy m n)) H) : rIs5 K [x, .ty n] H Q :=
  ⟨x, n, m, rfl, ty, hm, hn, q⟩
theorem eqS_of {H : Hp} {x : V} {Q : VK} (h : scal x x = true) (q : Q (.bl true) H) : rEq x x H Q := ⟨h, by rw [decide_eq_true rfl]; exact q⟩
local macro_rules | `(tactic| walk_at "i5") => `(tactic| ((first | refine is5_of (.base (.int _)) (by decide) (by decide) ?_ | refine is5_of (.base (.str _)) (by decide) (by decide) ?_ | refine is5_of (.base (.bl _)) (by decide) (by decide) ?_ | refine is5_of (.base (.lst (by assumption))) (by decide) (by decide) ?_ | refine is5_of (.base (.tup (by assumption))) (by decide) (by decide) ?_)))
local macro_rules | `(tactic| walk_at "i6") => `(tactic| (simp only [rIsT, isTy, String.reduceBEq, Bool.or_false, Bool.or_true, Bool.and_false, Bool.and_true, Bool.true_or, Bool.false_or, Bool.true_and, Bool.false_and, reduceCtorEq, decide_false, decide_true, V.bl.injEq, exists_eq_left', if_true, if_false, Bool.false_eq_true, ↓reduceIte, Bool.not_true, Bool.not_false, ite_self]))
def flat4 : V → Bool
  | .non => true
  | .bl _ => true
  | .int _ => true
  | .str _ => true
  | _ => false
/-- the same data, of at most this depth, the lists and tuples tracked -/
def Sm (H : Hp) : Nat → V → V → Prop
  | 0, x, y => x = y ∧ flat4 x = true
  | n + 1, x, y => (x = y ∧ flat4 x = true) ∨ ∃ a b xs ys, x = .ref a ∧ y = .ref b ∧ ((H a = some (.lst xs) ∧ H b = some (.lst ys)) ∨ (H a = some (.tup xs) ∧ H b = some (.tup ys))) ∧ Paired (Sm H n) xs ys ∧ xs.length ≤ 100000
theorem Sm.flat {H : Hp} {n : Nat} {x : V} (h : flat4 x = true) : Sm H n x x := by
  cases n with
  | zero => exact ⟨rfl, h⟩
  | succ n => exact .inl ⟨rfl, h⟩
theorem paired_get {α β : Type} {F : α → β → Prop} : ∀ {xs : List α} {ys : List β} {i : Nat}, Paired F xs ys → i < xs.length → ∃ x y, xs[i]? = some x ∧ ys[i]? = some y ∧ F x y
  | _, _, _, .nil, h => by cases h
  | _, _, 0, .cons r _, _ => ⟨_, _, rfl, rfl, r⟩
  | _, _, i + 1, .cons _ t, h => paired_get (i := i) t (Nat.lt_of_succ_lt_succ h)
section
variable {P : Program} {w : World} {K : PySem.W.Frag} {mg : Str → Option Value} {base : Heap}
theorem scSame : FnScope ["got", "due", "k"] ["got", "due"] (defScope sSame) := ⟨rfl, rfl, rfl, by decide +kernel, rfl, by decide +kernel, by decide +kernel⟩
def spSame (n : Nat) : Sp := fun vs H Q _ => ∃ x y, vs = [x, y] ∧ Sm H n x y ∧ Q (.bl true) H
theorem ok_same {f : Addr} {fd : FuncData} (F : Fun K "_law_same" "_law_same" sSame f fd) (T : Bi mg) (bd : Binds K fd ["got", "due"] []) (hmg : mg "_law_same" = some (.ref f)) : ∀ n, FnOk P w K mg base CX0 (n + 1) f fd ["got", "due"] (spSame n) := by
  intro n
  induction n with
  | zero =>
    refine F.ok scSame (fun vs H Q E h => ?_) (fun cdv A outer s H vs Q E hr h => ?_)
    · obtain ⟨x, y, rfl, _⟩ := h
      rfl
    · obtain ⟨x, y, rfl, ⟨rfl, hf⟩, q⟩ := h
      refine ⟨_, (pss_cons (ps_if (pt_cmpR op_isN (pv 1) pe_non (nomark _))
      (pss_one (ps_ret (pe_cmpR op_isN (pv 0) pe_non (nomark _))))
      pss_nil)
      (pss_cons (ps_if (pt_cmpR op_isT (pv 1) pe_bl (nomark _))
      (pss_one (ps_ret (pe_cmpR op_isT (pv 0) pe_bl (nomark _))))
      pss_nil)
      (pss_cons (ps_if (pt_cmpR op_isT (pv 1) pe_bl (nomark _))
      (pss_one (ps_ret (pe_cmpR op_isT (pv 0) pe_bl (nomark _))))
      pss_nil)
      (pss_cons (ps_if (pt_val (pe_callB cr_is5 (by rfl) T.isinstance (by decide +kernel) (pa_cons (pv 1) (pa_cons (pe_bltn (v := .ty "int") (by rfl) T.int (by decide +kernel) rfl) pa_nil))))
      (pss_one (ps_ret (pe_and (pe_callB cr_is5 (by rfl) T.isinstance (by decide +kernel) (pa_cons (pv 0) (pa_cons (pe_bltn (v := .ty "int") (by rfl) T.int (by decide +kernel) rfl) pa_nil))) (pe_and (pe_not (pe_callB cr_is5 (by rfl) T.isinstance (by decide +kernel) (pa_cons (pv 0) (pa_cons (pe_bltn (v := .ty "bool") (by rfl) T.bool (by decide +kernel) rfl) pa_nil)))) (pe_one (pe_cmpR op_eq (pv 0) (pv 1) (nomark _)))))))
      pss_nil)
      (pss_cons (ps_if (pt_val (pe_callB cr_is5 (by rfl) T.isinstance (by decide +kernel) (pa_cons (pv 1) (pa_cons (pe_bltn (v := .ty "str") (by rfl) T.str (by decide +kernel) rfl) pa_nil))))
      (pss_one (ps_ret (pe_and (pe_callB cr_is5 (by rfl) T.isinstance (by decide +kernel) (pa_cons (pv 0) (pa_cons (pe_bltn (v := .ty "str") (by rfl) T.str (by decide +kernel) rfl) pa_nil))) (pe_one (pe_cmpR op_eq (pv 0) (pv 1) (nomark _))))))
      pss_nil)
      (pss_cons (ps_if (PW.pt (pw_and (pt_val (pe_callB cr_is5 (by rfl) T.isinstance (by decide +kernel) (pa_cons (pv 1) (pa_cons (pe_bltn (v := .ty "list") (by rfl) T.list (by decide +kernel) rfl) pa_nil)))) (pw_and1 (pt_not (pt_val (pe_callB cr_is5 (by rfl) T.isinstance (by decide +kernel) (pa_cons (pv 0) (pa_cons (pe_bltn (v := .ty "list") (by rfl) T.list (by decide +kernel) rfl) pa_nil))))))))
      (pss_one (ps_ret pe_bl))
      pss_nil)
      (pss_cons (ps_if (PW.pt (pw_and (pt_val (pe_callB cr_is5 (by rfl) T.isinstance (by decide +kernel) (pa_cons (pv 1) (pa_cons (pe_bltn (v := .ty "tuple") (by rfl) T.tuple (by decide +kernel) rfl) pa_nil)))) (pw_and1 (pt_not (pt_val (pe_callB cr_is5 (by rfl) T.isinstance (by decide +kernel) (pa_cons (pv 0) (pa_cons (pe_bltn (v := .ty "tuple") (by rfl) T.tuple (by decide +kernel) rfl) pa_nil))))))))
      (pss_one (ps_ret pe_bl))
      pss_nil)
      (pss_cons (ps_if (pt_cmpR op_neI (pe_callB call_len_seq (by rfl) T.len (by decide +kernel) (pa_cons (pv 0) pa_nil)) (pe_callB call_len_seq (by rfl) T.len (by decide +kernel) (pa_cons (pv 1) pa_nil)) (nomark _))
      (pss_one (ps_ret pe_bl))
      pss_nil)
      (pss_cons (ps_never)
      (pss_one (ps_ret pe_bl))))))))))), ?_⟩
      walk_at "rd"
      cases x with
      | non => walk_at "i6"; exact q
      | bl b =>
        cases b with
        | true => walk_at "i6"; exact q
        | false => walk_at "i6"; exact q
      | int i =>
        walk_at "i6"
        repeat (walk_at "i5"; walk_at "i6")
        exact eqS_of rfl q
      | str z =>
        walk_at "i6"
        repeat (walk_at "i5"; walk_at "i6")
        exact eqS_of rfl q
      | _ => cases hf
  | succ n ih =>
    refine F.ok scSame (fun vs H Q E h => ?_) (fun cdv A outer s H vs Q E hr h => ?_)
    · obtain ⟨x, y, rfl, _⟩ := h
      rfl
    · obtain ⟨x, y, rfl, hs, q⟩ := h
      refine ⟨_, (pss_cons (ps_if (pt_cmpR op_isN (pv 1) pe_non (nomark _))
      (pss_one (ps_ret (pe_cmpR op_isN (pv 0) pe_non (nomark _))))
      pss_nil)
      (pss_cons (ps_if (pt_cmpR op_isT (pv 1) pe_bl (nomark _))
      (pss_one (ps_ret (pe_cmpR op_isT (pv 0) pe_bl (nomark _))))
      pss_nil)
      (pss_cons (ps_if (pt_cmpR op_isT (pv 1) pe_bl (nomark _))
      (pss_one (ps_ret (pe_cmpR op_isT (pv 0) pe_bl (nomark _))))
      pss_nil)
      (pss_cons (ps_if (pt_val (pe_callB cr_is5 (by rfl) T.isinstance (by decide +kernel) (pa_cons (pv 1) (pa_cons (pe_bltn (v := .ty "int") (by rfl) T.int (by decide +kernel) rfl) pa_nil))))
      (pss_one (ps_ret (pe_and (pe_callB cr_is5 (by rfl) T.isinstance (by decide +kernel) (pa_cons (pv 0) (pa_cons (pe_bltn (v := .ty "int") (by rfl) T.int (by decide +kernel) rfl) pa_nil))) (pe_and (pe_not (pe_callB cr_is5 (by rfl) T.isinstance (by decide +kernel) (pa_cons (pv 0) (pa_cons (pe_bltn (v := .ty "bool") (by rfl) T.bool (by decide +kernel) rfl) pa_nil)))) (pe_one (pe_cmpR op_eq (pv 0) (pv 1) (nomark _)))))))
      pss_nil)
      (pss_cons (ps_if (pt_val (pe_callB cr_is5 (by rfl) T.isinstance (by decide +kernel) (pa_cons (pv 1) (pa_cons (pe_bltn (v := .ty "str") (by rfl) T.str (by decide +kernel) rfl) pa_nil))))
      (pss_one (ps_ret (pe_and (pe_callB cr_is5 (by rfl) T.isinstance (by decide +kernel) (pa_cons (pv 0) (pa_cons (pe_bltn (v := .ty "str") (by rfl) T.str (by decide +kernel) rfl) pa_nil))) (pe_one (pe_cmpR op_eq (pv 0) (pv 1) (nomark _))))))
      pss_nil)
      (pss_cons (ps_if (PW.pt (pw_and (pt_val (pe_callB cr_is5 (by rfl) T.isinstance (by decide +kernel) (pa_cons (pv 1) (pa_cons (pe_bltn (v := .ty "list") (by rfl) T.list (by decide +kernel) rfl) pa_nil)))) (pw_and1 (pt_not (pt_val (pe_callB cr_is5 (by rfl) T.isinstance (by decide +kernel) (pa_cons (pv 0) (pa_cons (pe_bltn (v := .ty "list") (by rfl) T.list (by decide +kernel) rfl) pa_nil))))))))
      (pss_one (ps_ret pe_bl))
      pss_nil)
      (pss_cons (ps_if (PW.pt (pw_and (pt_val (pe_callB cr_is5 (by rfl) T.isinstance (by decide +kernel) (pa_cons (pv 1) (pa_cons (pe_bltn (v := .ty "tuple") (by rfl) T.tuple (by decide +kernel) rfl) pa_nil)))) (pw_and1 (pt_not (pt_val (pe_callB cr_is5 (by rfl) T.isinstance (by decide +kernel) (pa_cons (pv 0) (pa_cons (pe_bltn (v := .ty "tuple") (by rfl) T.tuple (by decide +kernel) rfl) pa_nil))))))))
      (pss_one (ps_ret pe_bl))
      pss_nil)
      (pss_cons (ps_if (pt_cmpR op_neI (pe_callB call_len_seq (by rfl) T.len (by decide +kernel) (pa_cons (pv 0) pa_nil)) (pe_callB call_len_seq (by rfl) T.len (by decide +kernel) (pa_cons (pv 1) pa_nil)) (nomark _))
      (pss_one (ps_ret pe_bl))
      pss_nil)
      (pss_cons (ps_for PassesOwn.never rfl (pi_range1 (by rfl) T.range (pa_cons (pe_callB call_len_seq (by rfl) T.len (by decide +kernel) (pa_cons (pv 1) pa_nil)) pa_nil)) (pg_name (i := 2) scSame.nd rfl (Or.inl rfl))
      (pss_one (ps_if (pt_not (pt_val (pe_call ih hr (by rfl) hmg F.kp bd .nil pass0 (pa_cons (pe_ix ix_seq (pv 0) (pv 2) (fun _ _ => rfl)) (pa_cons (pe_ix ix_seq (pv 1) (pv 2) (fun _ _ => rfl)) pa_nil)))))
        (pss_one (ps_ret pe_bl))
        pss_nil)))
      (pss_one (ps_ret pe_bl))))))))))), ?_⟩
      walk_at "rd"
      rcases hs with ⟨rfl, hf⟩ | ⟨a, b, xs, ys, rfl, rfl, hk, pr, hl⟩
      · skip
        cases x with
        | non => walk_at "i6"; exact q
        | bl b =>
          cases b with
          | true => walk_at "i6"; exact q
          | false => walk_at "i6"; exact q
        | int i =>
          walk_at "i6"
          repeat (walk_at "i5"; walk_at "i6")
          exact eqS_of rfl q
        | str z =>
          walk_at "i6"
          repeat (walk_at "i5"; walk_at "i6")
          exact eqS_of rfl q
        | _ => cases hf
      · have el : xs.length = ys.length := pr.length
        have hx : SqL K H a xs ∨ SqT K H a xs := by
          rcases hk with ⟨ha, _⟩ | ⟨ha, _⟩
          · exact .inl (SqL.of ha)
          · exact .inr (SqT.of ha)
        have hy : SqL K H b ys ∨ SqT K H b ys := by
          rcases hk with ⟨_, ha⟩ | ⟨_, ha⟩
          · exact .inl (SqL.of ha)
          · exact .inr (SqT.of ha)
        have ix : ∀ {zs : List V} {k : Nat} {p : Addr} {v : V} {Q : VK}, (SqL K H p zs ∨ SqT K H p zs) → zs[k]? = some v → Q v H → rIx K (.ref p) (.int k) H Q := fun hz hv hq => by
          rcases hz with hz | hz
          · exact .inl ⟨_, _, _, _, rfl, rfl, hz, atI_nat hv, hq⟩
          · exact .inr (.inl ⟨_, _, _, _, rfl, rfl, hz, atI_nat hv, hq⟩)
        rcases hk with ⟨ha, hb⟩ | ⟨ha, hb⟩
        all_goals
          walk_at "i6"
          repeat (walk_at "i5"; walk_at "i6")
          refine ⟨_, rfl, _, hx, _, rfl, _, hy, ?_⟩
          rw [el, decide_eq_true rfl]
          refine iteF ?_
          obtain ⟨Pv, hPv⟩ : ∃ Pv : Nat → L2.St → Hp → Prop, Pv = (fun i σ H' => ∃ v : Option V, σ = [some (.ref a), some (.ref b), v] ∧ H' = H) := ⟨_, rfl⟩
          refine ⟨_, rfl, b, rfl, ys, hy, ys.length, rfl, by omega, by omega, for_range (lo := 0) (n := ((ys.length : Nat) : Int).toNat) Pv (by rw [hPv]; exact ⟨none, rfl, rfl⟩) ?_ ?_⟩
          · rintro i σ H' hi pv
            have nxt : ∀ v, Pv (i + 1) [some (.ref a), some (.ref b), v] H := fun v => by
              rw [hPv]
              exact ⟨v, rfl, rfl⟩
            rw [hPv] at pv
            obtain ⟨v, rfl, rfl⟩ := pv
            obtain ⟨x1, y1, g1, g2, sm⟩ := paired_get (i := i) pr (by omega)
            walk_at "rd"
            rw [Int.zero_add]
            refine ix hx g1 (ix hy g2 ⟨_, _, rfl, sm, ?_⟩)
            exact ⟨true, rfl, iteF (nxt _)⟩
          · rintro σ H' pv
            rw [hPv] at pv
            obtain ⟨v, rfl, rfl⟩ := pv
            walk_at "rd"
            exact q
end

/-! ### a set of tuples of ints, whatever their number (the table's masks: 7, 31, 127) -/
structure PsR (P : Program) (w : World) (h : Heap) (a : Addr) (L : List (Addr × List Int)) (es : Array (Int × Value)) (ep : Nat) (t : SetTable) : Prop where
  obj : ∃ o, h.get? a = some o ∧ o.ExactSet ∧ o.data = .set es ep t
  rw_ : es.toList = rowsOf P w L
  tb : TabOk t (L.map fun p => thash P w p.2)
  nod : (L.map (·.2)).Nodup
  tps : ∀ p ∈ L, IsT P w h p.2 p.1
  pln : t.plain = true
  ld : w.params.followText "set-order" = true ∨ t.led = true
  rm : L.length * 5 < t.mask * 3
section
variable {P : Program} {w : World} {A : Around} {E : Value → Shared → Prop} {s : Shared}
variable {a : Addr} {L : List (Addr × List Int)} {es : Array (Int × Value)} {ep : Nat} {t : SetTable}
theorem PsR.sz (R : PsR P w s.heap a L es ep t) : es.size = L.length := by
  have e := congrArg List.length R.rw_
  rw [Array.length_toList] at e
  rw [e]
  exact List.length_map _
theorem PsR.psz (R : PsR P w s.heap a L es ep t) : t.place.size = L.length := by
  have e := R.tb.sz
  rw [List.length_map] at e
  exact e
theorem PsR.fts (R : PsR P w s.heap a L es ep t) : t.fits es.size = true := by
  have e1 := R.psz
  have e2 := R.sz
  have e3 := R.rm
  have e4 : t.fill = t.place.size := by
    show t.place.size + t.dummies.size = t.place.size
    rw [R.tb.dm]
    rfl
  show (t.place.size == es.size && decide (t.fill ≤ t.mask)) = true
  rw [e4, e1, e2, beq_self_eq_true, Bool.true_and, decide_eq_true_eq]
  omega
theorem PsR.ent (R : PsR P w s.heap a L es ep t) {i : Nat} {p : Addr × List Int} (g : L[i]? = some p) : es[i]? = some (thash P w p.2, Value.ref p.1) := by
  have e : (rowsOf P w L)[i]? = some (thash P w p.2, Value.ref p.1) := by
    show (L.map _)[i]? = _
    rw [List.getElem?_map, g]
    rfl
  rw [← R.rw_, Array.getElem?_toList] at e
  exact e
theorem PsR.odd (R : PsR P w s.heap a L es ep t) : ¬ t.gaveWay = true := fun z => by
  have m := mask_odd R.tb.mok
  have z2 : (t.mask % 2 == 0) = true := z
  rw [m] at z2
  cases z2
/-- the c-th state of the search for the tuple k -/
abbrev stAt (P : Program) (w : World) (t : SetTable) (k : List Int) (c : Nat) : SetTable.Probe := nth t.mask (t.probeStart (thash P w k)) c
abbrev slAt (P : Program) (w : World) (t : SetTable) (k : List Int) (c : Nat) : Nat := (stAt P w t k c).j
theorem stAt_dm (k : List Int) (c : Nat) : (stAt P w t k c).dummy = none := by
  have all : ∀ (n : Nat) (p : SetTable.Probe), p.dummy = none → (nth t.mask p n).dummy = none := by
    intro n
    induction n with
    | zero => exact fun _ e => e
    | succ n ih =>
      intro p e
      show (nth t.mask (adv t.mask p) n).dummy = none
      exact ih _ (by rw [← adv_eq, advance_dummy]; exact e)
  exact all c _ rfl
theorem stAt_add (k : List Int) (c q : Nat) : nth t.mask (stAt P w t k c) q = stAt P w t k (c + q) := (nth_add t.mask c _ q).symm
theorem psearch (R : PsR P w s.heap a L es ep t) {x : Addr} {k : List Int} (hx : IsT P w s.heap k x) (hu : A.units < cLine) (ad : Bool) {N : Nat} (hN : N < 10 * SetTable.turns t.mask)
    (free : slAt P w t k N ∉ t.place.toList) (full : ∀ c, c < N → slAt P w t k c ∈ t.place.toList) {Q : SetFound → Shared → Prop}
    (yes : ∀ i, k ∈ L.map (·.2) → Q (.there (if ad then none else some i)) s) (no : k ∉ L.map (·.2) → Q (.free (slAt P w t k N) false) s) :
    ∀ (f c : Nat) (st : Option SetTable.Probe), st.getD (t.probeStart (thash P w k)) = stAt P w t k c → c ≤ N → N < f + c →
      (∀ (i : Nat) p, L[i]? = some p → p.2 = k → ∃ c', c ≤ c' ∧ c' < N ∧ t.place.toList[i]? = some (slAt P w t k c')) →
      wpAny (model P w) A (setSearchFrom a (.ref x) (thash P w k) ad f st) Q E s := by
  intro f
  induction f with
  | zero => intro c st _ h1 h2 _; omega
  | succ f ih =>
    intro c st est hc hf ahead
    obtain ⟨o, ho, hex, hd⟩ := R.obj
    rw [setSearchFrom_succ]
    refine wpAny_bind (wpAny_setState_of ho hd R.fts ?_)
    dsimp only
    refine wp_if_neg R.odd ?_
    try refine wpAny_bind (wpAny_pure ?_)
    have hashes : ∀ (i : Nat) p, L[i]? = some p → (es[i]?.map (·.1)).getD 0 = thash P w p.2 := fun i p g => by
      rw [R.ent g]
      rfl
    have spec := go_spec t R.tb.ris R.tb.dm (fun i => (es[i]?.map (·.1)).getD 0) (thash P w k) (10 * SetTable.turns t.mask) (N - c) (stAt P w t k c) (stAt_dm k c) (by omega)
      (fun q hq => by rw [stAt_add]; exact full (c + q) (by omega)) (by rw [stAt_add, Nat.add_sub_cancel' hc]; exact free)
    rw [est]
    simp only [stAt_add] at spec
    rcases spec with ⟨q, i, hq, hi, _, early, pr⟩ | ⟨early, pr⟩
    · -- an entry of this hash stands there
      have pr2 : t.probe (fun i => (es[i]?.map (·.1)).getD 0) (thash P w k) (stAt P w t k c) = _ := pr
      rw [pr2]
      dsimp only
      have il : i < L.length := by
        have e := (List.getElem?_eq_some_iff.mp hi).1
        rw [Array.length_toList, R.psz] at e
        exact e
      obtain ⟨p, gp⟩ : ∃ p, L[i]? = some p := ⟨_, List.getElem?_eq_getElem il⟩
      have mp : p ∈ L := List.mem_of_getElem? gp
      have live : t.slot (slAt P w t k (c + q)) = .live i := slot_live R.tb.ris hi
      have go : wpAny (model P w) A (searchRest a (.ref x) (thash P w k) ad f es t (slAt P w t k (c + q)) i (stAt P w t k (c + (q + 1)))) Q E s := by
        unfold searchRest
        rw [R.ent gp]
        dsimp only
        refine wpAny_bind (wpAny_holding (wpAny_eqBool_tuple hu (R.tps p mp) hx ?_))
        refine wpAny_bind (wpAny_setState_of ho hd R.fts ?_)
        dsimp only
        have later : p.2 ≠ k → wpAny (model P w) A (setSearchFrom a (.ref x) (thash P w k) ad f (some (stAt P w t k (c + (q + 1))))) Q E s := fun ne => by
          refine ih (c + (q + 1)) _ rfl (by omega) (by omega) fun i2 p2 g2 e2 => ?_
          obtain ⟨c2, b1, b2, b3⟩ := ahead i2 p2 g2 e2
          refine ⟨c2, ?_, b2, b3⟩
          refine Classical.byContradiction fun lt => ?_
          by_cases hc2 : c2 < c + q
          · refine early (c2 - c) i2 (by omega) (by rw [Nat.add_sub_cancel' b1]; exact b3) ?_
            rw [hashes i2 p2 g2, e2]
          · have e3 : c2 = c + q := by omega
            rw [e3] at b3
            have l2 := slot_live R.tb.ris b3
            rw [live] at l2
            injection l2 with l2
            rw [← l2, gp] at g2
            rw [Option.some.inj g2] at ne
            exact ne e2
        by_cases hk : p.2 = k
        · have mk : k ∈ L.map (·.2) := List.mem_map.mpr ⟨p, mp, hk⟩
          cases ad with
          | true =>
            refine wp_if_pos (by simp [hk]) ?_
            exact wpAny_pure (yes i mk)
          | false =>
            refine wp_if_neg (by simp) ?_
            try refine wpAny_bind (wpAny_pure ?_)
            rw [sameMem]
            dsimp only
            simp only [if_true, live, R.ent gp]
            refine wpAny_bind (wpAny_isSame_ref_self (wpAny_bind (wpAny_pure ?_)))
            rw [if_pos rfl]
            dsimp only
            rw [if_pos (decide_eq_true hk)]
            exact wpAny_pure (yes i mk)
        · refine wp_if_neg (by simp [hk]) ?_
          try refine wpAny_bind (wpAny_pure ?_)
          rw [sameMem]
          dsimp only
          simp only [if_true, live, R.ent gp]
          refine wpAny_bind (wpAny_isSame_ref_self (wpAny_bind (wpAny_pure ?_)))
          rw [if_pos rfl]
          dsimp only
          rw [if_neg (by rw [decide_eq_true_eq]; exact hk)]
          exact later hk
      by_cases hl : t.led = true
      · refine wp_if_neg (by rw [hl]; decide) ?_
        try refine wpAny_bind (wpAny_pure ?_)
        exact go
      · refine wp_if_pos (by simp [hl]) ?_
        refine wpAny_bind (seen_tup hx (fun y hy => ?_) ?_)
        · obtain ⟨e, he, rfl⟩ := List.mem_map.mp hy
          have he2 : e ∈ es.toList := by
            have := (Array.mem_filter.mp (Array.mem_toList_iff.mp he)).1
            exact Array.mem_toList_iff.mpr this
          rw [R.rw_] at he2
          obtain ⟨p2, m2, rfl⟩ := List.mem_map.mp he2
          exact ⟨p2.2, p2.1, rfl, R.tps p2 m2⟩
        · refine wp_if_neg Bool.false_ne_true ?_
          try refine wpAny_bind (wpAny_pure ?_)
          exact go
    · -- the empty slot
      have pr2 : t.probe (fun i => (es[i]?.map (·.1)).getD 0) (thash P w k) (stAt P w t k c) = _ := pr
      rw [pr2, Nat.add_sub_cancel' hc]
      dsimp only
      refine wpAny_pure (no fun hm => ?_)
      obtain ⟨p, mp, e⟩ := List.mem_map.mp hm
      obtain ⟨i, gp⟩ := List.getElem?_of_mem mp
      obtain ⟨c2, b1, b2, b3⟩ := ahead i p gp e
      refine early (c2 - c) i (by omega) (by rw [Nat.add_sub_cancel' b1]; exact b3) ?_
      rw [hashes i p gp, e]
/-- the search as it is asked for -/
theorem psearch0 (R : PsR P w s.heap a L es ep t) {x : Addr} {k : List Int} (hx : IsT P w s.heap k x) (hu : A.units < cLine) (ad : Bool) {Q : SetFound → Shared → Prop}
    (yes : ∀ i, k ∈ L.map (·.2) → Q (.there (if ad then none else some i)) s)
    (no : ∀ N, k ∉ L.map (·.2) → slAt P w t k N ∉ t.place.toList → (∀ c, c < N → slAt P w t k c ∈ t.place.toList) → Q (.free (slAt P w t k N) false) s) :
    wpAny (model P w) A (setSearch a (.ref x) (thash P w k) ad) Q E s := by
  have few := R.rm
  obtain ⟨N, n1, n2, n3⟩ := R.tb.first (by rw [List.length_map]; omega) (thash P w k)
  have n4 : N < 100000 := by
    have e : 10 * SetTable.turns t.mask ≤ 1420 := by
      unfold SetTable.turns
      rcases R.tb.mok with e | e | e <;> omega
    omega
  unfold setSearch
  refine psearch R hx hu ad n1 n2 n3 yes (fun z => no N z n2 n3) 100000 0 none rfl (Nat.zero_le _) (by omega) fun i p gp e => ?_
  have g1 : (L.map fun p => thash P w p.2)[i]? = some (thash P w k) := by
    rw [List.getElem?_map, gp, ← e]
    rfl
  have g2 : i < t.place.toList.length := by
    rw [Array.length_toList, R.psz]
    exact (List.getElem?_eq_some_iff.mp gp).1
  obtain ⟨c, c1, c2⟩ := R.tb.before n2 g1 (List.getElem?_eq_getElem g2)
  refine ⟨c, Nat.zero_le _, c1, ?_⟩
  rw [List.getElem?_eq_getElem g2]
  exact congrArg some c2.symm
end

section
variable {P : Program} {w : World} {A : Around} {E : Value → Shared → Prop} {s : Shared}
variable {a : Addr} {L : List (Addr × List Int)} {es : Array (Int × Value)} {ep : Nat} {t : SetTable}
theorem PsR.ty (R : PsR P w s.heap a L es ep t) : s.TypeIs (.ref a) "set" := by
  obtain ⟨o, ho, hx, _⟩ := R.obj
  exact ⟨o, ho, hx.1⟩
theorem PsR.nodict (R : PsR P w s.heap a L es ep t) : ∀ b, Value.ref a = .ref b → ∃ ob, s.heap.get? b = some ob ∧ ob.dict = none := fun b e => by
  injection e with e
  subst e
  obtain ⟨o, ho, hx, _⟩ := R.obj
  exact ⟨o, ho, hx.2.1⟩
/-- who is sought among tuples -/
theorem pfind (R : PsR P w s.heap a L es ep t) {x : Addr} {k : List Int} (hx : IsT P w s.heap k x) (hu : A.units < cLine) {Q : Option Nat → Shared → Prop}
    (h : ∀ r : Option Nat, r.isSome = decide (k ∈ L.map (·.2)) → Q r s) : wpAny (model P w) A (setFind a (.ref x) (thash P w k)) Q E s := by
  obtain ⟨o, ho, hex, hd⟩ := R.obj
  show wpAny (model P w) A (setFindIn a (.ref x) (thash P w k) (99999 + 1)) Q E s
  unfold setFindIn
  refine wpAny_bind (wpAny_setState_of ho hd R.fts ?_)
  dsimp only
  refine wp_if_neg (by simp [byScan, Value.scannable]) ?_
  try refine wpAny_bind (wpAny_pure ?_)
  refine wpAny_bind (psearch0 R hx hu false (fun i m => ?_) fun N m _ _ => ?_)
  · dsimp only
    exact wpAny_pure (h (some i) (by rw [decide_eq_true m]; rfl))
  · dsimp only
    exact wpAny_pure (h none (by rw [decide_eq_false m]; rfl))
theorem pis_in (R : PsR P w s.heap a L es ep t) {x : Addr} {k : List Int} (hx : IsT P w s.heap k x) (hu : A.units + 4 < cLine) {Q : Value → Shared → Prop}
    (h : Q (.bool (decide (k ∈ L.map (·.2)))) { s with toks := s.toks + (k.length + 1) }) : wpAny (model P w) A (compareOp .In (.ref x) (.ref a)) Q E s := by
  have ty := R.ty
  have ask : wpAny (model P w) A.in1 (Builtin.«frozenset.__contains__» ⟨[.ref a, .ref x], []⟩) (fun fin s' => ∃ v, fin = .done (.ret v) ∧ wpAny (model P w) A (truthy v) (fun c s' => wpAny (model P w) A (pure (Value.bool c)) Q E s') E s') E s := by
    simp only [Builtin.«frozenset.__contains__», Builtin.Frozenset.oneOther, Builtin.Frozenset.addrOf, Builtin.Frozenset.withSetAsKey, setContains, List.isEmpty_nil, bind_assoc]
    refine wpAny_bind (wpAny_pure ?_); try dsimp only
    refine wpAny_bind (wpAny_pure ?_); try dsimp only
    refine wpAny_bind (wpAny_tryCatch (wpAny_holding (wpAny_bind (wpAny_pyHash_tuple (by show A.units + 1 < cLine; omega) hx ?_))))
    refine wpAny_bind (pfind (s := { s with toks := s.toks + (k.length + 1) }) R hx (by show A.units + 1 < cLine; omega) fun r er => wpAny_pure ?_)
    show wpAny _ _ (ret (Value.bool r.isSome)) _ _ _
    rw [er]
    exact wpAny_pure ⟨_, rfl, wpAny_truthy_bool (wpAny_pure h)⟩
  show wpAny _ _ (contains (.ref a) (.ref x) >>= fun b => pure (Value.bool b)) Q E s
  refine wpAny_bind ?_
  unfold contains
  try with_reducible refine wpAny_holding ?_
  refine wpAny_bind (wpAny_specialOf ty F.slot_set_contains.lookup ?_)
  refine wp_if_neg (by rw [beq_builtin_none]; decide) (wpAny_bind (wpAny_callSpecialUnlessNone?_slot (name := Str.ofString "__contains__") ty F.slot_set_contains (wpAny_call_entry F.slot_set_contains ty entry_set_contains ask (F.args_set_contains_2 _ _))))
end

section
variable {P : Program} {w : World} {A : Around} {E : Value → Shared → Prop} {s : Shared}
variable {a : Addr} {L : List (Addr × List Int)} {es : Array (Int × Value)} {ep : Nat} {t : SetTable}
theorem PsR.small {h : Heap} (R : PsR P w h a L es ep t) (few : L.length < 64) : SetTR P w h a L es ep t := ⟨R.obj, R.rw_, R.tb, R.nod, R.tps, R.pln, R.ld, R.rm, few⟩
theorem PsR.of {h : Heap} (R : SetTR P w h a L es ep t) : PsR P w h a L es ep t := ⟨R.ob, R.rows, R.tab, R.nd, R.tup, R.plain, R.led, R.room⟩
/-- one more tuple -/
theorem padd (R : PsR P w s.heap a L es ep t) {x : Addr} {k : List Int} (hx : IsT P w s.heap k x) (hu : A.units < cLine) (bnd : L.length + 1 ≤ 76) {Q : Bool → Shared → Prop}
    (h : ∀ b h' L' es' ep' t', Heap.SameBut a s.heap h' → PsR P w h' a L' es' ep' t' → (k ∈ L.map (·.2) → L' = L) → (k ∉ L.map (·.2) → L'.Perm ((x, k) :: L)) → Q b { s with heap := h' }) :
    wpAny (model P w) A (setAddHashed a (.ref x) (thash P w k)) Q E s := by
  by_cases few : L.length + 1 < 64
  · exact add_at (R.small (by omega)) hx hu few fun b h' L' es' ep' t' sb R' c1 c2 => h b h' L' es' ep' t' sb (PsR.of R') c1 c2
  · obtain ⟨o, ho, hex, hd⟩ := R.obj
    have m127 : t.mask = 127 := by
      have := R.rm
      rcases R.tb.mok with e | e | e <;> omega
    unfold setAddHashed
    refine wpAny_holding ?_
    show wpAny (model P w) A (setAddHashedIn a (.ref x) (thash P w k) (99999 + 1)) Q E s
    rw [setAddHashedIn_succ]
    refine wpAny_bind (wpAny_setState_of ho hd R.fts ?_)
    dsimp only
    refine wp_if_neg (by simp [byScan, Value.scannable]) ?_
    try refine wpAny_bind (wpAny_pure ?_)
    refine wpAny_bind (psearch0 R hx hu true (fun i m => ?_) fun N m n1 n2 => ?_)
    · dsimp only
      exact wpAny_pure (h false s.heap L es ep t (Heap.SameBut.refl a s.heap) R (fun _ => rfl) fun z => absurd m z)
    · dsimp only
      refine wpAny_bind (wpAny_setState_of ho hd R.fts ?_)
      dsimp only
      obtain ⟨q1, q2, q3, q4, q5, q6, q7, q8, q9⟩ := R.tb.put n1 n2
      have e0 : way t.mask (thash P w k) N = slAt P w t k N := rfl
      rw [e0] at q1 q2 q3 q4 q5 q6 q7 q8 q9
      generalize slAt P w t k N = sl at q1 q2 q3 q4 q5 q6 q7 q8 q9 ⊢
      rw [q1]
      generalize (t.put sl).1 = t1 at q3 q4 q5 q6 q7 q8 q9 ⊢
      generalize SetTable.below t.place sl = b at q2 q3 ⊢
      have plain1 : t1.plain = true := by rw [q6]; exact R.pln
      refine wp_if_pos plain1 (wpAny_bind (hashBy_tup hx ?_))
      simp only [if_true, Bool.not_false, Bool.true_and]
      have pm : (L.take b ++ (x, k) :: L.drop b).Perm ((x, k) :: L) := put_perm L b (x, k)
      have rows : (SetTable.insertAt es b (thash P w k, Value.ref x)).toList = rowsOf P w (L.take b ++ (x, k) :: L.drop b) := by
        rw [rows_put, ← R.rw_]
        exact SetTable.toList_insertAt _ _ _
      have tabs : TabOk t1 ((L.take b ++ (x, k) :: L.drop b).map fun p => thash P w p.2) := by
        rw [List.map_append, List.map_cons, List.map_take, List.map_drop]
        exact q3
      generalize SetTable.insertAt es b (thash P w k, Value.ref x) = es1 at rows ⊢
      generalize L.take b ++ (x, k) :: L.drop b = L1 at pm rows tabs
      have len1 : L1.length = L.length + 1 := pm.length_eq
      have size1 : es1.size = L.length + 1 := by
        have e := congrArg List.length rows
        rw [Array.length_toList] at e
        rw [e, ← len1]
        exact List.length_map _
      have notFull : ¬ t1.tooFull = true := fun z => by
        have z2 : decide (t1.fill * 5 ≥ t1.mask * 3) = true := z
        rw [decide_eq_true_eq, q9, List.length_map, q4, m127] at z2
        omega
      refine wpAny_bind (wpAny_storeSet_of ho hd ?_ (by rw [size1, sizeLine_eq]; omega))
      refine wp_if_neg notFull ?_
      have sb : Heap.SameBut a s.heap (s.heap.update a (Obj.putSet es1 t1)) := Heap.SameBut.update ..
      refine wpAny_pure (h true _ L1 es1 (ep + 1) t1 sb ⟨⟨_, store_at ho hd, ⟨hex.1, hex.2.1, hex.2.2⟩, rfl⟩, rows, tabs, ?_, fun p hp => ?_, plain1, by rw [q5]; exact R.ld, by rw [len1, q4, m127]; omega⟩ (fun z => absurd z m) fun _ => pm)
      · refine (pm.map (·.2)).nodup_iff.mpr ?_
        rw [List.map_cons]
        exact List.nodup_cons.mpr ⟨m, R.nod⟩
      · rcases List.mem_cons.mp (pm.mem_iff.mp hp) with e | hp2
        · rw [e]
          exact isT_same hx ho hd sb
        · exact isT_same (R.tps p hp2) ho hd sb
end

/-! ### as rules of the layer: a set of pairs of ints -/
theorem perm_map {α β : Type} {f : α → β} {l m : List β} (h : l.Perm m) : ∀ L : List α, m = L.map f → ∃ L' : List α, List.Perm L' L ∧ l = List.map f L' := by
  induction h with
  | nil => intro L e; exact ⟨[], by rw [List.map_eq_nil_iff.mp e.symm], rfl⟩
  | cons x _ ih =>
    intro L e
    cases L with
    | nil => cases e
    | cons y L =>
      obtain ⟨e1, e2⟩ := List.cons.inj e
      obtain ⟨L', p, e3⟩ := ih L e2
      exact ⟨y :: L', p.cons y, by rw [List.map_cons, e1, e3]⟩
  | swap x y l =>
    intro L e
    match L, e with
    | y' :: x' :: L, e =>
      obtain ⟨e1, e2⟩ := List.cons.inj e
      obtain ⟨e3, e4⟩ := List.cons.inj e2
      exact ⟨x' :: y' :: L, List.Perm.swap y' x' L, by rw [List.map_cons, List.map_cons, ← e1, ← e3, ← e4]⟩
  | trans _ _ ih1 ih2 =>
    intro L e
    obtain ⟨L1, p1, e1⟩ := ih2 L e
    obtain ⟨L2, p2, e2⟩ := ih1 L1 e1
    exact ⟨L2, p2.trans p1, e2⟩
def pr2 : List Int → Pr
  | [x, y] => (x, y)
  | _ => (0, 0)
section
variable {P : Program} {w : World} {A : Around} {E : Value → Shared → Prop} {s : Shared}
variable {a : Addr} {L : List (Addr × List Int)} {es : Array (Int × Value)} {ep : Nat} {t : SetTable}
theorem IsT.pair {h : Heap} {b : Addr} {x y : Int} (q : IsT P w h [x, y] b) : Srt.IsPair h (.ref b) x y := by
  obtain ⟨o, items, n, ho, hc, hd, hi⟩ := q
  obtain ⟨its⟩ := items
  cases hi with
  | cons h1 h2 =>
    cases h2 with
    | cons h3 h4 =>
      cases h4
      obtain ⟨t1, rfl⟩ := Value.isInt_shape h1
      obtain ⟨t2, rfl⟩ := Value.isInt_shape h3
      exact ⟨b, o, t1, t2, n, rfl, ho, hc, hd⟩
/-- the pair that stands at a value -/
def kL (L : List (Addr × List Int)) (v : Value) : Pr := match v with
  | .ref b => pr2 ((L.lookup b).getD [])
  | _ => (0, 0)
theorem kL_of {h : Heap} (tps : ∀ p ∈ L, IsT P w h p.2 p.1) {q : Addr × List Int} (m : q ∈ L) : kL L (.ref q.1) = pr2 q.2 := by
  have key : ∀ L : List (Addr × List Int), (∀ p ∈ L, IsT P w h p.2 p.1) → q ∈ L → L.lookup q.1 = some q.2 := by
    intro L
    induction L with
    | nil => intro _ z; cases z
    | cons p L ih =>
      intro tps m
      obtain ⟨b, k⟩ := p
      by_cases e : q.1 = b
      · have t1 := tps _ m
        have t2 := tps (b, k) List.mem_cons_self
        rw [e] at t1
        have e2 : q.2 = k := t1.inj t2
        rw [List.lookup_cons, e, beq_self_eq_true, e2]
      · have m2 : q ∈ L := by
          rcases List.mem_cons.mp m with z | z
          · rw [z] at e
            exact absurd rfl e
          · exact z
        rw [List.lookup_cons, beq_eq_false_iff_ne.mpr e]
        exact ih (fun p hp => tps p (List.mem_cons_of_mem _ hp)) m2
  show pr2 ((L.lookup q.1).getD []) = _
  rw [key L tps m]
  rfl
/-- sorted(set) -/
theorem psorted (R : PsR P w s.heap a L es ep t) (hh : A.handled = none) (two : ∀ p ∈ L, ∃ x y, p.2 = [x, y]) (few : L.length ≤ 1000) {Q : Value → Shared → Prop}
    (h : ∀ s' p c (L' : List (Addr × List Int)), (∀ b o, s.heap.get? b = some o → s'.heap.get? b = some o) → s'.gens = s.gens → s'.os = s.os → s.heap.objs.size ≤ p → s'.heap.get? p = some (seqObj "list" (L'.map fun q => Value.ref q.1).toArray c) → L'.Perm L →
      L'.Pairwise (fun q r => ¬ lt2 (pr2 r.2) (pr2 q.2)) → Q (.ref p) s') : wpAny (model P w) A (call (.builtin "sorted") [.ref a]) Q E s := by
  obtain ⟨o, ho, hex, hd⟩ := R.obj
  have sz := R.sz
  refine Calls.call_function_entry kind_sorted plain_sorted entry_sorted (args_sorted1 _) ?_
  unfold Builtin.«sorted»; refine wpAny_bind (m := checkCount "sorted" 1 1 _) (wpAny_pure ?_)
  refine wpAny_bind (collect_set (A := A.in1) hh ⟨o, ho, hex.1, hd⟩ R.fts (by rw [sz]; unfold scanBound; omega) R.tb.ris R.ld fun s1 vs keep grow g1 o1 pm => ?_)
  have e1 : es.toList.map (·.2) = L.map fun q => Value.ref q.1 := by
    rw [R.rw_]
    show List.map _ (L.map _) = _
    rw [List.map_map]
    rfl
  rw [e1] at pm
  have lv : vs.length ≤ sizeLine := by
    rw [pm.length_eq, List.length_map, sizeLine_eq]
    omega
  refine wpAny_bind (wpAny_newList ?_ lv)
  have new : (s1.heap.push (seqObj "list" vs.toArray 0)).get? s1.heap.objs.size = some (seqObj "list" vs.toArray 0) := Heap.get?_push_size _ rfl
  have pairs : ∀ v ∈ vs, Srt.IsPair (s1.heap.push (seqObj "list" vs.toArray 0)) v (kL L v).1 (kL L v).2 := fun v hv => by
    obtain ⟨q, hq, rfl⟩ := List.mem_map.mp (pm.mem_iff.mp hv)
    rw [kL_of R.tps hq]
    obtain ⟨x, y, e2⟩ := two q hq
    have t1 := R.tps q hq
    rw [e2] at t1 ⊢
    exact Srt.IsPair.keeps (IsT.pair t1) fun b u e _ => Heap.get?_push_of_some _ (keep b u e)
  refine wpAny_bind (wpAny_holding (wpAny_call_entry slot_list_sort ⟨_, new, rfl⟩ entry_list_sort (SrtO.list_sort_ord (s := { s1 with heap := s1.heap.push (seqObj "list" vs.toArray 0) }) (SrtO.swo_lex (kL L)) new lv (fun h2 => SrtO.pairs_sortableO (by omega) pairs fun o e c => ?_) fun out so st => ⟨_, rfl, ?_⟩) (args_list_sort _)))
  · have e3 : some o = some (seqObj "list" vs.toArray 0) := e.symm.trans new
    cases e3
    exact absurd (Value.type.inj c) (by decide)
  · obtain ⟨L', p1, p2⟩ := perm_map (st.perm.trans pm) L rfl
    obtain ⟨c, hc⟩ := sortedHeap_at (vs := vs) (out := out.toArray) new
    refine wpAny_pure ⟨_, rfl, h _ s1.heap.objs.size c L' (fun b u e => ?_) g1 o1 grow ?_ p1 ?_⟩
    · have e4 := keep b u e
      have lt := Heap.lt_size e4
      show (sortedHeap (s1.heap.push (seqObj "list" vs.toArray 0)) s1.heap.objs.size vs out.toArray).get? b = some u
      rw [sortedHeap_old (Nat.ne_of_lt lt) (by rw [size_push']; exact Nat.lt_succ_of_lt lt)]
      exact Heap.get?_push_of_some _ e4
    · rw [← p2]
      exact hc
    · rw [p2] at so
      refine List.Pairwise.imp_of_mem (fun {q r} hq hr z => ?_) (List.pairwise_map.mp so)
      have z2 : SrtO.lexB (kL L (Value.ref r.1)) (kL L (Value.ref q.1)) = false := z
      rw [kL_of R.tps (p1.mem_iff.mp hq), kL_of R.tps (p1.mem_iff.mp hr)] at z2
      exact SrtO.lexB_no.mp z2
end
/-- the set at a without its tuples -/
structure Ps0 (P : Program) (w : World) (h : Heap) (a : Addr) (L : List (Addr × List Int)) : Prop where
  ex : ∃ (es : Array (Int × Value)) (ep : Nat) (t : SetTable), (∃ o, h.get? a = some o ∧ o.ExactSet ∧ o.data = .set es ep t) ∧ es.toList = rowsOf P w L ∧ TabOk t (L.map fun p => thash P w p.2) ∧ (L.map (·.2)).Nodup ∧ t.plain = true ∧ (w.params.followText "set-order" = true ∨ t.led = true) ∧ L.length * 5 < t.mask * 3
def PsO (P : Program) (w : World) (a : Addr) (L : List (Addr × List Int)) : HO := .ext fun h => Ps0 P w h a L
theorem PsR.p0 {P : Program} {w : World} {h : Heap} {a : Addr} {L : List (Addr × List Int)} {es : Array (Int × Value)} {ep : Nat} {t : SetTable} (R : PsR P w h a L es ep t) : Ps0 P w h a L := ⟨es, ep, t, R.obj, R.rw_, R.tb, R.nod, R.pln, R.ld, R.rm⟩
theorem Ps0.full {P : Program} {w : World} {h : Heap} {a : Addr} {L : List (Addr × List Int)} (R : Ps0 P w h a L) (tp : ∀ p ∈ L, IsT P w h p.2 p.1) : ∃ es ep t, PsR P w h a L es ep t := by
  obtain ⟨es, ep, t, h1, h2, h3, h4, h5, h6, h7⟩ := R.ex
  exact ⟨es, ep, t, ⟨h1, h2, h3, h4, tp, h5, h6, h7⟩⟩
theorem psO_new {P : Program} {w : World} {H : Hp} {h : Heap} {a : Addr} {L : List (Addr × List Int)} (R : Ps0 P w h a L) : ObjOk P w H h a (PsO P w a L) := by
  refine ⟨R, ?_, fun h1 h2 p k => ?_⟩
  · obtain ⟨_, _, _, ⟨o, ho, _⟩, _⟩ := R.ex
    exact ⟨o, ho⟩
  · obtain ⟨es, ep, t, ⟨o, ho, r⟩, q⟩ := Ps0.ex p
    exact ⟨es, ep, t, ⟨o, k o ho, r⟩, q⟩
section
variable {X : Cx}
theorem ps_get {pins : List (Addr × Obj)} {σ : L2.St} {H : Hp} {s : Shared} {a : Addr} {L : List (Addr × List Int)} (I : Inv X pins σ H s) (ha : H a = some (PsO X.prog X.w a L)) (tp : ∀ p ∈ L, SqT X.K H p.1 (p.2.map V.int)) : ∃ es ep t, PsR X.prog X.w s.heap a L es ep t :=
  Ps0.full (I.hok a _ ha).1 fun p hp => I.isT (tp p hp)
/-- set(), to be filled with pairs -/
def rPs0 (P : Program) (w : World) : List V → Hp → VK → Prop := fun xs H Q => xs = [] ∧ ∀ p, H p = none → Q (.ref p) (upd H p (PsO P w p []))
theorem cr_ps0 : CallR X (.type "set") (rPs0 X.prog X.w) := by
  intro pins s σ H xs us Q I r h
  obtain ⟨rfl, q⟩ := h
  cases r
  refine setR_new fun _ => ?_
  exact ⟨.ref _, upd H s.heap.objs.size (PsO X.prog X.w s.heap.objs.size []), I.laid (t' := s.toks) (fun b u e => Heap.get?_push_of_some _ e) (Nat.le_refl _) (psO_new (PsR.of (setTR_fresh (Heap.get?_push_size _ rfl))).p0), rfl, q _ (I.hok.fresh (Nat.le_refl _))⟩
/-- (a, b) in seen -/
def rPsIn (K : PySem.W.Frag) (P : Program) (w : World) : V → V → Hp → VK → Prop := fun x y H Q => ∃ b k a L, x = V.ref b ∧ y = V.ref a ∧ H a = some (PsO P w a L) ∧ (∀ p ∈ L, SqT K H p.1 (p.2.map V.int)) ∧ SqT K H b (k.map V.int) ∧ Q (.bl (decide (k ∈ L.map (·.2)))) H
theorem op_psIn (hu : X.A.units + 64 < cLine) : OpR X (compareOp .In) (rPsIn X.K X.prog X.w) := by
  intro pins s σ H x y v u Q I rx ry h
  obtain ⟨b, k, a, L, rfl, rfl, ha, tp, hb, q⟩ := h
  cases (show v = Value.ref b from rx)
  cases (show u = Value.ref a from ry)
  obtain ⟨es, ep, t, R⟩ := ps_get I ha tp
  exact pis_in R (I.isT hb) (by omega) ⟨.bl _, H, I.tok _, rfl, q⟩
/-- seen.add((a, b)) -/
def rPsAdd (K : PySem.W.Frag) (P : Program) (w : World) : V → List V → Hp → VK → Prop := fun x xs H Q => ∃ b k a L, x = V.ref a ∧ xs = [V.ref b] ∧ H a = some (PsO P w a L) ∧ (∀ p ∈ L, SqT K H p.1 (p.2.map V.int)) ∧ SqT K H b (k.map V.int) ∧ L.length + 1 ≤ 76 ∧
  ∀ L', (k ∈ L.map (·.2) → L' = L) → (k ∉ L.map (·.2) → L'.Perm ((b, k) :: L)) → Q .non (upd H a (PsO P w a L'))
theorem mt_psAdd (hu : X.A.units + 64 < cLine) : MtR X "set.add" (rPsAdd X.K X.prog X.w) := by
  intro pins s σ H x xs v us Q I rx rxs h
  obtain ⟨b, k, a, L, rfl, rfl, ha, tp, hb, bnd, q⟩ := h
  cases rx
  cases rxs with
  | cons ry rt =>
    cases rt
    cases (show _ = Value.ref b from ry)
    obtain ⟨es, ep, t, R⟩ := ps_get I ha tp
    have hx := I.isT hb
    refine wpAny_call_entry F.slot_set_add R.ty F.entry_set_add ?_ (F.args_set_add_2 _ _)
    simp only [Builtin.«set.add», Builtin.Frozenset.oneOther, Builtin.Frozenset.addrOf, setAdd, List.isEmpty_nil, bind_assoc]
    refine wpAny_bind (wpAny_pure ?_); try dsimp only
    refine wpAny_bind (wpAny_pure ?_); try dsimp only
    refine wpAny_bind (wpAny_holding (wpAny_bind (wpAny_pyHash_tuple (by show X.A.units + 1 < cLine; omega) hx ?_)))
    refine padd (s := { s with toks := s.toks + (k.length + 1) }) R hx (by show X.A.units + 1 < cLine; omega) bnd fun c h' L' es' ep' t' sb R' c1 c2 => ?_
    show wpAny _ _ (ret Value.none) _ _ _
    have he : ∃ u, h'.get? a = some u := by
      obtain ⟨o, ho, _⟩ := R'.obj
      exact ⟨o, ho⟩
    exact wpAny_pure ⟨_, rfl, .non, upd H a (PsO X.prog X.w a L'), I.write (e := a) (t' := s.toks + (k.length + 1)) (by rw [ha]; trivial) (.inl rfl) (fun b u hb hu => (sb.2 b hb).trans hu) he (psO_new R'.p0), rfl, q L' c1 c2⟩
/-- sorted(seen) -/
def rPsSort (K : PySem.W.Frag) (P : Program) (w : World) : List V → Hp → VK → Prop := fun vs H Q => ∃ a L, vs = [V.ref a] ∧ H a = some (PsO P w a L) ∧ (∀ p ∈ L, SqT K H p.1 (p.2.map V.int)) ∧ (∀ p ∈ L, ∃ x y, p.2 = [x, y]) ∧ L.length ≤ 1000 ∧
  ∀ (L' : List (Addr × List Int)) (p : Addr), L'.Perm L → (L'.map (·.2)).Nodup → L'.Pairwise (fun q r => ¬ lt2 (pr2 r.2) (pr2 q.2)) → H p = none → Q (.ref p) (upd H p (.lst (L'.map fun q => V.ref q.1)))
theorem cr_psSort (hc : X.calm = true) : CallR X (.builtin "sorted") (rPsSort X.K X.prog X.w) := by
  intro pins s σ H vs us Q I r h
  obtain ⟨a, L, rfl, ha, tp, two, few, q⟩ := h
  obtain ⟨es, ep, t, R⟩ := ps_get I ha tp
  rw [Vals.ref1 r]
  refine psorted R (I.ok.hd hc) two few fun s' p c L' keep g o hp hg pm pw => ?_
  have hn : H p = none := I.hok.fresh hp
  have ll : (L'.map fun q => V.ref q.1).length ≤ sizeLine := by
    rw [List.length_map, pm.length_eq, sizeLine_eq]
    omega
  have J : Inv X pins σ (upd H p (.lst (L'.map fun q => V.ref q.1))) { s with heap := s'.heap, gens := s'.gens, drawn := s'.drawn, toks := s'.toks } :=
    I.call (ch := []) (Un.laid keep hp hn) (I.hok.laid keep hp ⟨ll, _, c, vals_of_refs L', hg⟩) (by rw [g]; exact I.bare) (fun _ z => nomatch z)
  have e : s' = { s with heap := s'.heap, gens := s'.gens, drawn := s'.drawn, toks := s'.toks } := by
    cases s'
    cases s
    cases o
    rfl
  rw [e]
  exact ⟨.ref p, _, J, rfl, q L' p pm ((pm.map (·.2)).nodup_iff.mpr R.nod) pw hn⟩
/-- the call of the method -/
def tPsAdd (K : PySem.W.Frag) (P : Program) (w : World) (to : TE) (t : TA) : TE := fun σ H Q => to σ H fun x H1 => (∃ a L, x = V.ref a ∧ H1 a = some (PsO P w a L)) ∧ t σ H1 fun xs H2 => rPsAdd K P w x xs H2 Q
theorem ps_look {pins : List (Addr × Obj)} {σ : L2.St} {H : Hp} {s : Shared} {a : Addr} {L : List (Addr × List Int)} (I : Inv X pins σ H s) (ha : H a = some (PsO X.prog X.w a L)) : s.TypeIs (.ref a) "set" ∧ ∀ b, Value.ref a = .ref b → ∃ ob, s.heap.get? b = some ob ∧ ob.dict = none := by
  obtain ⟨_, _, _, ⟨o, ho, hx, _⟩, _⟩ := Ps0.ex (I.hok a _ ha).1
  refine ⟨⟨o, ho, hx.1⟩, fun b e => ?_⟩
  injection e with e
  subst e
  exact ⟨o, ho, hx.2.1⟩
theorem pe_psAdd {o e : Expr} {es : List Expr} {to : TE} {t : TA} {apos cpos : Pos} (hu : X.A.units + 64 < cLine) (ho : PE X o to) (ha : PA X (e :: es) t)
    (b1 : attributeBase o "add" X.env (eval o X.env) = eval o X.env := by rfl)
    (b2 : ((backTo cpos (starEach (e :: es) X.env)).all (fun x => !x.1) && (backToKw cpos (keywordEach [] X.env)).all (fun x => x.1.isSome) && decide ((e :: es).length + ([] : List Keyword).length + (if ([] : List Keyword).isEmpty then 0 else 1) < 30)) = true := by rfl)
    (b3 : (apos.endLine == cpos.line) = true := by rfl) (b4 : starEach (e :: es) X.env = (false, eval e X.env) :: starEach es X.env := by rfl) (b5 : (backTo cpos (starEach es X.env)).any (·.1) = false := by rfl) :
    PE X (.Call (.Attribute o "add" apos) (e :: es) [] cpos) (tPsAdd X.K X.prog X.w to t) := by
  refine ⟨fun pins s σ H Q I h => wpAny_Call_method_late b1 b2 b3 rfl (thn (ho.run pins s σ H _ I h) ?_)⟩
  rintro v s1 ⟨x, H1, I1, r1, ⟨a, L, rfl, hka⟩, q1⟩
  cases r1
  obtain ⟨k1, k2⟩ := ps_look I1 hka
  refine ⟨"set", "set.add", F.plainAttrs_set, F.slot_set_add, F.type_set_add, k1, k2, ?_⟩
  have run := ha.run cpos pins s1 σ H1 _ I1 q1
  rw [b4] at run ⊢
  refine Calls.callWith_builtin ?_ (Calls.evalArgs_plain (thn run ?_))
  · show (false || (backTo cpos (starEach es X.env)).any (·.1)) = false
    rw [b5]
    rfl
  · rintro us s2 ⟨vs, H2, I2, r2, q2⟩
    exact mt_psAdd hu pins s2 σ H2 (.ref a) vs (.ref a) us Q I2 rfl r2 q2
end

abbrev sHouse : Stmt := topS 12
abbrev sHinit : Stmt := inClass sHouse 2
abbrev sHcount : Stmt := inClass sHouse 3
abbrev sHdoors : Stmt := inClass sHouse 4
abbrev sHnear : Stmt := inClass sHouse 5
abbrev sHhas : Stmt := inClass sHouse 6
abbrev sRoom : Stmt := topS 13
abbrev sChk : Stmt := topS 14
/-- what the walk asks of the class House -/
structure Hs (K : PySem.W.Frag) (mg : Str → Option Value) (C : Addr) : Prop where
  cl : Cls K C
  nR : NoAttr K C "rooms"
  nD : NoAttr K C "_doors"
  nN : NoAttr K C "_near"
  mgC : mg "House" = some (.ref C)
  rd : ∃ mc u, ClX.CRead K C mc ∧ ClX.CVal K C mc "MOST_ROOMS" (.int 12) u
theorem for_enum {K : PySem.W.Frag} {a : Addr} {xs : List V} {g : TG} {tb : TS} {D : Ends} {σ : L2.St} {H : Hp} (Pv : Nat → L2.St → Hp → Prop) (h0 : Pv 0 σ H) (hl : ∀ i σ H, Pv i σ H → SqL K H a xs)
    (hs : ∀ (i : Nat) (x : V) (t : Addr) (σ : L2.St) (H : Hp), xs[i]? = some x → Pv i σ H → H t = none → g (.ref t) σ (upd H t (.tup [.int (i : Nat), x])) fun σ2 H2 => tb { D with nx := Pv (i + 1), ct := Pv (i + 1), bk := D.nx } σ2 H2) (hd : ∀ σ H, Pv xs.length σ H → D.nx σ H) :
    tFor (fun _ H R => R (Ite K a) H) g tb D σ H := by
  refine ⟨fun i m σ H => m = xs.length - i ∧ i ≤ xs.length ∧ Pv i σ H, ⟨xs.length, rfl, Nat.zero_le _, h0⟩, ?_⟩
  rintro i m σ H ⟨rfl, hi, p⟩
  have q := hl i σ H p
  by_cases lt : i < xs.length
  · refine .inr ⟨⟨xs, xs[i], q, List.getElem?_eq_getElem lt⟩, Pv (i + 1), fun σ' H' p' => ⟨xs.length - (i + 1), by omega, rfl, lt, p'⟩, ?_⟩
    rintro v H' ⟨t, x, rfl, nt, rfl, f⟩
    exact hs i x t σ H (f xs q) p nt
  · have e : i = xs.length := by omega
    subst e
    exact .inl ⟨⟨xs, q, Nat.le_refl _⟩, hd σ H p⟩
section
variable {P : Program} {w : World} {K : PySem.W.Frag} {mg : Str → Option Value} {base : Heap}
theorem scRoom : FnScope ["rooms"] ["rooms"] (defScope sRoom) := ⟨rfl, rfl, rfl, by decide +kernel, rfl, by decide +kernel, by decide +kernel⟩
def spRoom : Sp := fun vs H Q _ => ∃ r : Int, vs = [.int r] ∧ 1 ≤ r ∧ r ≤ 12 ∧ Q .non H
theorem ok_room {f C : Addr} {fd : FuncData} (F : Fun K "check_room_count" "check_room_count" sRoom f fd) (T : Hs K mg C) : FnOk P w K mg base CX0 1 f fd ["rooms"] spRoom := by
  refine F.ok scRoom (fun vs H Q E h => ?_) (fun cdv A outer s H vs Q E hr h => ?_)
  · obtain ⟨r, rfl, _⟩ := h
    rfl
  · obtain ⟨r, rfl, h1, h2, q⟩ := h
    refine ⟨_, (pss_one (ps_if (pt_not (pt_chain op_le op_le pe_int (pv 0) (ClX.pe_cval (pe_glob (v := .ref C) (by rfl) T.mgC rfl))))
      (pss_one (ps_never))
      pss_nil)), ?_⟩
    obtain ⟨mc, u, c1, c2⟩ := T.rd
    walk_at "rd"
    rw [if_pos h1]
    refine ⟨C, mc, .int 12, u, rfl, c1, c2, 12, rfl, ?_⟩
    rw [decide_eq_true h2]
    exact iteF q
theorem scChk : FnScope ["rooms", "doors", "seen", "place", "a", "b"] ["rooms", "doors"] (defScope sChk) := ⟨rfl, rfl, rfl, by decide +kernel, rfl, by decide +kernel, by decide +kernel⟩
def two (d : Pr) : List Int := [d.1, d.2]
theorem psO_ne {P : Program} {w : World} {a : Addr} {L : List (Addr × List Int)} {xs : List V} : PsO P w a L ≠ .tup xs := fun h => by
  unfold PsO at h
  cases h
theorem two_inj {d e : Pr} (h : two d = two e) : d = e := by
  unfold two at h
  obtain ⟨h1, h2⟩ := List.cons.inj h
  exact Prod.ext h1 (List.cons.inj h2).1
theorem not_taken {D : List Pr} (nd : D.Nodup) {i : Nat} {d : Pr} (g : D[i]? = some d) : d ∉ D.take i := fun z => by
  obtain ⟨j, gj⟩ := List.getElem?_of_mem z
  have lt : j < (D.take i).length := (List.getElem?_eq_some_iff.mp gj).1
  rw [List.length_take] at lt
  rw [List.getElem?_take_of_lt (by omega)] at gj
  have := nd_ix nd gj g
  omega
def spChk : Sp := fun vs H Q _ => ∃ (r : Nat) (l : Addr) (us : List V) (D : List Pr), vs = [.int r, .ref l] ∧ H l = some (.lst us) ∧ PL H us D ∧ D.Nodup ∧ (∀ d ∈ D, 0 ≤ d.1 ∧ d.1 < d.2 ∧ d.2 < r) ∧ r ≤ 12 ∧
  ∀ D' ws p H', Asc D' → (∀ d, d ∈ D' ↔ d ∈ D) → Same H H' → H p = none → H' p = some (.lst ws) → PL H' ws D' → Q (.ref p) H'
theorem ok_chk {f : Addr} {fd : FuncData} (F : Fun K "checked_doors" "checked_doors" sChk f fd) (T : Bi mg) : FnOk P w K mg base CX0 1 f fd ["rooms", "doors"] spChk := by
  refine F.ok scChk (fun vs H Q E h => ?_) (fun cdv A outer s H vs Q E hr h => ?_)
  · obtain ⟨r, l, us, D, rfl, _⟩ := h
    rfl
  · obtain ⟨r, l, us, D, rfl, hl, pl, nd, ok, hr12, q⟩ := h
    refine ⟨_, (pss_cons (ps_set (i := 2) scChk.nd rfl (Or.inl rfl) (pe_callTy0 cr_ps0 (by rfl) T.set (by decide +kernel)))
      (pss_cons (ps_for PassesOwn.never rfl (pi_enum (by rfl) T.enumerate (pa_cons (pv 1) pa_nil)) (pg_tup rfl (pgs_cons (pg_name (i := 3) scChk.nd rfl (Or.inl rfl)) (pgs_cons (pg_tup rfl (pgs_cons (pg_name (i := 4) scChk.nd rfl (Or.inl rfl)) (pgs_cons (pg_name (i := 5) scChk.nd rfl (Or.inl rfl)) pgs_nil))) pgs_nil)))
      (pss_cons (ps_if (PW.pt (pw_or (pt_not (PW.pt (pw_and (pt_chain op_le op_lt pe_int (pv 4) (pv 0)) (pw_and1 (pt_chain op_le op_lt pe_int (pv 5) (pv 0)))))) (pw_or (pt_cmpR op_eqI (pv 4) (pv 5) (nomark _)) (pw_or1 (pt_cmpR (op_psIn hr.units) (pe_tup (pa_cons (pv 4) (pa_cons (pv 5) pa_nil))) (pv 2) (by rfl))))))
        (pss_one (ps_never))
        pss_nil)
        (pss_one (ps_expr (pe_psAdd hr.units (pv 2) (pa_cons (pe_tup (pa_cons (pv 4) (pa_cons (pv 5) pa_nil))) pa_nil))))))
      (pss_one (ps_ret (pe_callB (cr_psSort rfl) (by rfl) T.sorted (by decide +kernel) (pa_cons (pv 2) pa_nil)))))), ?_⟩
    walk_at "rd"
    refine ⟨rfl, fun p np => ?_⟩
    obtain ⟨Pv, hPv⟩ : ∃ Pv : Nat → L2.St → Hp → Prop, Pv = (fun i σ H' => ∃ (L : List (Addr × List Int)) (v3 v4 v5 : Option V), σ = [some (.int r), some (.ref l), some (.ref p), v3, v4, v5] ∧ Same H H' ∧ H' p = some (PsO P w p L) ∧ (∀ q ∈ L, H' q.1 = some (.tup (q.2.map V.int))) ∧ List.Perm (L.map (·.2)) ((D.take i).map two)) := ⟨_, rfl⟩
    have hul : us.length = D.length := pl.len
    have dlen := drs_len' hr12 nd ok
    refine ⟨_, rfl, l, us, rfl, SqL.of (same_upd np l _ hl), for_enum (xs := us) Pv (by rw [hPv]; exact ⟨[], none, none, none, rfl, same_upd np, upd_same, fun q hq => (by cases hq), List.Perm.refl _⟩) (fun i σ H' pv => ?_) ?_ ?_⟩
    · rw [hPv] at pv
      obtain ⟨L, v3, v4, v5, _, sm, _⟩ := pv
      exact SqL.of (sm l _ hl)
    · rintro i v t σ H' gv pv nt
      have nxt : ∀ (L : List (Addr × List Int)) (v3 v4 v5 : Option V) (H' : Hp), Same H H' → H' p = some (PsO P w p L) → (∀ q ∈ L, H' q.1 = some (.tup (q.2.map V.int))) → List.Perm (L.map (·.2)) ((D.take (i + 1)).map two) → Pv (i + 1) [some (.int r), some (.ref l), some (.ref p), v3, v4, v5] H' := fun L v3 v4 v5 H' h1 h2 h3 h4 => by
        rw [hPv]
        exact ⟨L, v3, v4, v5, rfl, h1, h2, h3, h4⟩
      rw [hPv] at pv
      obtain ⟨L, v3, v4, v5, rfl, sm, hp, tp, pm⟩ := pv
      obtain ⟨d, gd, td, rfl, htd⟩ := pl.get gv
      have hid : i < D.length := (List.getElem?_eq_some_iff.mp gd).1
      have md : d ∈ D := List.mem_of_getElem? gd
      have okd := ok d md
      have hl1 := sm l _ hl
      have htd1 := sm td _ htd
      have ntd : td ≠ t := ne_of_none htd1 nt
      have htd2 : upd H' t (HO.tup [V.int i, V.ref td]) td = some (.tup [.int d.1, .int d.2]) := by rw [upd_ne ntd]; exact htd1
      walk_at "rd"
      refine ⟨[.int i, .ref td], SqT.of upd_same, rfl, .int i, [.ref td], rfl, .ref td, [], rfl, td, rfl, [.int d.1, .int d.2], SqT.of htd2, rfl, .int d.1, [.int d.2], rfl, .int d.2, [], rfl, rfl, rfl, d.1, rfl, ?_⟩
      rw [if_pos okd.1]
      refine ⟨d.1, rfl, ?_⟩
      rw [if_pos (show d.1 < (r : Int) by omega)]
      refine ⟨d.2, rfl, ?_⟩
      rw [if_pos (show 0 ≤ d.2 by omega)]
      refine ⟨d.2, rfl, ?_⟩
      rw [decide_eq_true okd.2.2]
      refine iteF ?_
      refine ⟨d.1, rfl, d.2, rfl, ?_⟩
      rw [if_neg (show ¬ d.1 = d.2 by omega)]
      refine ⟨by decide, fun t1 nt1 => ?_⟩
      have ne1 : t1 ≠ p := fun e => by
        rw [e, upd_ne (show p ≠ t from ne_of_none hp nt), hp] at nt1
        cases nt1
      have s1 : Same H' (upd (upd H' t (HO.tup [V.int i, V.ref td])) t1 (HO.tup [V.int d.1, V.int d.2])) := (same_upd nt).trans (same_upd nt1)
      have out : two d ∉ L.map (·.2) := fun z => by
        obtain ⟨e, he, ee⟩ := List.mem_map.mp (pm.mem_iff.mp z)
        rw [two_inj ee] at he
        exact not_taken nd gd he
      have lenL : L.length ≤ 66 := by
        have e := pm.length_eq
        rw [List.length_map, List.length_map, List.length_take] at e
        omega
      refine ⟨t1, two d, p, L, rfl, rfl, s1 p _ hp, fun q hq => SqT.of (s1 _ _ (tp q hq)), SqT.of upd_same, ?_⟩
      rw [decide_eq_false out]
      refine ⟨false, rfl, iteF ?_⟩
      generalize upd (upd H' t (HO.tup [V.int i, V.ref td])) t1 (HO.tup [V.int d.1, V.int d.2]) = H1 at s1
      have hp1 := s1 p _ hp
      refine ⟨_, rfl, ⟨p, L, rfl, hp1⟩, _, rfl, _, rfl, (by show 2 ≤ sizeLine; decide), fun t2 nt2 => ?_⟩
      have s2 : Same H1 (upd H1 t2 (HO.tup [V.int d.1, V.int d.2])) := same_upd nt2
      have hp2 := s2 p _ hp1
      refine ⟨t2, two d, p, L, rfl, rfl, hp2, fun q hq => SqT.of (s2 _ _ (s1 _ _ (tp q hq))), SqT.of upd_same, by omega, fun L' _ c2 => ?_⟩
      have pm2 := c2 out
      have keep : ∀ b xs, upd H1 t2 (HO.tup [V.int d.1, V.int d.2]) b = some (.tup xs) → upd (upd H1 t2 (HO.tup [V.int d.1, V.int d.2])) p (PsO P w p L') b = some (.tup xs) := fun b xs e => by
        rw [upd_ne]
        · exact e
        · rintro rfl
          rw [hp2] at e
          exact psO_ne (Option.some.inj e)
      refine nxt L' _ _ _ _ (same_ch ((sm.trans s1).trans s2) np) upd_same (fun q hq => ?_) ?_
      · refine keep _ _ ?_
        rcases List.mem_cons.mp (pm2.mem_iff.mp hq) with e | hq2
        · rw [e]
          exact upd_same
        · exact s2 _ _ (s1 _ _ (tp q hq2))
      · refine (pm2.map (·.2)).trans ?_
        rw [List.map_cons, List.take_add_one, gd, List.map_append]
        exact (List.Perm.cons _ pm).trans (List.perm_append_singleton _ _).symm
    · intro σ H' pv
      rw [hPv] at pv
      obtain ⟨L, v3, v4, v5, rfl, sm, hp, tp, pm⟩ := pv
      rw [hul, List.take_length] at pm
      have shape : ∀ q ∈ L, ∃ d ∈ D, q.2 = two d := fun q hq => by
        obtain ⟨d, hd, e⟩ := List.mem_map.mp (pm.mem_iff.mp (List.mem_map.mpr ⟨q, hq, rfl⟩))
        exact ⟨d, hd, e.symm⟩
      have lenL : L.length = D.length := by
        have e := pm.length_eq
        rw [List.length_map, List.length_map] at e
        exact e
      walk_at "rd"
      refine ⟨p, L, rfl, hp, fun q hq => SqT.of (tp q hq), fun q hq => ?_, by omega, fun L' t p1 n1 w1 nt => ?_⟩
      · obtain ⟨d, _, e⟩ := shape q hq
        exact ⟨d.1, d.2, e⟩
      · have hl' : ∀ q ∈ L', pr2 q.2 ∈ D ∧ H' q.1 = some (.tup [.int (pr2 q.2).1, .int (pr2 q.2).2]) := fun q hq => by
          have hq2 := p1.mem_iff.mp hq
          obtain ⟨d, hd, e⟩ := shape q hq2
          have e2 := tp q hq2
          rw [e] at e2 ⊢
          exact ⟨hd, e2⟩
        have back : ∀ q ∈ L', two (pr2 q.2) = q.2 := fun q hq => by
          obtain ⟨d, hd, e⟩ := shape q (p1.mem_iff.mp hq)
          rw [e]
          rfl
        refine q (L'.map fun q => pr2 q.2) (L'.map fun q => V.ref q.1) t _ (asc_of ?_ ?_) (fun d => ?_) (sm.trans (same_upd nt)) (sm.free nt) upd_same ?_
        · refine List.pairwise_map.mpr (List.Pairwise.imp_of_mem (fun {x y} hx hy hne e => hne ?_) (List.pairwise_map.mp n1))
          rw [← back x hx, ← back y hy, e]
        · exact List.pairwise_map.mpr w1
        · constructor
          · intro hd
            obtain ⟨q, hq, rfl⟩ := List.mem_map.mp hd
            exact (hl' q hq).1
          · intro hd
            have m1 : two d ∈ L.map (·.2) := pm.mem_iff.mpr (List.mem_map.mpr ⟨d, hd, rfl⟩)
            obtain ⟨q, hq, e⟩ := List.mem_map.mp m1
            refine List.mem_map.mpr ⟨q, p1.mem_iff.mpr hq, ?_⟩
            rw [e]
            rfl
        · have all : ∀ M : List (Addr × List Int), (∀ q ∈ M, H' q.1 = some (.tup [.int (pr2 q.2).1, .int (pr2 q.2).2])) → PL H' (M.map fun q => V.ref q.1) (M.map fun q => pr2 q.2) := by
            intro M
            induction M with
            | nil => intro _; exact Paired.nil
            | cons q M ih => intro h; exact Paired.cons ⟨q.1, rfl, h q List.mem_cons_self⟩ (ih fun z hz => h z (List.mem_cons_of_mem _ hz))
          exact (all L' fun q hq => (hl' q hq).2).kt (KT.new nt)
end

/-! ### the house as an object -/
def hf (r : Int) (l m : Addr) : List (Str × V) := putF "_near" (.ref m) (putF "_doors" (.ref l) (putF "rooms" (.int r) []))
theorem hn1 : ¬ (("rooms" : Str) = "_doors") := by decide +kernel
theorem hn2 : ¬ (("rooms" : Str) = "_near") := by decide +kernel
theorem hn3 : ¬ (("_doors" : Str) = "_near") := by decide +kernel
theorem hf_rooms (r : Int) (l m : Addr) : (hf r l m).lookup ("rooms" : Str) = some (.int r) := by
  unfold hf
  rw [lookup_putF, if_neg hn2, lookup_putF, if_neg hn1, lookup_putF, if_pos rfl]
theorem hf_doors (r : Int) (l m : Addr) : (hf r l m).lookup ("_doors" : Str) = some (.ref l) := by
  unfold hf
  rw [lookup_putF, if_neg hn3, lookup_putF, if_pos rfl]
theorem hf_near (r : Int) (l m : Addr) : (hf r l m).lookup ("_near" : Str) = some (.ref m) := by
  unfold hf
  rw [lookup_putF, if_pos rfl]
theorem hf_no (r : Int) (l m : Addr) {x : Str} (h1 : ¬ x = "_near") (h2 : ¬ x = "_doors") (h3 : ¬ x = "rooms") : (hf r l m).lookup x = none := by
  unfold hf
  rw [lookup_putF, if_neg h1, lookup_putF, if_neg h2, lookup_putF, if_neg h3]
  rfl
/-- the neighbours of room i by the doors D, in the order in which they are met -/
def nearF (i : Int) (D : List Pr) : List Int := D.filterMap fun d => if d.1 = i then some d.2 else if d.2 = i then some d.1 else none
/-- a house with these rooms and doors stands at p -/
structure HouseAt (C : Addr) (H : Hp) (p : Addr) (r : Nat) (D : List Pr) (own : List Addr) : Prop where
  ex : ∃ (dx l m : Addr) (ls : List V) (ns : List Addr), H p = some (.ins C dx (hf r l m)) ∧ H l = some (.lst ls) ∧ PL H ls D ∧ H m = some (.lst (ns.map V.ref)) ∧ ns.length = r ∧ (∀ i n, ns[i]? = some n → H n = some (.lst ((nearF (i : Nat) D).map V.int))) ∧ own = p :: l :: m :: ns
  ok : Drs r D
  r1 : 1 ≤ r
  r12 : r ≤ 12
theorem nearF_snoc (j : Int) (D : List Pr) (d : Pr) : nearF j (D ++ [d]) = nearF j D ++ (if d.1 = j then [d.2] else if d.2 = j then [d.1] else []) := by
  unfold nearF
  rw [List.filterMap_append]
  congr 1
  show List.filterMap _ [d] = _
  rw [List.filterMap_cons]
  by_cases h1 : d.1 = j
  · simp [h1]
  · by_cases h2 : d.2 = j
    · simp [h1, h2]
    · simp [h1, h2]
def mm2 (d : Pr) : Pr := (if d.2 < d.1 then d.2 else d.1, if d.2 > d.1 then d.2 else d.1)
section
variable {P : Program} {w : World} {K : PySem.W.Frag} {mg : Str → Option Value} {base : Heap}
theorem scHinit : FnScope ["self", "rooms", "doors", "a", "b", "_"] ["self", "rooms", "doors"] (defScope sHinit) := ⟨rfl, rfl, rfl, by decide +kernel, rfl, by decide +kernel, by decide +kernel⟩
def spHinit (C : Addr) : Sp := fun vs H Q _ => ∃ (p dx l : Addr) (r : Nat) (us : List V) (D E : List Pr), vs = [.ref p, .int r, .ref l] ∧ H p = some (.ins C dx []) ∧ H l = some (.lst us) ∧ PL H us D ∧ D.map mm2 = E ∧ E.Nodup ∧ (∀ d ∈ E, 0 ≤ d.1 ∧ d.1 < d.2 ∧ d.2 < r) ∧ 1 ≤ r ∧ r ≤ 12 ∧
  ∀ D' own H', (∀ d, d ∈ D' ↔ d ∈ E) → HouseAt C H' p r D' own → (∀ b o, H b = some o → b ≠ p → H' b = some o) → (∀ b ∈ own, b ≠ p → H b = none) → Q .non H'
theorem ok_hinit {f C fR fC : Addr} {fd fdR fdC : FuncData} (F : Fun K "__init__" "House.__init__" sHinit f fd) (T : Bi mg) (U : Hs K mg C) (d_check_room_count : Df P w K mg base "check_room_count" ["rooms"] 1 spRoom fR fdR)
    (d_checked_doors : Df P w K mg base "checked_doors" ["rooms", "doors"] 1 spChk fC fdC) : FnOk P w K mg base CX0 2 f fd ["self", "rooms", "doors"] (spHinit C) := by
  refine F.ok scHinit (fun vs H Q E h => ?_) (fun cdv A outer s H vs Q E hr h => ?_)
  · obtain ⟨p, dx, l, r, us, D, E, rfl, _⟩ := h
    rfl
  · obtain ⟨p, dx, l, r, us, D, E, rfl, hp, hl, pl, eE, nd, ok, hr1, hr12, q⟩ := h
    refine ⟨_, (pss_cons (ps_expr (pe_call d_check_room_count.ok (hr.mono (by decide)) (by rfl) d_check_room_count.at_ d_check_room_count.kp d_check_room_count.b .nil pass0 (pa_cons (pv 1) pa_nil)))
      (pss_cons (ps_fld (pv 0) (pv 1) rfl)
      (pss_cons (ps_fld (pv 0) (pe_call d_checked_doors.ok (hr.mono (by decide)) (by rfl) d_checked_doors.at_ d_checked_doors.kp d_checked_doors.b .nil pass0 (pa_cons (pv 1) (pa_cons (pe_lc (own := [("a", 3), ("b", 4)]) (g := gTup K 2 (gCons (gName 3) (gCons (gName 4) gNil))) (by rfl) scHinit.nd (pi_list (pv 2)) (blkOk_by (N := ["self", "rooms", "doors", "a", "b", "_"]) (sc := defScope sHinit) (by decide +kernel)) (fun _ _ _ _ _ => pg_tup rfl (pgs_cons (pg_name (i := 3) scHinit.nd rfl (Or.inl rfl)) (pgs_cons (pg_name (i := 4) scHinit.nd rfl (Or.inl rfl)) pgs_nil))) (fun _ _ _ _ _ => pts_nil) (fun _ _ _ _ _ => (pe_tup (pa_cons (pe_callB (call_min2 rfl) (by rfl) T.min (by decide +kernel) (pa_cons (pv 3) (pa_cons (pv 4) pa_nil))) (pa_cons (pe_callB (call_max2 rfl) (by rfl) T.max (by decide +kernel) (pa_cons (pv 3) (pa_cons (pv 4) pa_nil))) pa_nil))))) pa_nil))) rfl)
      (pss_cons (ps_fld (pv 0) (pe_lc (own := [("_", 5)]) (by rfl) scHinit.nd (pi_range1 (by rfl) T.range (pa_cons (pv 1) pa_nil)) (blkOk_by (N := ["self", "rooms", "doors", "a", "b", "_"]) (sc := defScope sHinit) (by decide +kernel)) (fun _ _ _ _ _ => pg_name (i := 5) scHinit.nd rfl (Or.inl rfl)) (fun _ _ _ _ _ => pts_nil) (fun _ _ _ _ _ => (pe_lst pa_nil))) rfl)
      (pss_one (ps_for PassesOwn.never rfl (pi_list (pe_fld (pv 0) rfl)) (pg_tup rfl (pgs_cons (pg_name (i := 3) scHinit.nd rfl (Or.inl rfl)) (pgs_cons (pg_name (i := 4) scHinit.nd rfl (Or.inl rfl)) pgs_nil)))
      (pss_cons (ps_expr (pe_bm PySem.F.plainAttrs_list PySem.F.slot_list_append PySem.F.type_list_append mt_append (pe_ix ix_list (pe_fld (pv 0) rfl) (pv 3) (fun _ _ => rfl)) (pa_cons (pv 4) pa_nil)))
        (pss_one (ps_expr (pe_bm PySem.F.plainAttrs_list PySem.F.slot_list_append PySem.F.type_list_append mt_append (pe_ix ix_list (pe_fld (pv 0) rfl) (pv 4) (fun _ _ => rfl)) (pa_cons (pv 3) pa_nil))))))))))), ?_⟩
    walk_at "rd"
    refine ⟨r, rfl, by omega, by omega, ?_⟩
    have npl : l ≠ p := ne_of hl hp (by intro z; cases z)
    refine ⟨C, dx, [], hp, U.cl, U.nR, (by show 0 < 1000; decide), ?_⟩
    have hl1 : upd H p (HO.ins C dx (putF "rooms" (V.int r) [])) l = some (.lst us) := by rw [upd_ne npl]; exact hl
    have pl1 : PL (upd H p (HO.ins C dx (putF "rooms" (V.int r) []))) us D := pl.kt (KT.ch hp (fun _ z => by cases z))
    have hp1 : upd H p (HO.ins C dx (putF "rooms" (V.int r) [])) p = some (HO.ins C dx (putF "rooms" (V.int r) [])) := upd_same
    have old1 : ∀ b o, H b = some o → b ≠ p → upd H p (HO.ins C dx (putF "rooms" (V.int r) [])) b = some o := fun b o e h => by rw [upd_ne h]; exact e
    have free1 : ∀ b, upd H p (HO.ins C dx (putF "rooms" (V.int r) [])) b = none → H b = none ∧ b ≠ p := fun b e => by
      have h : b ≠ p := fun z => by
        rw [z, upd_same] at e
        cases e
      rw [upd_ne h] at e
      exact ⟨e, h⟩
    generalize upd H p (HO.ins C dx (putF "rooms" (V.int r) [])) = H1 at hl1 pl1 hp1 old1 free1
    have dlen : D.length ≤ 66 := by
      have e := drs_len' hr12 nd ok
      rw [← eE, List.length_map] at e
      exact e
    have ul : us.length = D.length := pl.len
    -- [(min(a, b), max(a, b)) for a, b in doors]
    refine ⟨_, rfl, l, rfl, ⟨_, SqL.of hl1⟩, fun c nc => ?_⟩
    obtain ⟨Pv, hPv⟩ : ∃ Pv : Nat → Hp → Prop, Pv = (fun i H' => ∃ ws, Same H1 H' ∧ H' c = some (.lst ws) ∧ PL H' ws ((D.take i).map mm2)) := ⟨_, rfl⟩
    refine lc_list (K := K) (a := l) (xs := us) Pv (by rw [hPv]; exact ⟨[], same_upd nc, upd_same, PL.nil0 _⟩) (fun i H' _ pv => by rw [hPv] at pv; obtain ⟨_, sm, _⟩ := pv; exact SqL.of (sm _ _ hl1)) (fun i v H' gv pv => ?_) (fun H' pv => ?_)
    · have nxt : ∀ ws H', Same H1 H' → H' c = some (.lst ws) → PL H' ws ((D.take (i + 1)).map mm2) → Pv (i + 1) H' := fun ws H' h1 h2 h3 => by
        rw [hPv]
        exact ⟨ws, h1, h2, h3⟩
      rw [hPv] at pv
      obtain ⟨ws, sm, hc, pw⟩ := pv
      obtain ⟨d, gd, td, rfl, htd⟩ := pl1.get gv
      have hid : i < D.length := (List.getElem?_eq_some_iff.mp gd).1
      have htd1 := sm _ _ htd
      have lw : ws.length ≤ 66 := by
        rw [pw.len, List.length_map, List.length_take]
        omega
      simp only [wipe]
      walk_at "rd"
      refine ⟨_, SqT.of htd1, rfl, _, _, rfl, _, _, rfl, rfl, ?_⟩
      walk_at "rd"
      refine ⟨(by show 2 ≤ sizeLine; decide), fun t nt => ?_⟩
      have nct : c ≠ t := ne_of_none hc nt
      refine ⟨ws, by rw [upd_ne nct]; exact hc, len_big (by omega), nxt (ws ++ [.ref t]) _ (same_ch (sm.trans (same_upd nt)) nc) upd_same ?_⟩
      rw [List.take_add_one, gd, List.map_append]
      refine PL.snoc ((pw.kt (KT.new nt)).kt (KT.lst (by rw [upd_ne nct]; exact hc))) ⟨t, rfl, ?_⟩
      rw [upd_ne nct.symm, upd_same]
      rfl
    · rw [hPv] at pv
      obtain ⟨ws, s2, hc, pw⟩ := pv
      rw [ul, List.take_length, eE] at pw
      -- checked_doors
      refine ⟨r, c, ws, E, rfl, hc, pw, nd, ok, hr12, fun D' ls q0 H2 asc mem s3 nq hq pq => ?_⟩
      have s13 : Same H1 H2 := s2.trans s3
      have hp2 := s13 _ _ hp1
      have nqp : q0 ≠ p := ne_of hq hp2 (by intro z; cases z)
      refine ⟨C, dx, _, hp2, U.cl, U.nD, (by show 1 < 1000; decide), ?_⟩
      have hq3 : upd H2 p (HO.ins C dx (putF "_doors" (V.ref q0) (putF "rooms" (V.int r) []))) q0 = some (.lst ls) := by rw [upd_ne nqp]; exact hq
      have hp3 : upd H2 p (HO.ins C dx (putF "_doors" (V.ref q0) (putF "rooms" (V.int r) []))) p = some (HO.ins C dx (putF "_doors" (V.ref q0) (putF "rooms" (V.int r) []))) := upd_same
      have pq3 : PL (upd H2 p (HO.ins C dx (putF "_doors" (V.ref q0) (putF "rooms" (V.int r) [])))) ls D' := pq.kt (KT.ch hp2 (fun _ z => by cases z))
      have old3 : ∀ b o, H b = some o → b ≠ p → upd H2 p (HO.ins C dx (putF "_doors" (V.ref q0) (putF "rooms" (V.int r) []))) b = some o := fun b o e h => by
        rw [upd_ne h]
        exact s13 _ _ (old1 b o e h)
      have free3 : ∀ b, upd H2 p (HO.ins C dx (putF "_doors" (V.ref q0) (putF "rooms" (V.int r) []))) b = none → H b = none ∧ b ≠ p := fun b e => by
        have h : b ≠ p := fun z => by
          rw [z, upd_same] at e
          cases e
        rw [upd_ne h] at e
        exact free1 b (s13.free e)
      have fq : H q0 = none := (free1 q0 (s2.free nq)).1
      generalize upd H2 p (HO.ins C dx (putF "_doors" (V.ref q0) (putF "rooms" (V.int r) []))) = H3 at hq3 hp3 pq3 old3 free3
      -- [[] for _ in range(rooms)]
      refine ⟨_, rfl, r, rfl, by omega, by omega, fun m nm => ?_⟩
      obtain ⟨Pv, hPv⟩ : ∃ Pv : Nat → Hp → Prop, Pv = (fun i H' => ∃ ns : List Addr, Same H3 H' ∧ H' m = some (.lst (ns.map V.ref)) ∧ ns.length = i ∧ ns.Nodup ∧ (∀ n ∈ ns, H' n = some (.lst []) ∧ H3 n = none ∧ n ≠ m)) := ⟨_, rfl⟩
      refine lc_range (lo := 0) (n := ((r : Nat) : Int).toNat) Pv (by rw [hPv]; exact ⟨[], same_upd nm, upd_same, rfl, List.nodup_nil, fun n hn => by cases hn⟩) (fun i H' hi pv => ?_) (fun H' pv => ?_)
      · have nxt : ∀ (ns : List Addr) H', Same H3 H' → H' m = some (.lst (ns.map V.ref)) → ns.length = i + 1 → ns.Nodup → (∀ n ∈ ns, H' n = some (.lst []) ∧ H3 n = none ∧ n ≠ m) → Pv (i + 1) H' := fun ns H' h1 h2 h3 h4 h5 => by
          rw [hPv]
          exact ⟨ns, h1, h2, h3, h4, h5⟩
        rw [hPv] at pv
        obtain ⟨ns, sm, hm, ln, nn, hn⟩ := pv
        simp only [wipe]
        walk_at "rd"
        refine ⟨by decide, fun e ne => ?_⟩
        have nem : m ≠ e := ne_of_none hm ne
        refine ⟨ns.map V.ref, by rw [upd_ne nem]; exact hm, len_big (by rw [List.length_map]; omega), nxt (ns ++ [e]) _ (same_ch (sm.trans (same_upd ne)) nm) (by rw [upd_same, List.map_append]; rfl) (by rw [List.length_append, ln]; rfl) ?_ fun n hn2 => ?_⟩
        · refine List.nodup_append.mpr ⟨nn, by simp, fun a ha b hb => ?_⟩
          rw [List.mem_singleton.mp hb]
          exact ne_of_none (hn a ha).1 ne
        · rcases List.mem_append.mp hn2 with h | h
          · obtain ⟨h1, h2, h3⟩ := hn n h
            refine ⟨?_, h2, h3⟩
            rw [upd_ne h3, upd_ne (ne_of_none h1 ne)]
            exact h1
          · rw [List.mem_singleton.mp h]
            refine ⟨?_, sm.free ne, nem.symm⟩
            rw [upd_ne nem.symm, upd_same]
      · rw [hPv] at pv
        obtain ⟨ns, s4, hm, ln, nn, hn⟩ := pv
        have hp4 := s4 _ _ hp3
        have nmp : m ≠ p := (ne_of_none hp3 nm).symm
        refine ⟨C, dx, _, hp4, U.cl, U.nN, (by show 2 < 1000; decide), ?_⟩
        have ehf : putF "_near" (V.ref m) (putF "_doors" (V.ref q0) (putF "rooms" (V.int r) [])) = hf r q0 m := rfl
        rw [ehf]
        have npn : ∀ n ∈ ns, n ≠ p := fun n h => (ne_of_none hp3 (hn n h).2.1).symm
        have nqn : ∀ n ∈ ns, n ≠ q0 := fun n h => (ne_of_none hq3 (hn n h).2.1).symm
        have hp5 : upd H' p (HO.ins C dx (hf r q0 m)) p = some (HO.ins C dx (hf r q0 m)) := upd_same
        have hq5 : upd H' p (HO.ins C dx (hf r q0 m)) q0 = some (.lst ls) := by rw [upd_ne nqp]; exact s4 _ _ hq3
        have hm5 : upd H' p (HO.ins C dx (hf r q0 m)) m = some (.lst (ns.map V.ref)) := by rw [upd_ne nmp]; exact hm
        have hn5 : ∀ n ∈ ns, upd H' p (HO.ins C dx (hf r q0 m)) n = some (.lst []) := fun n h => by rw [upd_ne (npn n h)]; exact (hn n h).1
        have pq5 : PL (upd H' p (HO.ins C dx (hf r q0 m))) ls D' := (pq3.kt (KT.same s4)).kt (KT.ch hp4 (fun _ z => by cases z))
        have old5 : ∀ b o, H b = some o → b ≠ p → upd H' p (HO.ins C dx (hf r q0 m)) b = some o := fun b o e h => by
          rw [upd_ne h]
          exact s4 _ _ (old3 b o e h)
        have fm : H m = none := (free3 m nm).1
        have fn : ∀ n ∈ ns, H n = none := fun n h => (free3 n (hn n h).2.1).1
        have nmn : ∀ n ∈ ns, n ≠ m := fun n h => (hn n h).2.2
        generalize upd H' p (HO.ins C dx (hf r q0 m)) = H5 at hp5 hq5 hm5 hn5 pq5 old5
        have drs : Drs r D' := ⟨asc, fun d hd => ok d ((mem d).mp hd)⟩
        have dl : D'.length ≤ 66 := drs.len hr12
        have ll : ls.length = D'.length := pq.len
        -- the rooms' neighbours
        obtain ⟨Pw, hPw⟩ : ∃ Pw : Nat → L2.St → Hp → Prop, Pw = (fun i σ H' => ∃ v3 v4 : Option V, σ = [some (.ref p), some (.int r), some (.ref l), v3, v4, none] ∧ (∀ b o, H5 b = some o → b ∉ ns → H' b = some o) ∧ (∀ (j : Nat) n, ns[j]? = some n → H' n = some (.lst ((nearF (j : Nat) (D'.take i)).map V.int)))) := ⟨_, rfl⟩
        refine ⟨_, rfl, p, C, dx, _, .ref q0, rfl, hp5, U.cl, U.nD, hf_doors _ _ _, q0, rfl, ⟨_, SqL.of hq5⟩, for_list (K := K) (a := q0) (xs := ls) Pw (by rw [hPw]; exact ⟨none, none, rfl, fun b o e _ => e, fun j n g => hn5 n (List.mem_of_getElem? g)⟩) (fun i σ H' _ pv => ?_) (fun i v σ H' gv pv => ?_) (fun σ H' pv => ?_)⟩
        · rw [hPw] at pv
          obtain ⟨_, _, _, k1, _⟩ := pv
          exact SqL.of (k1 _ _ hq5 fun z => nqn _ z rfl)
        · have nxt : ∀ v3 v4 H', (∀ b o, H5 b = some o → b ∉ ns → H' b = some o) → (∀ (j : Nat) n, ns[j]? = some n → H' n = some (.lst ((nearF (j : Nat) (D'.take (i + 1))).map V.int))) → Pw (i + 1) [some (.ref p), some (.int r), some (.ref l), v3, v4, none] H' := fun v3 v4 H' h1 h2 => by
            rw [hPw]
            exact ⟨v3, v4, rfl, h1, h2⟩
          rw [hPw] at pv
          obtain ⟨v3, v4, rfl, k1, k2⟩ := pv
          obtain ⟨d, gd, td, rfl, htd⟩ := pq5.get gv
          have okd := drs.ok d (List.mem_of_getElem? gd)
          have htd1 : H' td = some (.tup [.int d.1, .int d.2]) := k1 _ _ htd fun z => by
            have e := hn5 td z
            rw [htd] at e
            cases e
          obtain ⟨ja, eja⟩ : ∃ ja : Nat, d.1 = ja := ⟨d.1.toNat, by omega⟩
          obtain ⟨jb, ejb⟩ : ∃ jb : Nat, d.2 = jb := ⟨d.2.toNat, by omega⟩
          obtain ⟨na, gna⟩ : ∃ n, ns[ja]? = some n := ⟨_, List.getElem?_eq_getElem (by omega)⟩
          obtain ⟨nb, gnb⟩ : ∃ n, ns[jb]? = some n := ⟨_, List.getElem?_eq_getElem (by omega)⟩
          have nab : na ≠ nb := fun z => by
            rw [← z] at gnb
            have := nd_ix nn gna gnb
            omega
          have mna := List.mem_of_getElem? gna
          have mnb := List.mem_of_getElem? gnb
          have hp6 := k1 _ _ hp5 fun z => npn _ z rfl
          have hm6 := k1 _ _ hm5 fun z => nmn _ z rfl
          have short : ∀ j : Int, (nearF j (D'.take i)).length ≤ 66 := fun j => by
            have := List.length_filterMap_le (fun d : Pr => if d.1 = j then some d.2 else if d.2 = j then some d.1 else none) (D'.take i)
            rw [List.length_take] at this
            show (List.filterMap _ _).length ≤ 66
            omega
          have ga := k2 ja na gna
          have gb := k2 jb nb gnb
          walk_at "rd"
          refine ⟨_, SqT.of htd1, rfl, _, _, rfl, _, _, rfl, rfl, ?_⟩
          walk_at "rd"
          have npa : p ≠ na := fun z => npn na mna z.symm
          have nma : m ≠ na := fun z => nmn na mna z.symm
          have big : ∀ j : Int, ((nearF j (D'.take i)).map V.int).length < sizeLine := fun j => len_big (by rw [List.length_map]; have := short j; omega)
          refine ⟨C, dx, _, hp6, U.cl, U.nN, .ref m, hf_near _ _ _, m, rfl, _, SqL.of hm6, .ref na, at_of (j := ja) eja (by rw [List.getElem?_map, gna]; rfl), .inl ⟨rfl, _, SqL.of ga⟩, na, rfl, _, ga, big _, ?_⟩
          refine ⟨C, dx, _, by rw [upd_ne npa]; exact hp6, U.cl, U.nN, .ref m, hf_near _ _ _, m, rfl, _, SqL.of (by rw [upd_ne nma]; exact hm6), .ref nb, at_of (j := jb) ejb (by rw [List.getElem?_map, gnb]; rfl), ?_⟩
          have gb2 : upd H' na (HO.lst ((nearF (ja : Nat) (D'.take i)).map V.int ++ [V.int d.2])) nb = some (.lst ((nearF (jb : Nat) (D'.take i)).map V.int)) := by rw [upd_ne nab.symm]; exact gb
          refine ⟨.inl ⟨rfl, _, SqL.of gb2⟩, nb, rfl, _, gb2, big _, ?_⟩
          refine nxt _ _ _ (fun b o e h => ?_) (fun j n gn => ?_)
          · rw [upd_ne (show b ≠ nb from fun z => h (by rw [z]; exact mnb)), upd_ne (show b ≠ na from fun z => h (by rw [z]; exact mna))]
            exact k1 b o e h
          · rw [List.take_add_one, gd]
            show _ = some (HO.lst ((nearF (j : Nat) (D'.take i ++ [d])).map V.int))
            rw [nearF_snoc]
            by_cases e1 : n = nb
            · subst e1
              have ej := nd_ix nn gn gnb
              subst ej
              rw [upd_same, if_neg (by omega), if_pos ejb, List.map_append, eja]
              rfl
            · rw [upd_ne e1]
              by_cases e2 : n = na
              · subst e2
                have ej := nd_ix nn gn gna
                subst ej
                rw [upd_same, if_pos eja, List.map_append]
                rfl
              · have j1 : ¬ d.1 = (j : Int) := fun z => e2 (by
                  have ej : j = ja := by omega
                  rw [ej, gna] at gn
                  exact (Option.some.inj gn).symm)
                have j2 : ¬ d.2 = (j : Int) := fun z => e1 (by
                  have ej : j = jb := by omega
                  rw [ej, gnb] at gn
                  exact (Option.some.inj gn).symm)
                rw [upd_ne e2, if_neg j1, if_neg j2, List.append_nil]
                exact k2 j n gn
        · rw [hPw] at pv
          obtain ⟨v3, v4, rfl, k1, k2⟩ := pv
          rw [ll, List.take_length] at k2
          refine q D' (p :: q0 :: m :: ns) H' mem ⟨⟨dx, q0, m, ls, ns, k1 _ _ hp5 fun z => npn _ z rfl, k1 _ _ hq5 fun z => nqn _ z rfl, ?_, k1 _ _ hm5 fun z => nmn _ z rfl, by omega, k2, rfl⟩, drs, hr1, hr12⟩ (fun b o e h => ?_) fun b hb h => ?_
          · refine Paired.mapP pq5 fun v d ⟨t, e, ht⟩ => ⟨t, e, k1 _ _ ht fun z => ?_⟩
            have e2 := hn5 t z
            rw [ht] at e2
            cases e2
          · refine k1 _ _ (old5 b o e h) fun z => ?_
            rw [fn b z] at e
            cases e
          · rcases List.mem_cons.mp hb with z | hb
            · exact absurd z h
            · rcases List.mem_cons.mp hb with z | hb
              · rw [z]; exact fq
              · rcases List.mem_cons.mp hb with z | hb
                · rw [z]; exact fm
                · exact fn b hb
end

theorem HouseAt.keep {C : Addr} {H H' : Hp} {p : Addr} {r : Nat} {D : List Pr} {own : List Addr} (h : HouseAt C H p r D own) (k : ∀ b o, b ∈ own → H b = some o → H' b = some o) (kt : KT H H') : HouseAt C H' p r D own := by
  obtain ⟨dx, l, m, ls, ns, h1, h2, h3, h4, h5, h6, rfl⟩ := h.ex
  refine ⟨⟨dx, l, m, ls, ns, k _ _ List.mem_cons_self h1, k _ _ (by simp) h2, h3.kt kt, k _ _ (by simp) h4, h5, fun i n g => k _ _ (by have := List.mem_of_getElem? g; simp [this]) (h6 i n g), rfl⟩, h.ok, h.r1, h.r12⟩
theorem HouseAt.same {C : Addr} {H H' : Hp} {p : Addr} {r : Nat} {D : List Pr} {own : List Addr} (h : HouseAt C H p r D own) (s : Same H H') : HouseAt C H' p r D own := h.keep (fun b o _ e => s b o e) (KT.same s)
theorem HouseAt.stands {C : Addr} {H : Hp} {p : Addr} {r : Nat} {D : List Pr} {own : List Addr} (h : HouseAt C H p r D own) : ∀ b ∈ own, ∃ o, H b = some o := by
  obtain ⟨dx, l, m, ls, ns, h1, h2, h3, h4, h5, h6, rfl⟩ := h.ex
  intro b hb
  rcases List.mem_cons.mp hb with z | hb
  · exact ⟨_, by rw [z]; exact h1⟩
  · rcases List.mem_cons.mp hb with z | hb
    · exact ⟨_, by rw [z]; exact h2⟩
    · rcases List.mem_cons.mp hb with z | hb
      · exact ⟨_, by rw [z]; exact h4⟩
      · obtain ⟨i, g⟩ := List.getElem?_of_mem hb
        exact ⟨_, h6 i b g⟩
section
variable {P : Program} {w : World} {K : PySem.W.Frag} {mg : Str → Option Value} {base : Heap}
theorem scHdoors : FnScope ["self"] ["self"] (defScope sHdoors) := ⟨rfl, rfl, rfl, by decide +kernel, rfl, by decide +kernel, by decide +kernel⟩
def spHdoors (C : Addr) : Sp := fun vs H Q _ => ∃ (p : Addr) (r : Nat) (D : List Pr) (own : List Addr), vs = [.ref p] ∧ HouseAt C H p r D own ∧ ∀ ls q, PL H ls D → H q = none → Q (.ref q) (upd H q (.lst ls))
theorem ok_hdoors {f C : Addr} {fd : FuncData} (F : Fun K "doors" "House.doors" sHdoors f fd) (T : Bi mg) (U : Hs K mg C) : FnOk P w K mg base CX0 1 f fd ["self"] (spHdoors C) := by
  refine F.ok scHdoors (fun vs H Q E h => ?_) (fun cdv A outer s H vs Q E hr h => ?_)
  · obtain ⟨p, r, D, own, rfl, _⟩ := h
    rfl
  · obtain ⟨p, r, D, own, rfl, hh, q⟩ := h
    obtain ⟨dx, l, m, ls, ns, h1, h2, h3, h4, h5, h6, rfl⟩ := hh.ex
    refine ⟨_, (pss_one (ps_ret (pe_callTy call_list_of (by rfl) T.list (by decide +kernel) (pa_cons (pe_fld (pv 0) rfl) pa_nil)))), ?_⟩
    walk_at "rd"
    exact ⟨C, dx, _, h1, U.cl, U.nD, .ref l, hf_doors _ _ _, l, rfl, _, .inl (SqL.of h2), fun t nt => q ls t h3 nt⟩
theorem scHnear : FnScope ["self", "room"] ["self", "room"] (defScope sHnear) := ⟨rfl, rfl, rfl, by decide +kernel, rfl, by decide +kernel, by decide +kernel⟩
def spHnear (C : Addr) : Sp := fun vs H Q _ => ∃ (p : Addr) (r : Nat) (D : List Pr) (own : List Addr) (i : Nat), vs = [.ref p, .int i] ∧ HouseAt C H p r D own ∧ i < r ∧ ∀ q, H q = none → Q (.ref q) (upd H q (.lst ((nearF (i : Nat) D).map V.int)))
theorem ok_hnear {f C : Addr} {fd : FuncData} (F : Fun K "neighbours" "House.neighbours" sHnear f fd) (T : Bi mg) (U : Hs K mg C) : FnOk P w K mg base CX0 1 f fd ["self", "room"] (spHnear C) := by
  refine F.ok scHnear (fun vs H Q E h => ?_) (fun cdv A outer s H vs Q E hr h => ?_)
  · obtain ⟨p, r, D, own, i, rfl, _⟩ := h
    rfl
  · obtain ⟨p, r, D, own, i, rfl, hh, hi, q⟩ := h
    obtain ⟨dx, l, m, ls, ns, h1, h2, h3, h4, h5, h6, rfl⟩ := hh.ex
    obtain ⟨n, gn⟩ : ∃ n, ns[i]? = some n := ⟨_, List.getElem?_eq_getElem (by omega)⟩
    refine ⟨_, (pss_one (ps_ret (pe_callTy call_list_of (by rfl) T.list (by decide +kernel) (pa_cons (pe_ix ix_list (pe_fld (pv 0) rfl) (pv 1) (fun _ _ => rfl)) pa_nil)))), ?_⟩
    walk_at "rd"
    refine ⟨C, dx, _, h1, U.cl, U.nN, .ref m, hf_near _ _ _, m, rfl, _, SqL.of h4, .ref n, atI_nat (by rw [List.getElem?_map, gn]; rfl), n, rfl, _, .inl (SqL.of (h6 i n gn)), fun t nt => q t nt⟩
end

/-! ### a bound method as a value, and its call -/
def tBnd (C : Addr) (m : Str) (g : Addr) (ta : TE) : TE := fun σ H Q => ta σ H fun x H1 => ∃ a dx fs, x = .ref a ∧ H1 a = some (.ins C dx fs) ∧ fs.lookup m = none ∧ ∀ q, H1 q = none → Q (.ref q) (upd H1 q (.met g a))
theorem pe_bnd {X : Cx} {C g : Addr} {m : Str} {e : Expr} {ta : TE} {pos : Pos} (he : PE X e ta) (c : Cls X.K C) (k : BMeth X.K C m g) (hb : attributeBase e m X.env (eval e X.env) = eval e X.env := by rfl) : PE X (.Attribute e m pos) (tBnd C m g ta) := by
  refine ⟨fun pins s σ H Q I h => ?_⟩
  refine attr_of hb (thn (he.run pins s σ H _ I h) fun u s1 ⟨x, H1, I1, rx, a, dx, fs, ex, ea, l, q⟩ => ?_)
  subst ex
  obtain rfl : u = Value.ref a := rx
  exact getbound_ok I1 ea c k l fun p s2 hp I2 => ⟨.ref p, _, I2, rfl, q p hp⟩
/-- f(e, ..), the i-th slot a bound method of the def at g -/
def tCallM (i : Nat) (g : Addr) (sp : Sp) (E : XK) (t : TA) : TE := fun σ H Q => ∃ q a, σ[i]? = some (some (.ref q)) ∧ t σ H fun vs H1 => H1 q = some (.met g a) ∧ sp (.ref a :: vs) H1 Q E
theorem pe_callM {X : Cx} {CX : CXT} {k i : Nat} {g : Addr} {sp : Sp} {E : XK} {x : Str} {p pos : Pos} {e : Expr} {es : List Expr} {t : TA} (F : FnR X.prog X.w X.K X.mg X.base CX k g sp) (hr : Room k X.A) (hN : X.N[i]? = some x) (hv : L2.Vis X.env.scope x) (hf : PySem.W.fnIn X.K g = true) (hx : Passes CX X E) (ha : PA X (e :: es) t)
    (hdb : (x == ("__debug__" : Str)) = false := by decide) (hcd : (x == ("__classdict__" : Str)) = false := by decide)
    (he : starEach (e :: es) X.env = (false, eval e X.env) :: starEach es X.env := by rfl) (hpl : (backTo pos (starEach es X.env)).any (·.1) = false := by rfl) : PE X (.Call (.Name x p) (e :: es) [] pos) (tCallM i g sp E t) := by
  refine ⟨fun pins s σ H Q I h => ?_⟩
  obtain ⟨q, a, hs, ht⟩ := h
  refine wpAny_Call_Name_kw (thn ((pe_var (pos := p) hN hv hdb hcd).run pins s σ H (fun v H1 => v = .ref q ∧ H1 = H) I ⟨.ref q, hs, rfl, rfl⟩) fun u s1 ⟨v, H1, I1, r1, q1⟩ => ?_)
  obtain ⟨rfl, rfl⟩ := q1
  cases r1
  have h2 : wpAny (model X.prog X.w) X.A (spliced (backTo pos (starEach (e :: es) X.env))) (fun us s2 => PySem.W.MethP X.K q g (.ref a) s2.heap ∧ wpAny (model X.prog X.w) X.A (call (.ref q) ([] ++ us)) (EP X pins σ Q) X.xe s2) X.xe s1 :=
    thn (ha.run pos pins s1 σ _ _ I1 ht) fun us s2 ⟨vs, H2, I2, r, hm, hsp⟩ => ⟨met_P I2 hm, wpAny_call (call_met I2 hm (run_fnR (us := Value.ref a :: us) (vs := V.ref a :: vs) F hr hx I2 (.cons rfl r) hsp))⟩
  rw [he] at h2 ⊢
  exact PySem.W.callWith_of (P := PySem.W.MethP X.K q g (.ref a)) (by show ((false || (backTo pos (starEach es X.env)).any (·.1)) || false) = false; rw [hpl]; rfl) (PySem.W.keeps_M hf) (PySem.Calls.evalArgs_plain h2)

/-! ### sorted of a tuple of ints -/
def rSortTup (K : PySem.W.Frag) : List V → Hp → VK → Prop := fun vs H Q => ∃ (a : Addr) (ns : List Int), vs = [V.ref a] ∧ (SqL K H a (ns.map V.int) ∨ SqT K H a (ns.map V.int)) ∧ ns.length < 64 ∧
  ∀ (ns' : List Int) (p : Addr), ns'.Perm ns → ns'.Pairwise (· ≤ ·) → H p = none → Q (.ref p) (upd H p (.lst (ns'.map V.int)))
theorem cr_sortTup {X : Cx} : CallR X (.builtin "sorted") (rSortTup X.K) := by
  intro pins s σ H vs us Q I r h
  obtain ⟨a, ns, rfl, hs, h64, q⟩ := h
  rcases hs with hs | hs
  · exact cr_sorted pins s σ H _ us Q I r ⟨a, ns, rfl, hs, h64, q⟩
  obtain ⟨its, rv, ⟨o, ho, hc, n, hd⟩, hz⟩ := I.tuple hs
  rw [Vals.ref1 r]
  have hi := rv.ints
  have il : its.length = ns.length := hi.length
  refine Calls.call_function_entry kind_sorted plain_sorted entry_sorted (args_sorted1 _) ?_
  unfold Builtin.«sorted»
  refine wpAny_bind (m := checkCount "sorted" 1 1 _) (wpAny_pure ?_)
  refine wpAny_bind (wpAny_collect_seq a (.inr rfl) ho hc hd (fun h' hk => ?_) (by rw [List.size_toArray, il]; exact small64 h64))
  rw [show its.toArray.toList = its by simp]
  have I1 : Inv X pins σ H { s with heap := h' } := I.kept (t' := s.toks) hk
  refine wpAny_bind (wpAny_newList ?_ (by rw [il]; exact small64 h64))
  have new : (h'.push (seqObj "list" its.toArray 0)).get? h'.objs.size = some (seqObj "list" its.toArray 0) := Heap.get?_push_size _ rfl
  refine wpAny_bind (wpAny_holding (wpAny_call_entry slot_list_sort ⟨_, new, rfl⟩ entry_list_sort (list_sort_tree (s := { s with heap := h'.push (seqObj "list" its.toArray 0) }) new hi (by rw [il]; exact h64) fun out ns' a1 a2 a3 => ⟨_, rfl, ?_⟩) (args_list_sort _)))
  obtain ⟨ep, he⟩ := sortedHeap_at (vs := its) (out := out) new
  have hlen : (ns'.map V.int).length ≤ sizeLine := by rw [List.length_map, a2.length_eq]; exact small64 h64
  refine wpAny_pure ⟨_, rfl, .ref h'.objs.size, upd H h'.objs.size (.lst (ns'.map V.int)), I1.laid (t' := s.toks) (fun b u e => ?_) (Nat.le_refl _) ⟨hlen, out.toList, ep, vals_of_ints a1, he⟩, rfl, q ns' _ a2 a3 (I1.hok.fresh (Nat.le_refl _))⟩
  have lt := Heap.lt_size e
  show (sortedHeap (h'.push (seqObj "list" its.toArray 0)) h'.objs.size its out).get? b = some u
  rw [sortedHeap_old (Nat.ne_of_lt lt) (by rw [size_push']; exact Nat.lt_succ_of_lt lt)]
  exact Heap.get?_push_of_some _ e

/-! ### pieces of a house -/
def Adj (D : List Pr) (a b : Int) : Prop := (a, b) ∈ D ∨ (b, a) ∈ D
theorem mem_nearF {D : List Pr} {a b : Int} (ok : ∀ d ∈ D, d.1 < d.2) : b ∈ nearF a D ↔ Adj D a b := by
  unfold nearF Adj
  rw [List.mem_filterMap]
  constructor
  · rintro ⟨d, hd, e⟩
    by_cases h1 : d.1 = a
    · rw [if_pos h1] at e
      have e := Option.some.inj e
      subst h1
      subst e
      exact .inl hd
    · rw [if_neg h1] at e
      by_cases h2 : d.2 = a
      · rw [if_pos h2] at e
        have e := Option.some.inj e
        subst h2
        subst e
        exact .inr hd
      · rw [if_neg h2] at e
        cases e
  · rintro (h | h)
    · exact ⟨_, h, if_pos rfl⟩
    · have := ok _ h
      refine ⟨_, h, ?_⟩
      rw [if_neg (by simp only at this ⊢; omega), if_pos rfl]
inductive Rch (D : List Pr) (R : List Int) (s : Int) : Int → Prop
  | base : s ∈ R → Rch D R s s
  | step {a b : Int} : Rch D R s a → Adj D a b → b ∈ R → Rch D R s b
theorem Rch.mem {D : List Pr} {R : List Int} {s x : Int} (h : Rch D R s x) : x ∈ R := by
  cases h with
  | base h => exact h
  | step _ _ h => exact h
theorem Rch.start {D : List Pr} {R : List Int} {s x : Int} (h : Rch D R s x) : s ∈ R := by
  induction h with
  | base h => exact h
  | step _ _ _ ih => exact ih
theorem Rch.trans {D : List Pr} {R : List Int} {s x y : Int} (h : Rch D R s x) (k : Rch D R x y) : Rch D R s y := by
  induction k with
  | base _ => exact h
  | step _ a b ih => exact ih.step a b
theorem Rch.symm {D : List Pr} {R : List Int} {s x : Int} (h : Rch D R s x) : Rch D R x s := by
  induction h with
  | base h => exact .base h
  | step k a b ih => exact Rch.trans (.step (.base b) a.symm k.mem) ih
theorem Rch.mono {D : List Pr} {R R' : List Int} {s x : Int} (h : Rch D R s x) (m : ∀ x, x ∈ R → x ∈ R') : Rch D R' s x := by
  induction h with
  | base h => exact .base (m _ h)
  | step _ a b ih => exact ih.step a (m _ b)
theorem pw_uniq {α : Type} {r : α → α → Prop} (asy : ∀ a b, r a b → r b a → False) : ∀ {D E : List α}, D.Pairwise r → E.Pairwise r → (∀ p, p ∈ D ↔ p ∈ E) → D = E
  | [], [], _, _, _ => rfl
  | [], q :: E, _, _, h => by
    have := (h q).mpr List.mem_cons_self
    cases this
  | p :: D, [], _, _, h => by
    have := (h p).mp List.mem_cons_self
    cases this
  | p :: D, q :: E, hD, hE, h => by
    obtain ⟨a1, a2⟩ := List.pairwise_cons.mp hD
    obtain ⟨b1, b2⟩ := List.pairwise_cons.mp hE
    have e : p = q := by
      rcases List.mem_cons.mp ((h p).mp List.mem_cons_self) with e | hp
      · exact e
      · rcases List.mem_cons.mp ((h q).mpr List.mem_cons_self) with e | hq
        · exact e.symm
        · exact (asy _ _ (b1 p hp) (a1 q hq)).elim
    subst e
    rw [pw_uniq asy a2 b2 fun z => ?_]
    constructor
    · intro hz
      rcases List.mem_cons.mp ((h z).mp (List.mem_cons_of_mem _ hz)) with e | m
      · subst e
        exact (asy _ _ (a1 z hz) (a1 z hz)).elim
      · exact m
    · intro hz
      rcases List.mem_cons.mp ((h z).mpr (List.mem_cons_of_mem _ hz)) with e | m
      · subst e
        exact (asy _ _ (b1 z hz) (b1 z hz)).elim
      · exact m
def Up (ys : List Int) : Prop := ys.Pairwise (· < ·)
theorem up_uniq {ys zs : List Int} (h1 : Up ys) (h2 : Up zs) (h : ∀ x, x ∈ ys ↔ x ∈ zs) : ys = zs := pw_uniq (fun a b h1 h2 => by omega) h1 h2 h
def hdI : List Int → Int
  | [] => 0
  | x :: _ => x
theorem hdI_mem {ys : List Int} {x : Int} (h : x ∈ ys) : hdI ys ∈ ys := by
  cases ys with
  | nil => cases h
  | cons y ys => exact List.mem_cons_self
theorem hdI_le {ys : List Int} {x : Int} (u : Up ys) (h : x ∈ ys) : hdI ys ≤ x := by
  cases ys with
  | nil => cases h
  | cons y ys =>
    rcases List.mem_cons.mp h with e | m
    · rw [e]; exact Int.le_refl _
    · exact Int.le_of_lt ((List.pairwise_cons.mp u).1 x m)
/-- the piece of s among the rooms R -/
def Pc (D : List Pr) (R : List Int) (s : Int) (ys : List Int) : Prop := Up ys ∧ ∀ x, x ∈ ys ↔ Rch D R s x
/-- all pieces of the rooms R, by their least rooms -/
structure Pcs (D : List Pr) (R : List Int) (P : List (List Int)) : Prop where
  pc : ∀ ys ∈ P, ∃ s ∈ R, Pc D R s ys
  cov : ∀ s ∈ R, ∃ ys ∈ P, s ∈ ys
  asc : P.Pairwise fun a b => hdI a < hdI b
theorem Pc.of {D : List Pr} {R : List Int} {s t : Int} {ys : List Int} (h : Pc D R s ys) (m : t ∈ ys) : Pc D R t ys :=
  ⟨h.1, fun x => ⟨fun hx => (((h.2 t).mp m).symm).trans ((h.2 x).mp hx), fun hx => (h.2 x).mpr (((h.2 t).mp m).trans hx)⟩⟩
theorem Pc.congr {D : List Pr} {R R' : List Int} {s : Int} {ys : List Int} (h : Pc D R s ys) (e : ∀ x, x ∈ R ↔ x ∈ R') : Pc D R' s ys :=
  ⟨h.1, fun x => (h.2 x).trans ⟨fun z => z.mono fun x => (e x).mp, fun z => z.mono fun x => (e x).mpr⟩⟩
theorem Pc.uniq {D : List Pr} {R : List Int} {s : Int} {ys zs : List Int} (h : Pc D R s ys) (k : Pc D R s zs) : ys = zs := up_uniq h.1 k.1 fun x => (h.2 x).trans (k.2 x).symm
theorem Pc.self {D : List Pr} {R : List Int} {s : Int} {ys : List Int} (h : Pc D R s ys) (m : s ∈ R) : s ∈ ys := (h.2 s).mpr (.base m)
theorem Pcs.sub {D : List Pr} {R R' : List Int} {P P' : List (List Int)} (h : Pcs D R P) (k : Pcs D R' P') (e : ∀ x, x ∈ R ↔ x ∈ R') {ys : List Int} (m : ys ∈ P) : ys ∈ P' := by
  obtain ⟨s, hs, hc⟩ := h.pc ys m
  obtain ⟨zs, hz, sz⟩ := k.cov s ((e s).mp hs)
  obtain ⟨t, ht, hk⟩ := k.pc zs hz
  rw [(hc.congr e).uniq (hk.of sz)]
  exact hz
theorem Pcs.uniq {D : List Pr} {R R' : List Int} {P P' : List (List Int)} (h : Pcs D R P) (k : Pcs D R' P') (e : ∀ x, x ∈ R ↔ x ∈ R') : P = P' :=
  pw_uniq (fun a b h1 h2 => by omega) h.asc k.asc fun ys => ⟨fun m => h.sub k e m, fun m => k.sub h (fun x => (e x).symm) m⟩
theorem Pcs.nil (D : List Pr) : Pcs D [] [] := ⟨fun ys m => (by cases m), fun s m => (by cases m), List.Pairwise.nil⟩
/-- a piece is one piece -/
theorem Pc.one {D : List Pr} {R R' : List Int} {s : Int} {ys : List Int} (h : Pc D R s ys) (m : s ∈ R) (e : ∀ x, x ∈ R' ↔ x ∈ ys) : Pcs D R' [ys] := by
  have key : ∀ x, Rch D R s x → Rch D R' s x := fun x k => by
    induction k with
    | base k => exact .base ((e s).mpr (h.self m))
    | step k a b ih => exact ih.step a ((e _).mpr ((h.2 _).mpr (k.step a b)))
  refine ⟨fun zs hz => ?_, fun t ht => ⟨ys, List.mem_cons_self, (e t).mp ht⟩, List.pairwise_singleton _ _⟩
  rw [List.mem_singleton.mp hz]
  exact ⟨s, (e s).mpr (h.self m), h.1, fun x => ⟨fun hx => key x ((h.2 x).mp hx), fun hx => (e x).mp hx.mem⟩⟩
/-- two pieces are not one -/
theorem Pc.two {D : List Pr} {R R' : List Int} {s t : Int} {ys zs : List Int} {P : List (List Int)} (h : Pc D R s ys) (k : Pc D R t zs) (hs : s ∈ R) (ht : t ∈ R) (ne : ys ≠ zs) (e : ∀ x, x ∈ R' ↔ x ∈ ys ∨ x ∈ zs) (p : Pcs D R' P) : P.length ≠ 1 := by
  intro z
  obtain ⟨c, rfl⟩ : ∃ c, P = [c] := by
    cases P with
    | nil => cases z
    | cons c P =>
      cases P with
      | nil => exact ⟨c, rfl⟩
      | cons d P => exact absurd z (by rw [List.length_cons, List.length_cons]; omega)
  obtain ⟨c1, m1, s1⟩ := p.cov s ((e s).mpr (.inl (h.self hs)))
  obtain ⟨c2, m2, t2⟩ := p.cov t ((e t).mpr (.inr (k.self ht)))
  rw [List.mem_singleton.mp m1] at s1
  rw [List.mem_singleton.mp m2] at t2
  obtain ⟨u, hu, hc⟩ := p.pc c List.mem_cons_self
  have st : Rch D R' s t := (((hc.2 s).mp s1).symm).trans ((hc.2 t).mp t2)
  have st2 : Rch D R s t := st.mono fun x hx => by
    rcases (e x).mp hx with m | m
    · exact ((h.2 x).mp m).mem
    · exact ((k.2 x).mp m).mem
  exact ne ((h.of ((h.2 t).mpr st2)).uniq k)
/-! the program's way -/
structure PInv (D : List Pr) (R : List Int) (P : List (List Int)) (Lf : List Int) : Prop where
  pc : ∀ ys ∈ P, ∃ s ∈ R, Pc D R s ys
  lf : ∀ x, x ∈ Lf ↔ x ∈ R ∧ ∀ ys ∈ P, x ∉ ys
  asc : P.Pairwise fun a b => hdI a < hdI b
  lo : ∀ ys ∈ P, ∀ x ∈ Lf, hdI ys < x
  up : Lf.Pairwise (· ≤ ·)
theorem PInv.start {D : List Pr} {R Lf : List Int} (m : ∀ x, x ∈ Lf ↔ x ∈ R) (u : Lf.Pairwise (· ≤ ·)) : PInv D R [] Lf :=
  ⟨fun ys h => (by cases h), fun x => ⟨fun h => ⟨(m x).mp h, fun ys z => (by cases z)⟩, fun h => (m x).mpr h.1⟩, List.Pairwise.nil, fun ys h => (by cases h), u⟩
theorem PInv.done {D : List Pr} {R : List Int} {P : List (List Int)} (h : PInv D R P []) : Pcs D R P :=
  ⟨h.pc, fun s hs => Classical.byContradiction fun z => List.not_mem_nil ((h.lf s).mpr ⟨hs, fun ys hy m => z ⟨ys, hy, m⟩⟩), h.asc⟩
theorem PInv.rch {D : List Pr} {R : List Int} {P : List (List Int)} {Lf : List Int} (h : PInv D R P Lf) {s x : Int} : Rch D Lf s x ↔ s ∈ Lf ∧ Rch D R s x := by
  constructor
  · exact fun k => ⟨k.start, k.mono fun x hx => ((h.lf x).mp hx).1⟩
  · rintro ⟨m, k⟩
    induction k with
    | base _ => exact .base m
    | step k a b ih =>
      rename_i a' b'
      refine ih.step a ((h.lf _).mpr ⟨b, fun ys hy z => ?_⟩)
      obtain ⟨t, ht, hc⟩ := h.pc ys hy
      exact ((h.lf _).mp ih.mem).2 ys hy ((hc.2 _).mpr (((hc.2 _).mp z).step a.symm k.mem))
theorem PInv.step {D : List Pr} {R : List Int} {P : List (List Int)} {l0 : Int} {Lf ys : List Int} (h : PInv D R P (l0 :: Lf)) (k : Pc D (l0 :: Lf) l0 ys) : PInv D R (P ++ [ys]) ((l0 :: Lf).filter fun x => decide (x ∉ ys)) := by
  have m0 : l0 ∈ l0 :: Lf := List.mem_cons_self
  have r0 := ((h.lf l0).mp m0).1
  have kR : Pc D R l0 ys := ⟨k.1, fun x => (k.2 x).trans (h.rch.trans ⟨fun z => z.2, fun z => ⟨m0, z⟩⟩)⟩
  have hd : hdI ys = l0 := by
    have a1 := hdI_le k.1 (k.self m0)
    have a2 := ((k.2 _).mp (hdI_mem (k.self m0))).mem
    rcases List.mem_cons.mp a2 with e | e
    · exact e
    · have := (List.pairwise_cons.mp h.up).1 _ e
      omega
  refine ⟨fun zs hz => ?_, fun x => ?_, ?_, fun zs hz x hx => ?_, h.up.filter _⟩
  · rcases List.mem_append.mp hz with m | m
    · exact h.pc zs m
    · rw [List.mem_singleton.mp m]
      exact ⟨l0, r0, kR⟩
  · rw [List.mem_filter, h.lf x]
    constructor
    · rintro ⟨⟨h1, h2⟩, h3⟩
      refine ⟨h1, fun zs hz => ?_⟩
      rcases List.mem_append.mp hz with m | m
      · exact h2 zs m
      · rw [List.mem_singleton.mp m]
        exact of_decide_eq_true h3
    · rintro ⟨h1, h2⟩
      exact ⟨⟨h1, fun zs hz => h2 zs (List.mem_append_left _ hz)⟩, decide_eq_true (h2 ys (List.mem_append_right _ List.mem_cons_self))⟩
  · refine List.pairwise_append.mpr ⟨h.asc, List.pairwise_singleton _ _, fun a ha b hb => ?_⟩
    rw [List.mem_singleton.mp hb, hd]
    exact h.lo a ha l0 m0
  · obtain ⟨hx1, hx2⟩ := List.mem_filter.mp hx
    rcases List.mem_append.mp hz with m | m
    · exact h.lo zs m x hx1
    · rw [List.mem_singleton.mp m, hd]
      rcases List.mem_cons.mp hx1 with e | e
      · exact absurd (k.self m0) (by rw [← e]; exact of_decide_eq_true hx2)
      · have := (List.pairwise_cons.mp h.up).1 _ e
        have ne : x ≠ l0 := fun z => of_decide_eq_true hx2 (by rw [z]; exact k.self m0)
        omega
/-! the law's way -/
structure LInv (D : List Pr) (R S : List Int) (j : Nat) (P : List (List Int)) (dn : List Int) : Prop where
  pc : ∀ ys ∈ P, ∃ s ∈ R, Pc D R s ys
  dnm : ∀ x, x ∈ dn ↔ ∃ ys ∈ P, x ∈ ys
  asc : P.Pairwise fun a b => hdI a < hdI b
  seen : ∀ x ∈ S.take j, x ∈ dn
  hds : ∀ ys ∈ P, hdI ys ∈ S.take j
theorem LInv.start (D : List Pr) (R S : List Int) : LInv D R S 0 [] [] :=
  ⟨fun ys h => (by cases h), fun x => ⟨fun h => (by cases h), fun ⟨ys, h, _⟩ => (by cases h)⟩, List.Pairwise.nil, fun x h => (by rw [List.take_zero] at h; cases h), fun ys h => (by cases h)⟩
theorem LInv.skip {D : List Pr} {R S : List Int} {j : Nat} {P : List (List Int)} {dn : List Int} {x : Int} (h : LInv D R S j P dn) (g : S[j]? = some x) (m : x ∈ dn) : LInv D R S (j + 1) P dn := by
  refine ⟨h.pc, h.dnm, h.asc, fun y hy => ?_, fun ys hy => ?_⟩
  · rw [List.take_add_one, g] at hy
    rcases List.mem_append.mp hy with z | z
    · exact h.seen y z
    · rw [show y = x from List.mem_singleton.mp z]
      exact m
  · rw [List.take_add_one]
    exact List.mem_append_left _ (h.hds ys hy)
theorem LInv.step {D : List Pr} {R S : List Int} {j : Nat} {P : List (List Int)} {dn ys : List Int} {x : Int} (h : LInv D R S j P dn) (g : S[j]? = some x) (sm : ∀ x, x ∈ S ↔ x ∈ R) (su : S.Pairwise (· ≤ ·)) (m : x ∉ dn) (k : Pc D R x ys) : LInv D R S (j + 1) (P ++ [ys]) (dn ++ ys) := by
  have xR : x ∈ R := (sm x).mp (List.mem_of_getElem? g)
  have hj : j < S.length := (List.getElem?_eq_some_iff.mp g).1
  have split : S = S.take j ++ x :: S.drop (j + 1) := by
    have e := (List.take_append_drop j S).symm
    rw [List.drop_eq_getElem_cons hj] at e
    rw [List.getElem?_eq_getElem hj] at g
    rw [Option.some.inj g] at e
    exact e
  have su2 := su
  rw [split] at su2
  obtain ⟨_, sb, sc⟩ := List.pairwise_append.mp su2
  have hd : hdI ys = x := by
    have a1 := hdI_le k.1 (k.self xR)
    have a2 := (k.2 _).mp (hdI_mem (k.self xR))
    have a3 := (sm _).mpr a2.mem
    rw [split] at a3
    rcases List.mem_append.mp a3 with e | e
    · obtain ⟨zs, hz, mz⟩ := (h.dnm _).mp (h.seen _ e)
      obtain ⟨t, ht, hc⟩ := h.pc zs hz
      exact absurd ((h.dnm x).mpr ⟨zs, hz, (hc.2 x).mpr (((hc.2 _).mp mz).trans a2.symm)⟩) m
    · rcases List.mem_cons.mp e with e | e
      · exact e
      · have := (List.pairwise_cons.mp sb).1 _ e
        omega
  refine ⟨fun zs hz => ?_, fun y => ?_, ?_, fun y hy => ?_, fun zs hz => ?_⟩
  · rcases List.mem_append.mp hz with q | q
    · exact h.pc zs q
    · rw [List.mem_singleton.mp q]
      exact ⟨x, xR, k⟩
  · rw [List.mem_append, h.dnm y]
    constructor
    · rintro (⟨zs, hz, mz⟩ | z)
      · exact ⟨zs, List.mem_append_left _ hz, mz⟩
      · exact ⟨ys, List.mem_append_right _ List.mem_cons_self, z⟩
    · rintro ⟨zs, hz, mz⟩
      rcases List.mem_append.mp hz with q | q
      · exact .inl ⟨zs, q, mz⟩
      · rw [List.mem_singleton.mp q] at mz
        exact .inr mz
  · refine List.pairwise_append.mpr ⟨h.asc, List.pairwise_singleton _ _, fun a ha b hb => ?_⟩
    rw [List.mem_singleton.mp hb, hd]
    have m1 := h.hds a ha
    have le := sc _ m1 x List.mem_cons_self
    have ne : hdI a ≠ x := fun z => m (by rw [← z]; exact h.seen _ m1)
    omega
  · rw [List.take_add_one, g] at hy
    rcases List.mem_append.mp hy with z | z
    · exact List.mem_append_left _ (h.seen y z)
    · rw [show y = x from List.mem_singleton.mp z]
      exact List.mem_append_right _ (k.self xR)
  · rw [List.take_add_one, g]
    rcases List.mem_append.mp hz with q | q
    · exact List.mem_append_left _ (h.hds zs q)
    · rw [List.mem_singleton.mp q, hd]
      exact List.mem_append_right _ (by simp)
theorem LInv.fin {D : List Pr} {R S : List Int} {P : List (List Int)} {dn : List Int} (h : LInv D R S S.length P dn) (sm : ∀ x, x ∈ S ↔ x ∈ R) : Pcs D R P :=
  ⟨h.pc, fun s hs => (h.dnm s).mp (h.seen s (by rw [List.take_length]; exact (sm s).mpr hs)), h.asc⟩
/-! reaching by rounds -/
structure FInv (D : List Pr) (R : List Int) (s : Int) (F : List Int) : Prop where
  nd : F.Nodup
  rc : ∀ x ∈ F, Rch D R s x
  st : s ∈ R → s ∈ F
def Clo (D : List Pr) (R F : List Int) : Prop := ∀ a ∈ F, ∀ b ∈ R, Adj D a b → b ∈ F
theorem FInv.all {D : List Pr} {R F : List Int} {s : Int} (h : FInv D R s F) (c : Clo D R F) (x : Int) : x ∈ F ↔ Rch D R s x := by
  refine ⟨h.rc x, fun k => ?_⟩
  induction k with
  | base m => exact h.st m
  | step _ a b ih => exact c _ ih _ b a
theorem FInv.add {D : List Pr} {R F : List Int} {s a b : Int} (h : FInv D R s F) (ha : a ∈ F) (hb : b ∈ R) (ab : Adj D a b) (n : b ∉ F) : FInv D R s (F ++ [b]) := by
  refine ⟨?_, fun x hx => ?_, fun m => List.mem_append_left _ (h.st m)⟩
  · refine List.nodup_append.mpr ⟨h.nd, by simp, fun x hx y hy z => ?_⟩
    rw [List.mem_singleton.mp hy] at z
    exact n (by rw [← z]; exact hx)
  · rcases List.mem_append.mp hx with z | z
    · exact h.rc x z
    · rw [List.mem_singleton.mp z]
      exact (h.rc a ha).step ab hb

abbrev sFp : Stmt := topS 19
abbrev sRea : Stmt := topS 17
abbrev sPcs : Stmt := topS 16
theorem u1 {u : Nat} (h : u + 64 < cLine) : u + 1 < cLine := by omega
theorem ints_len {r : Nat} {l : List Int} (nd : l.Nodup) (h : ∀ x ∈ l, 0 ≤ x ∧ x < r) : l.length ≤ r := by
  have h1 : (l.map Int.toNat).Nodup := by
    refine List.pairwise_map.mpr (List.Pairwise.imp_of_mem (fun {x y} hx hy ne e => ?_) nd)
    have b1 := h x hx
    have b2 := h y hy
    omega
  have h2 := nat_nodup_len _ (List.range r) h1 fun c hc => by
    obtain ⟨x, hx, rfl⟩ := List.mem_map.mp hc
    have := h x hx
    exact List.mem_range.mpr (by omega)
  rw [List.length_map, List.length_range] at h2
  exact h2
theorem inI (j : Int) (l : List Int) : inV (.int j) (l.map V.int) = decide (j ∈ l) := by
  induction l with
  | nil => rfl
  | cons x l ih =>
    have e : inV (.int j) ((x :: l).map V.int) = (eqV (.int x) (.int j) || inV (.int j) (l.map V.int)) := rfl
    rw [e, ih]
    have e2 : eqV (.int x) (.int j) = decide (x = j) := by
      unfold eqV
      by_cases h : x = j
      · subst h
        simp
      · simp [h]
    rw [e2]
    by_cases h : j = x
    · subst h
      simp
    · have h' : ¬ x = j := fun z => h z.symm
      simp [h, h']
theorem flI (l : List Int) : (l.map V.int).all flatV = true := by
  rw [List.all_eq_true]
  intro v hv
  obtain ⟨x, _, rfl⟩ := List.mem_map.mp hv
  rfl
theorem same_sqT {K : PySem.W.Frag} {H H' : Hp} {a : Addr} {xs : List V} (e : Same H H') (h : SqT K H a xs) : SqT K H' a xs := by
  rcases h with (h | ⟨o, h⟩) | h
  · exact .inl (.inl (e _ _ h))
  · exact .inl (.inr ⟨o, e _ _ h⟩)
  · exact .inr h
/-- what the dict of first_paths holds: keys, and tuples that are not too long -/
structure Dk (H : Hp) (d : Addr) (kvs : List (Key × V)) (ks : List Int) : Prop where
  at_ : H d = some (.dK kvs)
  ke : kvs.map (·.1) = ks.map Sum.inl
  vl : ∀ kv ∈ kvs, ∃ t xs, kv.2 = V.ref t ∧ H t = some (.tup xs) ∧ (xs.length ≤ kvs.length ∧ xs ≠ [])
theorem Dk.len {H : Hp} {d : Addr} {kvs : List (Key × V)} {ks : List Int} (h : Dk H d kvs ks) : kvs.length = ks.length := by
  have := congrArg List.length h.ke
  rw [List.length_map, List.length_map] at this
  exact this
theorem Dk.mem {H : Hp} {d : Addr} {kvs : List (Key × V)} {ks : List Int} (h : Dk H d kvs ks) (x : Int) : (valV kvs (Sum.inl x : Key)).isSome = true ↔ x ∈ ks := by
  constructor
  · intro e
    obtain ⟨v, e⟩ := Option.isSome_iff_exists.mp e
    have m := valV_in e
    rw [h.ke] at m
    obtain ⟨y, hy, e2⟩ := List.mem_map.mp m
    rw [← Sum.inl.inj e2]
    exact hy
  · intro m
    cases e : valV kvs (Sum.inl x : Key) with
    | some v => rfl
    | none =>
      have n := valV_not e
      rw [h.ke] at n
      exact absurd (List.mem_map.mpr ⟨x, m, rfl⟩) n
theorem Dk.same {H H' : Hp} {d : Addr} {kvs : List (Key × V)} {ks : List Int} (h : Dk H d kvs ks) (s : Same H H') : Dk H' d kvs ks := ⟨s _ _ h.at_, h.ke, fun kv hkv => by
  obtain ⟨t, xs, e1, e2, e3⟩ := h.vl kv hkv
  exact ⟨t, xs, e1, s _ _ e2, e3⟩⟩
theorem Dk.ch {H : Hp} {d wt : Addr} {us vs : List V} {kvs : List (Key × V)} {ks : List Int} (h : Dk H d kvs ks) (ne : d ≠ wt) (hw : H wt = some (.lst us)) : Dk (upd H wt (.lst vs)) d kvs ks := ⟨by rw [upd_ne ne]; exact h.at_, h.ke, fun kv hkv => by
  obtain ⟨t, xs, e1, e2, e3⟩ := h.vl kv hkv
  exact ⟨t, xs, e1, by rw [upd_ne (ne_of e2 hw (by intro z; cases z))]; exact e2, e3⟩⟩
theorem Dk.put {H : Hp} {d t : Addr} {b : Int} {xs : List V} {kvs : List (Key × V)} {ks : List Int} (h : Dk H d kvs ks) (n : valV kvs (Sum.inl b : Key) = none) (ht : H t = some (.tup xs)) (hx : xs.length ≤ kvs.length + 1) (hz : xs ≠ []) : Dk (upd H d (.dK (putK kvs (Sum.inl b) (.ref t)))) d (putK kvs (Sum.inl b) (.ref t)) (ks ++ [b]) := by
  have e := putK_new (V.ref t) n
  refine ⟨upd_same, by rw [e, List.map_append, List.map_append, h.ke]; rfl, fun kv hkv => ?_⟩
  rw [e] at hkv ⊢
  rcases List.mem_append.mp hkv with m | m
  · obtain ⟨u, ys, e1, e2, e3⟩ := h.vl kv m
    exact ⟨u, ys, e1, by rw [upd_ne (ne_of e2 h.at_ (by intro z; cases z))]; exact e2, by rw [List.length_append]; exact ⟨by omega, e3.2⟩⟩
  · rw [List.mem_singleton.mp m]
    exact ⟨t, xs, rfl, by rw [upd_ne (ne_of ht h.at_ (by intro z; cases z))]; exact ht, by rw [List.length_append]; exact ⟨hx, hz⟩⟩
theorem valV_mem {kvs : List (Key × V)} {k : Key} {v : V} (e : valV kvs k = some v) : ∃ kv ∈ kvs, kv.2 = v := by
  induction kvs with
  | nil => rw [valV_nil] at e; cases e
  | cons p r ih =>
    by_cases c : p.1 = k
    · rw [valV_pos c] at e
      exact ⟨p, List.mem_cons_self, Option.some.inj e⟩
    · rw [valV_neg c] at e
      obtain ⟨kv, m, e⟩ := ih e
      exact ⟨kv, List.mem_cons_of_mem _ m, e⟩
theorem for_iterW {wi : TI} {g : TG} {tb : TS} {D : Ends} {σ : L2.St} {H : Hp} (h : wi σ H fun J H1 => tFor (fun _ H R => R J H) g tb D σ H1) : tFor wi g tb D σ H := h
def SeqI (K : PySem.W.Frag) (H : Hp) (o : Addr) (R : List Int) : Prop := SqL K H o (R.map V.int) ∨ SqT K H o (R.map V.int)
section
variable {P : Program} {w : World} {K : PySem.W.Frag} {mg : Str → Option Value} {base : Heap}
theorem scFp : FnScope ["steps", "start", "inside", "paths", "waiting", "room", "other"] ["steps", "start", "inside"] (defScope sFp) := ⟨rfl, rfl, rfl, by decide +kernel, rfl, by decide +kernel, by decide +kernel⟩
def spFp (K : PySem.W.Frag) (C g : Addr) : Sp := fun vs H Q _ => ∃ (q o p : Addr) (s : Int) (R : List Int) (r : Nat) (D : List Pr) (own : List Addr), vs = [.ref q, .int s, .ref o] ∧ H q = some (.met g p) ∧ HouseAt C H p r D own ∧ SeqI K H o R ∧ (∀ x ∈ R, 0 ≤ x ∧ x < r) ∧
  ∀ (d : Addr) (kvs : List (Key × V)) (ks : List Int) (H' : Hp), Same H H' → H d = none → H' d = some (.dK kvs) → kvs.map (·.1) = ks.map Sum.inl → ks.Nodup → (∀ x, x ∈ ks ↔ Rch D R s x) → Q (.ref d) H'
theorem ok_fp {f C g : Addr} {fd fdn : FuncData} (F : Fun K "first_paths" "first_paths" sFp f fd) (T : Bi mg) (U : Hs K mg C) (bm : BMeth K C "neighbours" g) (Gn : FnOk P w K mg base CX0 1 g fdn ["self", "room"] (spHnear C)) (bn : Binds K fdn ["self", "room"] []) : FnOk P w K mg base CX0 2 f fd ["steps", "start", "inside"] (spFp K C g) := by
  refine F.ok scFp (fun vs H Q E h => ?_) (fun cdv A outer s0 H vs Q E hr h => ?_)
  · obtain ⟨q, o, p, s, R, r, D, own, rfl, _⟩ := h
    rfl
  · obtain ⟨q, o, p, s, R, r, D, own, rfl, hq, hh, ho, hR, ret⟩ := h
    refine ⟨_, (pss_cons (ps_set (i := 3) scFp.nd rfl (Or.inl rfl) pe_dnewK)
      (pss_cons (ps_if (pt_cmpR op_in_seq (pv 1) (pv 2) (by rfl))
      (pss_one (ps_dput (u1 hr.units) (pv 3) (pv 1) (pe_tup (pa_cons (pv 1) pa_nil)) rfl))
      pss_nil)
      (pss_cons (ps_set (i := 4) scFp.nd rfl (Or.inl rfl) (pe_callTy (call_listD rfl) (by rfl) T.list (by decide +kernel) (pa_cons (pv 3) pa_nil)))
      (pss_cons (ps_while PassesOwn.never (pt_truth (pv 4) (by intro _; rfl))
      (pss_cons (ps_set (i := 5) scFp.nd rfl (Or.inl rfl) (pe_bm PySem.F.plainAttrs_list PySem.F.slot_list_pop PySem.F.type_list_pop mt_popAt (pv 4) (pa_cons pe_int pa_nil)))
        (pss_one (ps_for PassesOwn.never rfl (pi_list (pe_callM (i := 0) (Gn.raw bn .nil) (hr.mono (by decide)) (by rfl) (.inl rfl) bm.fi pass0 (pa_cons (pv 5) pa_nil))) (pg_name (i := 6) scFp.nd rfl (Or.inl rfl))
        (pss_one (ps_if (PW.pt (pw_and (pt_cmpR op_in_seq (pv 6) (pv 2) (by rfl)) (pw_and1 (pt_cmp (pc_dnotin (u1 hr.units) (pv 6) (pv 3))))))
          (pss_cons (ps_dput (u1 hr.units) (pv 3) (pv 6) (pe_op op_catT (pe_dget (u1 hr.units) (pv 3) (pv 5) (fun _ _ => rfl)) (pe_tup (pa_cons (pv 6) pa_nil))) rfl)
            (pss_one (ps_expr (pe_bm PySem.F.plainAttrs_list PySem.F.slot_list_append PySem.F.type_list_append mt_append (pv 4) (pa_cons (pv 6) pa_nil)))))
          pss_nil))))))
      (pss_one (ps_ret (pv 3))))))), ?_⟩
    walk_at "rd"
    intro d nd
    have s1 : Same H (upd H d (HO.dK [])) := same_upd nd
    have hd1 : upd H d (HO.dK []) d = some (.dK []) := upd_same
    have hoS : ∀ H', Same H H' → SeqI K H' o R := fun H' sm => by
      rcases ho with h | h
      · exact .inl (sm.seq h)
      · exact .inr (same_sqT sm h)
    refine ⟨o, _, rfl, hoS _ s1, rfl, flI _, ?_⟩
    rw [inI]
    refine ⟨_, rfl, ?_⟩
    by_cases m : s ∈ R
    rw [decide_eq_true m]
    refine iteT ⟨_, rfl, (by show 1 ≤ sizeLine; decide), fun t nt => ⟨_, rfl, _, rfl, d, _, rfl, DPut.k (k := Sum.inl s) (same_upd nt _ _ hd1) (by decide), ?_⟩⟩
    have s2 : Same H (upd (upd (upd H d (HO.dK [])) t (HO.tup [V.int s])) d (HO.dK (putK [] (Sum.inl s) (V.ref t)))) := same_ch (s1.trans (same_upd nt)) nd
    have pk : ∃ kvs ks, Dk (upd (upd (upd H d (HO.dK [])) t (HO.tup [V.int s])) d (HO.dK (putK [] (Sum.inl s) (V.ref t)))) d kvs ks ∧ FInv D R s ks := by
      have ntd : t ≠ d := fun z => by
        rw [z, upd_same] at nt
        cases nt
      refine ⟨[(Sum.inl s, V.ref t)], [s], ⟨upd_same, rfl, fun kv hkv => ?_⟩, (by simp), fun x hx => ?_, fun _ => List.mem_cons_self⟩
      · rw [List.mem_singleton.mp hkv]
        exact ⟨t, _, rfl, by rw [upd_ne ntd]; exact upd_same, Nat.le_refl _, by simp⟩
      · rw [List.mem_singleton.mp hx]
        exact .base m
    generalize upd (upd (upd H d (HO.dK [])) t (HO.tup [V.int s])) d (HO.dK (putK [] (Sum.inl s) (V.ref t))) = H1 at s2 pk
    clear nt hd1
    rotate_left
    rw [decide_eq_false m]
    refine iteF ?_
    have s2 := s1
    have pk : ∃ kvs ks, Dk (upd H d (HO.dK [])) d kvs ks ∧ FInv D R s ks := ⟨[], [], ⟨upd_same, rfl, fun kv hkv => by cases hkv⟩, List.nodup_nil, fun x hx => (by cases hx), fun z => absurd z m⟩
    generalize upd H d (HO.dK []) = H1 at s1 s2 hd1 pk
    clear hd1
    all_goals
      clear s1
      obtain ⟨kvs, ks, dk, fi⟩ := pk
      walk_at "rd"
      refine ⟨_, .inl dk.at_, fun wt nwt => ?_⟩
      have r12 := hh.r12
      have dok : ∀ d ∈ D, d.1 < d.2 := fun d hd => (hh.ok.ok d hd).2.1
      have klen : ∀ ks : List Int, FInv D R s ks → ks.length ≤ r := fun ks fi => ints_len fi.nd fun x hx => hR x (fi.rc x hx).mem
      have dwt : d ≠ wt := ne_of_none dk.at_ nwt
      have nw0 : H wt = none := s2.free nwt
      have e0 : kvs.map (fun kv => kV kv.1) = ks.map V.int := by
        rw [show kvs.map (fun kv => kV kv.1) = (kvs.map (·.1)).map kV by rw [List.map_map]; rfl, dk.ke, List.map_map]
        rfl
      rw [e0]
      obtain ⟨Pv, hPv⟩ : ∃ Pv : L2.St → Hp → Prop, Pv = (fun σ H' => ∃ (kvs : List (Key × V)) (ks wl : List Int) (v5 v6 : Option V), σ = [some (.ref q), some (.int s), some (.ref o), some (.ref d), some (.ref wt), v5, v6] ∧ Same H H' ∧ Dk H' d kvs ks ∧ FInv D R s ks ∧ H' wt = some (.lst (wl.map V.int)) ∧ (∀ x ∈ wl, x ∈ ks) ∧ 2 * (r - kvs.length) + wl.length ≤ 100 ∧ (∀ a ∈ ks, a ∉ wl → ∀ b ∈ R, Adj D a b → b ∈ ks)) := ⟨_, rfl⟩
      obtain ⟨mu, hmu⟩ : ∃ mu : L2.St → Hp → Nat, mu = (fun _ H' => match H' d, H' wt with
        | some (.dK kvs), some (.lst ws) => 2 * (r - kvs.length) + ws.length
        | _, _ => 0) := ⟨_, rfl⟩
      refine while_by Pv mu ?h0 (fun σ H2 pv => ?hs) (fun σ H2 Q1 Q2 hi h => ?mono)
      case h0 =>
        rw [hPv]
        have kl := klen ks fi
        have dl := dk.len
        refine ⟨kvs, ks, ks, none, none, rfl, s2.trans (same_upd nwt), ⟨same_upd nwt _ _ dk.at_, dk.ke, fun kv hkv => ?_⟩, fi, upd_same, fun x hx => hx, by omega, fun a ha hn => absurd ha hn⟩
        obtain ⟨t, xs, e1, e2, e3⟩ := dk.vl kv hkv
        exact ⟨t, xs, e1, same_upd nwt _ _ e2, e3⟩
      case mono =>
        obtain ⟨v, g1, k, tv, q1⟩ := h
        exact ⟨v, g1, k, tv, hi _ _ q1⟩
      case hs =>
        rw [hPv] at pv
        obtain ⟨kvs, ks, wl, v5, v6, rfl, sm, dk, fi, hw, sub, bd, cl⟩ := pv
        refine ⟨.ref wt, rfl, !(wl.map V.int).isEmpty, .inl ⟨_, SqL.of hw, rfl⟩, ?_⟩
        cases wl with
        | nil =>
          refine iteF ?_
          walk_at "rd"
          exact ret d kvs ks H2 sm nd dk.at_ dk.ke fi.nd (fi.all fun a ha b hb ab => cl a ha (by simp) b hb ab)
        | cons w0 ws =>
          have w0k := sub w0 List.mem_cons_self
          have w0R := hR w0 (fi.rc w0 w0k).mem
          obtain ⟨n0, rfl⟩ : ∃ n : Nat, w0 = (n : Int) := ⟨w0.toNat, by omega⟩
          refine iteT ?_
          walk_at "rd"
          refine ⟨.inl ⟨rfl, _, SqL.of hw⟩, ?_⟩
          walk_at "rd"
          have sq : PySem.seqIndex? 0 (((n0 : Int) :: ws).map V.int).length = some 0 := by
            unfold PySem.seqIndex?
            simp
          refine ⟨wt, _, 0, 0, .int n0, rfl, rfl, hw, by decide, by decide, sq, rfl, ?_⟩
          have mu0 : mu [some (V.ref q), some (V.int s), some (V.ref o), some (V.ref d), some (V.ref wt), v5, v6] H2 = 2 * (r - kvs.length) + (ws.length + 1) := by
            rw [hmu]
            show (match H2 d, H2 wt with
              | some (.dK kvs), some (.lst ws) => 2 * (r - kvs.length) + ws.length
              | _, _ => 0) = _
            rw [dk.at_, hw]
            show _ + (List.map V.int _).length = _
            rw [List.length_map]
            rfl
          rw [mu0]
          have bd2 : 2 * (r - kvs.length) + (ws.length + 1) ≤ 100 := bd
          generalize hM : 2 * (r - kvs.length) + (ws.length + 1) = M at bd2
          show tFor _ _ _ _ _ (upd H2 wt (HO.lst (ws.map V.int)))
          have s3 : Same H (upd H2 wt (HO.lst (ws.map V.int))) := same_ch sm nw0
          have hw3 : upd H2 wt (HO.lst (ws.map V.int)) wt = some (.lst (ws.map V.int)) := upd_same
          have dk3 : Dk (upd H2 wt (HO.lst (ws.map V.int))) d kvs ks := dk.ch dwt hw
          generalize upd H2 wt (HO.lst (ws.map V.int)) = H3 at s3 hw3 dk3 ⊢
          refine for_iterW ?_
          refine ⟨q, p, rfl, _, rfl, s3 _ _ hq, p, r, D, own, n0, rfl, hh.same s3, by omega, fun nb nnb => ?_⟩
          have nb0 : H nb = none := s3.free nnb
          have nbw : wt ≠ nb := ne_of_none hw3 nnb
          have nbd : d ≠ nb := ne_of_none dk3.at_ nnb
          obtain ⟨Pw, hPw⟩ : ∃ Pw : Nat → L2.St → Hp → Prop, Pw = (fun j σ H' => ∃ (kvs' : List (Key × V)) (ks' wl' : List Int) (v6 : Option V), σ = [some (.ref q), some (.int s), some (.ref o), some (.ref d), some (.ref wt), some (.int n0), v6] ∧ Same H H' ∧ H' nb = some (.lst ((nearF (n0 : Nat) D).map V.int)) ∧ Dk H' d kvs' ks' ∧ FInv D R s ks' ∧ H' wt = some (.lst (wl'.map V.int)) ∧ (∀ x ∈ wl', x ∈ ks') ∧ (n0 : Int) ∈ ks' ∧ 2 * (r - kvs'.length) + wl'.length + 1 ≤ M ∧ (∀ a ∈ ks', a ∉ wl' → a ≠ n0 → ∀ b ∈ R, Adj D a b → b ∈ ks') ∧ (∀ b ∈ (nearF (n0 : Nat) D).take j, b ∈ R → b ∈ ks')) := ⟨_, rfl⟩
          refine ⟨nb, rfl, ⟨_, SqL.of upd_same⟩, for_list (K := K) (a := nb) (xs := (nearF (n0 : Nat) D).map V.int) Pw ?i0 (fun j σ H' _ pv => ?il) (fun j v σ H' gv pv => ?ib) (fun σ H' pv => ?ie)⟩
          case i0 =>
            rw [hPw]
            refine ⟨kvs, ks, ws, v6, rfl, s3.trans (same_upd nnb), upd_same, dk3.same (same_upd nnb), fi, same_upd nnb _ _ hw3, fun x hx => sub x (List.mem_cons_of_mem _ hx), w0k, by omega, fun a ha hn ne b hb ab => cl a ha (fun z => ?_) b hb ab, fun b hb => (by rw [List.take_zero] at hb; cases hb)⟩
            rcases List.mem_cons.mp z with z | z
            · exact ne z
            · exact hn z
          case il =>
            rw [hPw] at pv
            obtain ⟨_, _, _, _, _, _, hn, _⟩ := pv
            exact SqL.of hn
          case ie =>
            rw [hPw] at pv
            obtain ⟨kvs', ks', wl', v6, rfl, s5, hn, dk5, fi5, hw5, sub5, nk, le5, cl5, nn5⟩ := pv
            rw [List.length_map, List.take_length] at nn5
            refine ⟨?_, ?_⟩
            · rw [hPv]
              refine ⟨kvs', ks', wl', some (.int n0), v6, rfl, s5, dk5, fi5, hw5, sub5, by omega, fun a ha hn b hb ab => ?_⟩
              by_cases e : a = n0
              · subst e
                exact nn5 b ((mem_nearF dok).mpr ab) hb
              · exact cl5 a ha hn e b hb ab
            · rw [hmu]
              show (match H' d, H' wt with
                | some (.dK kvs), some (.lst ws) => 2 * (r - kvs.length) + ws.length
                | _, _ => 0) < _
              rw [dk5.at_, hw5]
              show _ + (List.map V.int _).length < _
              rw [List.length_map]
              omega
          case ib =>
            have nxt : ∀ (kvs' : List (Key × V)) (ks' wl' : List Int) (v6 : Option V) (H' : Hp), Same H H' → H' nb = some (.lst ((nearF (n0 : Nat) D).map V.int)) → Dk H' d kvs' ks' → FInv D R s ks' → H' wt = some (.lst (wl'.map V.int)) → (∀ x ∈ wl', x ∈ ks') → (n0 : Int) ∈ ks' → 2 * (r - kvs'.length) + wl'.length + 1 ≤ M → (∀ a ∈ ks', a ∉ wl' → a ≠ n0 → ∀ b ∈ R, Adj D a b → b ∈ ks') → (∀ b ∈ (nearF (n0 : Nat) D).take (j + 1), b ∈ R → b ∈ ks') → Pw (j + 1) [some (.ref q), some (.int s), some (.ref o), some (.ref d), some (.ref wt), some (.int n0), v6] H' := fun kvs' ks' wl' v6 H' h1 h2 h3 h4 h5 h6 h7 h8 h9 h10 => by
              rw [hPw]
              exact ⟨kvs', ks', wl', v6, rfl, h1, h2, h3, h4, h5, h6, h7, h8, h9, h10⟩
            rw [hPw] at pv
            obtain ⟨kvs', ks', wl', v6, rfl, s5, hn, dk5, fi5, hw5, sub5, nk, le5, cl5, nn5⟩ := pv
            rw [List.getElem?_map] at gv
            cases gd : (nearF (n0 : Nat) D)[j]? with
            | none => rw [gd] at gv; cases gv
            | some b =>
              rw [gd] at gv
              have ev := Option.some.inj gv
              subst ev
              have adj : Adj D n0 b := (mem_nearF dok).mp (List.mem_of_getElem? gd)
              have tk : (nearF (n0 : Nat) D).take (j + 1) = (nearF (n0 : Nat) D).take j ++ [b] := by rw [List.take_add_one, gd]; rfl
              rw [tk] at nxt
              walk_at "rd"
              refine ⟨o, _, rfl, hoS _ s5, rfl, flI _, ?_⟩
              rw [inI]
              refine ⟨_, rfl, ?_⟩
              by_cases bR : b ∈ R
              · rw [decide_eq_true bR]
                refine iteT ?_
                refine ⟨_, rfl, _, rfl, d, _, rfl, DGet.k (k := Sum.inl b) dk5.at_, ?_⟩
                refine ⟨_, rfl, ?_⟩
                by_cases bk : b ∈ ks'
                · rw [(dk5.mem b).mpr bk]
                  refine iteF ?_
                  refine nxt kvs' ks' wl' _ H' s5 hn dk5 fi5 hw5 sub5 nk le5 cl5 fun c hc cR => ?_
                  rcases List.mem_append.mp hc with z | z
                  · exact nn5 c z cR
                  · rw [List.mem_singleton.mp z]
                    exact bk
                · have vn : valV kvs' (Sum.inl b : Key) = none := by
                    cases e : valV kvs' (Sum.inl b : Key) with
                    | none => rfl
                    | some v => exact absurd ((dk5.mem b).mp (by rw [e]; rfl)) bk
                  rw [vn]
                  refine iteT ?_
                  obtain ⟨v0, ev0⟩ : ∃ v, valV kvs' (Sum.inl (n0 : Int) : Key) = some v := Option.isSome_iff_exists.mp ((dk5.mem n0).mpr nk)
                  obtain ⟨kv, mkv, e2⟩ := valV_mem ev0
                  obtain ⟨t0, xs0, e3, ht0, hx0, hz0⟩ := dk5.vl kv mkv
                  have ek : v0 = V.ref t0 := e2.symm.trans e3
                  subst ek
                  have fi6 := fi5.add nk bR adj bk
                  have kl := klen _ fi6
                  have dl := dk5.len
                  rw [List.length_append] at kl
                  have kl2 : ks'.length + 1 ≤ r := kl
                  refine ⟨_, rfl, _, rfl, d, .ref t0, rfl, (by rw [← ev0]; exact DGet.k (k := Sum.inl (n0 : Int)) dk5.at_), _, rfl, (by show 1 ≤ sizeLine; decide), fun t1 nt1 => ?_⟩
                  refine ⟨t0, t1, xs0, [.int b], rfl, rfl, SqT.of (same_upd nt1 _ _ ht0), SqT.of upd_same, hz0, Nat.le_of_lt (len_big (by show xs0.length + 1 ≤ 100000; omega)), (fun z => by cases z), fun _ t2 nt2 => ?_⟩
                  have s56 : Same H' (upd (upd H' t1 (HO.tup [V.int b])) t2 (HO.tup (xs0 ++ [V.int b]))) := (same_upd nt1).trans (same_upd nt2)
                  have ht2 : upd (upd H' t1 (HO.tup [V.int b])) t2 (HO.tup (xs0 ++ [V.int b])) t2 = some (.tup (xs0 ++ [V.int b])) := upd_same
                  generalize upd (upd H' t1 (HO.tup [V.int b])) t2 (HO.tup (xs0 ++ [V.int b])) = H6 at s56 ht2
                  have dk6 := dk5.same s56
                  refine ⟨_, rfl, _, rfl, d, _, rfl, DPut.k (k := Sum.inl b) dk6.at_ (len_big (by omega)), ?_⟩
                  have dk7 := dk6.put vn ht2 (by rw [List.length_append]; show xs0.length + 1 ≤ _; omega) (by simp)
                  have s7 := same_ch (o := HO.dK (putK kvs' (Sum.inl b) (V.ref t2))) (s5.trans s56) nd
                  have hw7 : upd H6 d (HO.dK (putK kvs' (Sum.inl b) (V.ref t2))) wt = some (.lst (wl'.map V.int)) := by
                    rw [upd_ne dwt.symm]
                    exact s56 _ _ hw5
                  have hn7 : upd H6 d (HO.dK (putK kvs' (Sum.inl b) (V.ref t2))) nb = some (.lst ((nearF (n0 : Nat) D).map V.int)) := by
                    rw [upd_ne nbd.symm]
                    exact s56 _ _ hn
                  have pl : (putK kvs' (Sum.inl b : Key) (V.ref t2)).length = kvs'.length + 1 := by rw [putK_new _ vn, List.length_append]; rfl
                  generalize upd H6 d (HO.dK (putK kvs' (Sum.inl b) (V.ref t2))) = H7 at dk7 s7 hw7 hn7
                  generalize putK kvs' (Sum.inl b : Key) (V.ref t2) = kv7 at dk7 pl
                  walk_at "rd"
                  refine ⟨.inl ⟨rfl, _, SqL.of hw7⟩, _, hw7, len_big (by rw [List.length_map]; omega), ?_⟩
                  refine nxt kv7 (ks' ++ [b]) (wl' ++ [b]) _ _ (same_ch s7 nw0) (by rw [upd_ne nbw.symm]; exact hn7) (dk7.ch dwt hw7) fi6 (by rw [upd_same, List.map_append]; rfl) (fun x hx => ?_) (List.mem_append_left _ nk) (by rw [pl, List.length_append]; show _ + (wl'.length + 1) + 1 ≤ M; omega) (fun a ha hna ne c hc ac => ?_) (fun c hc cR => ?_)
                  · rcases List.mem_append.mp hx with z | z
                    · exact List.mem_append_left _ (sub5 x z)
                    · exact List.mem_append_right _ z
                  · rcases List.mem_append.mp ha with z | z
                    · exact List.mem_append_left _ (cl5 a z (fun y => hna (List.mem_append_left _ y)) ne c hc ac)
                    · exact absurd (List.mem_append_right _ z) hna
                  · rcases List.mem_append.mp hc with z | z
                    · exact List.mem_append_left _ (nn5 c z cR)
                    · exact List.mem_append_right _ z
              · rw [decide_eq_false bR]
                refine iteF ?_
                refine nxt kvs' ks' wl' _ H' s5 hn dk5 fi5 hw5 sub5 nk le5 cl5 fun c hc cR => ?_
                rcases List.mem_append.mp hc with z | z
                · exact nn5 c z cR
                · rw [List.mem_singleton.mp z] at cR
                  exact absurd cR bR
end

theorem up_of {ys ks : List Int} (p : ys.Perm ks) (nd : ks.Nodup) (s : ys.Pairwise (· ≤ ·)) : Up ys := by
  have n2 : ys.Nodup := p.nodup_iff.mpr nd
  unfold Up
  refine List.Pairwise.imp (fun {a b} (h : a ≤ b ∧ a ≠ b) => by omega) (List.Pairwise.and s n2)
/-- tuples of ints in the heap -/
def IsR (H : Hp) (v : V) (ys : List Int) : Prop := ∃ t, v = .ref t ∧ H t = some (.tup (ys.map V.int))
def RL (H : Hp) (vs : List V) (L : List (List Int)) : Prop := Paired (IsR H) vs L
theorem IsR.same {H H' : Hp} {v : V} {d : List Int} (h : IsR H v d) (k : KT H H') : IsR H' v d := by
  obtain ⟨t, e, h⟩ := h
  exact ⟨t, e, k _ _ h⟩
theorem RL.kt {H H' : Hp} {vs : List V} {D : List (List Int)} (h : RL H vs D) (k : KT H H') : RL H' vs D := Paired.mapP h fun _ _ q => q.same k
theorem RL.len {H : Hp} {vs : List V} {D : List (List Int)} (h : RL H vs D) : vs.length = D.length := Paired.length h
theorem RL.nil0 (H : Hp) : RL H [] [] := Paired.nil
theorem RL.snoc {H : Hp} {vs : List V} {D : List (List Int)} {v : V} {d : List Int} (h : RL H vs D) (q : IsR H v d) : RL H (vs ++ [v]) (D ++ [d]) := Paired.snoc h q
theorem lget {α β : Type} {F : α → β → Prop} : ∀ {vs : List α} {D : List β} {i : Nat} {v : α}, Paired F vs D → vs[i]? = some v → ∃ d, D[i]? = some d ∧ F v d
  | _, _, _, _, Paired.nil, e => by simp at e
  | _, _, 0, v, .cons r _, e => by
    have e2 := Option.some.inj e
    subst e2
    exact ⟨_, rfl, r⟩
  | _, _, i + 1, v, .cons _ t, e => lget (i := i) t e
theorem lget2 {α β : Type} {F : α → β → Prop} : ∀ {vs : List α} {D : List β} {i : Nat} {d : β}, Paired F vs D → D[i]? = some d → ∃ v, vs[i]? = some v ∧ F v d
  | _, _, _, _, Paired.nil, e => by simp at e
  | _, _, 0, v, .cons r _, e => by
    have e2 := Option.some.inj e
    subst e2
    exact ⟨_, rfl, r⟩
  | _, _, i + 1, v, .cons _ t, e => lget2 (i := i) t e
section
variable {P : Program} {w : World} {K : PySem.W.Frag} {mg : Str → Option Value} {base : Heap}
theorem scRea : FnScope ["house", "start", "inside"] ["house", "start", "inside"] (defScope sRea) := ⟨rfl, rfl, rfl, by decide +kernel, rfl, by decide +kernel, by decide +kernel⟩
def spRea (K : PySem.W.Frag) (C : Addr) : Sp := fun vs H Q _ => ∃ (p o : Addr) (s : Int) (R : List Int) (r : Nat) (D : List Pr) (own : List Addr), vs = [.ref p, .int s, .ref o] ∧ HouseAt C H p r D own ∧ SeqI K H o R ∧ (∀ x ∈ R, 0 ≤ x ∧ x < r) ∧
  ∀ (ys : List Int) (t : Addr) (H' : Hp), Pc D R s ys → Same H H' → H t = none → H' t = some (.tup (ys.map V.int)) → Q (.ref t) H'
theorem SeqI.same {K : PySem.W.Frag} {H H' : Hp} {o : Addr} {R : List Int} (h : SeqI K H o R) (s : Same H H') : SeqI K H' o R := by
  rcases h with h | h
  · exact .inl (s.seq h)
  · exact .inr (same_sqT s h)
theorem ok_rea {f C g fF : Addr} {fd fdF : FuncData} (F : Fun K "reached" "reached" sRea f fd) (T : Bi mg) (U : Hs K mg C) (bm : BMeth K C "neighbours" g) (d_first_paths : Df P w K mg base "first_paths" ["steps", "start", "inside"] 2 (spFp K C g) fF fdF) : FnOk P w K mg base CX0 3 f fd ["house", "start", "inside"] (spRea K C) := by
  refine F.ok scRea (fun vs H Q E h => ?_) (fun cdv A outer s0 H vs Q E hr h => ?_)
  · obtain ⟨p, o, s, R, r, D, own, rfl, _⟩ := h
    rfl
  · obtain ⟨p, o, s, R, r, D, own, rfl, hh, ho, hR, ret⟩ := h
    refine ⟨_, (pss_one (ps_ret (pe_callTy call_tuple_of (by rfl) T.tuple (by decide +kernel) (pa_cons (pe_callB (call_sortedDI rfl) (by rfl) T.sorted (by decide +kernel) (pa_cons (pe_call d_first_paths.ok (hr.mono (by decide)) (by rfl) d_first_paths.at_ d_first_paths.kp d_first_paths.b .nil pass0 (pa_cons (pe_bnd (pv 0) U.cl bm) (pa_cons (pv 1) (pa_cons (pv 2) pa_nil)))) pa_nil)) pa_nil)))), ?_⟩
    walk_at "rd"
    obtain ⟨dx, l0, m0, ls, nss, h1, _⟩ := hh.ex
    refine ⟨_, rfl, p, dx, _, rfl, h1, hf_no _ _ _ (by decide +kernel) (by decide +kernel) (by decide +kernel), fun q nq => ?_⟩
    have s1 : Same H (upd H q (HO.met g p)) := same_upd nq
    refine ⟨q, o, p, s, R, r, D, own, rfl, upd_same, hh.same s1, ho.same s1, hR, fun d kvs ks H' s2 nd hd ke knd rc => ?_⟩
    have kl : ks.length ≤ r := ints_len knd fun x hx => hR x ((rc x).mp hx).mem
    have r12 := hh.r12
    walk_at "rd"
    refine ⟨kvs, .inl hd, ks, ke, by omega, fun ys t1 pm so nt1 => ⟨_, .inl ⟨SqL.of upd_same, fun t2 nt2 => ?_⟩⟩⟩
    have s3 := s1.trans s2
    have s4 := (s3.trans (same_upd (o := HO.lst (ys.map V.int)) nt1))
    exact ret ys t2 _ ⟨up_of pm knd so, fun x => pm.mem_iff.trans (rc x)⟩ (s4.trans (same_upd nt2)) (s4.free nt2) upd_same
theorem scPcs : FnScope ["house", "rooms", "found", "left", "piece", "room"] ["house", "rooms"] (defScope sPcs) := ⟨rfl, rfl, rfl, by decide +kernel, rfl, by decide +kernel, by decide +kernel⟩
def spPcs (K : PySem.W.Frag) (C : Addr) : Sp := fun vs H Q _ => ∃ (p o : Addr) (R : List Int) (r : Nat) (D : List Pr) (own : List Addr), vs = [.ref p, .ref o] ∧ HouseAt C H p r D own ∧ SeqI K H o R ∧ R.length < 64 ∧ (∀ x ∈ R, 0 ≤ x ∧ x < r) ∧
  ∀ (L : List (List Int)) (us : List V) (t : Addr) (H' : Hp), Pcs D R L → Same H H' → H t = none → H' t = some (.lst us) → RL H' us L → Q (.ref t) H'
theorem ok_pcs {f C fR : Addr} {fd fdR : FuncData} (F : Fun K "pieces" "pieces" sPcs f fd) (T : Bi mg) (d_reached : Df P w K mg base "reached" ["house", "start", "inside"] 3 (spRea K C) fR fdR) : FnOk P w K mg base CX0 4 f fd ["house", "rooms"] (spPcs K C) := by
  refine F.ok scPcs (fun vs H Q E h => ?_) (fun cdv A outer s0 H vs Q E hr h => ?_)
  · obtain ⟨p, o, R, r, D, own, rfl, _⟩ := h
    rfl
  · obtain ⟨p, o, R, r, D, own, rfl, hh, ho, h64, hR, ret⟩ := h
    refine ⟨_, (pss_cons (ps_set (i := 2) scPcs.nd rfl (Or.inl rfl) (pe_lst pa_nil))
      (pss_cons (ps_set (i := 3) scPcs.nd rfl (Or.inl rfl) (pe_callB cr_sortTup (by rfl) T.sorted (by decide +kernel) (pa_cons (pv 1) pa_nil)))
      (pss_cons (ps_while PassesOwn.never (pt_truth (pv 3) (by intro _; rfl))
      (pss_cons (ps_set (i := 4) scPcs.nd rfl (Or.inr rfl) (pe_call d_reached.ok (hr.mono (by decide)) (by rfl) d_reached.at_ d_reached.kp d_reached.b .nil pass0 (pa_cons (pv 0) (pa_cons (pe_ix ix_list (pv 3) pe_int (fun _ _ => rfl)) (pa_cons (pv 3) pa_nil)))))
        (pss_cons (ps_expr (pe_bm PySem.F.plainAttrs_list PySem.F.slot_list_append PySem.F.type_list_append mt_append (pv 2) (pa_cons (pv 4) pa_nil)))
        (pss_one (ps_setLc (i := 3) (own := [("room", 5)]) (tt := tTest (tOp (rIn K true) (tVar 5) (tVar 4))) (by rfl) scPcs.nd rfl rfl (sw_true rfl rfl rfl (by decide +kernel)) (pi_list (pv 3)) (blkOk_by (N := ["house", "rooms", "found", "left", "piece", "room"]) (sc := defScope sPcs) (by decide +kernel)) (fun _ _ _ _ _ => pg_name (i := 5) scPcs.nd rfl (Or.inl rfl)) (fun _ _ _ _ _ => (pts_one (pt_cmpR op_notIn_seq (pv 5) (pv 4) (by rfl)))) (fun _ _ _ _ _ => (pv 5)))))))
      (pss_one (ps_ret (pv 2)))))), ?_⟩
    walk_at "rd"
    refine ⟨Nat.zero_le _, fun fnd nf => ?_⟩
    have s1 : Same H (upd H fnd (HO.lst [])) := same_upd nf
    refine ⟨o, R, rfl, ho.same s1, h64, fun S lf0 pS sS nl0 => ?_⟩
    have s2 := s1.trans (same_upd (o := HO.lst (S.map V.int)) nl0)
    obtain ⟨Pv, hPv⟩ : ∃ Pv : L2.St → Hp → Prop, Pv = (fun σ H' => ∃ (L : List (List Int)) (us : List V) (lf : Addr) (Lf : List Int) (v4 : Option V), σ = [some (.ref p), some (.ref o), some (.ref fnd), some (.ref lf), v4, none] ∧ Same H H' ∧ H' fnd = some (.lst us) ∧ RL H' us L ∧ H' lf = some (.lst (Lf.map V.int)) ∧ PInv D R L Lf ∧ L.length + Lf.length ≤ 100 ∧ fnd ≠ lf) := ⟨_, rfl⟩
    obtain ⟨mu, hmu⟩ : ∃ mu : L2.St → Hp → Nat, mu = (fun (σ : L2.St) (H' : Hp) => match (σ[3]? : Option (Option V)) with
      | some (some (.ref lf)) => (match H' lf with
        | some (.lst ws) => ws.length
        | _ => 0)
      | _ => 0) := ⟨_, rfl⟩
    refine while_by Pv mu ?h0 (fun σ H2 pv => ?hs) (fun σ H2 Q1 Q2 hi h => ?mono)
    case h0 =>
      rw [hPv]
      exact ⟨[], [], lf0, S, none, rfl, s2, same_upd nl0 _ _ upd_same, RL.nil0 _, upd_same, PInv.start (fun x => pS.mem_iff) sS, by have := pS.length_eq; show 0 + S.length ≤ 100; omega, ne_of_none upd_same nl0⟩
    case mono =>
      obtain ⟨v, g1, k, tv, q1⟩ := h
      exact ⟨v, g1, k, tv, hi _ _ q1⟩
    case hs =>
      rw [hPv] at pv
      obtain ⟨L, us, lf, Lf, v4, rfl, sm, hf, rl, hl, pi, bd, nfl⟩ := pv
      refine ⟨.ref lf, rfl, !(Lf.map V.int).isEmpty, .inl ⟨_, SqL.of hl, rfl⟩, ?_⟩
      cases Lf with
      | nil =>
        refine iteF ?_
        walk_at "rd"
        exact ret L us fnd H2 pi.done sm nf hf rl
      | cons l0 Lf =>
        refine iteT ?_
        have mu0 : mu [some (V.ref p), some (V.ref o), some (V.ref fnd), some (V.ref lf), v4, none] H2 = Lf.length + 1 := by
          rw [hmu]
          show (match H2 lf with
            | some (.lst ws) => ws.length
            | _ => 0) = _
          rw [hl]
          show (List.map V.int (l0 :: Lf)).length = _
          rw [List.length_map]
          rfl
        rw [mu0]
        have lR : ∀ x ∈ l0 :: Lf, 0 ≤ x ∧ x < r := fun x hx => hR x ((pi.lf x).mp hx).1
        walk_at "rd"
        refine ⟨_, SqL.of hl, .int l0, at_of (j := 0) rfl rfl, p, lf, l0, l0 :: Lf, r, D, own, rfl, hh.same sm, .inl (SqL.of hl), lR, fun ys t H3 pc s3 nt ht => ?_⟩
        walk_at "rd"
        have hf3 := s3 _ _ hf
        have rl3 := rl.kt (KT.same s3)
        have s03 := sm.trans s3
        have hl3 := s3 _ _ hl
        have bd3 : L.length + (Lf.length + 1) ≤ 100 := bd
        refine ⟨.inl ⟨rfl, _, SqL.of hf3⟩, us, hf3, len_big (by rw [rl.len]; omega), ?_⟩
        have s4 := same_ch (o := HO.lst (us ++ [V.ref t])) s03 nf
        have hl4 : upd H3 fnd (HO.lst (us ++ [V.ref t])) lf = some (.lst ((l0 :: Lf).map V.int)) := by rw [upd_ne nfl.symm]; exact hl3
        have ht4 : upd H3 fnd (HO.lst (us ++ [V.ref t])) t = some (.tup (ys.map V.int)) := by rw [upd_ne (ne_of ht hf3 (by intro z; cases z))]; exact ht
        have hf4 : upd H3 fnd (HO.lst (us ++ [V.ref t])) fnd = some (.lst (us ++ [V.ref t])) := upd_same
        have rl4 : RL (upd H3 fnd (HO.lst (us ++ [V.ref t]))) (us ++ [V.ref t]) (L ++ [ys]) := RL.snoc (rl3.kt (KT.lst hf3)) ⟨t, rfl, ht4⟩
        generalize upd H3 fnd (HO.lst (us ++ [V.ref t])) = H4 at s4 hl4 ht4 hf4 rl4
        refine ⟨_, rfl, lf, rfl, ⟨_, SqL.of hl4⟩, fun gg ng => ?_⟩
        obtain ⟨Pw, hPw⟩ : ∃ Pw : Nat → Hp → Prop, Pw = (fun j Hx => Same H4 Hx ∧ Hx gg = some (.lst ((((l0 :: Lf).take j).filter fun x => decide (x ∉ ys)).map V.int))) := ⟨_, rfl⟩
        refine lc_list (K := K) (a := lf) (xs := (l0 :: Lf).map V.int) Pw (by rw [hPw]; exact ⟨same_upd ng, upd_same⟩) (fun j Hx _ pv => by rw [hPw] at pv; exact SqL.of (pv.1 _ _ hl4)) (fun j v Hx gv pv => ?_) (fun Hx pv => ?_)
        · have nxt : ∀ Hx, Same H4 Hx → Hx gg = some (.lst ((((l0 :: Lf).take (j + 1)).filter fun x => decide (x ∉ ys)).map V.int)) → Pw (j + 1) Hx := fun Hx h1 h2 => by
            rw [hPw]
            exact ⟨h1, h2⟩
          rw [hPw] at pv
          obtain ⟨s5, hg⟩ := pv
          rw [List.getElem?_map] at gv
          cases gd : (l0 :: Lf)[j]? with
          | none => rw [gd] at gv; cases gv
          | some x =>
            rw [gd] at gv
            have ev := Option.some.inj gv
            subst ev
            rw [List.take_add_one, gd, List.filter_append, List.map_append] at nxt
            have tl : (((l0 :: Lf).take j).filter fun x => decide (x ∉ ys)).length ≤ 100 := by
              have e1 := List.length_filter_le (fun x => decide (x ∉ ys)) ((l0 :: Lf).take j)
              rw [List.length_take, List.length_cons] at e1
              omega
            simp only [wipe]
            walk_at "rd"
            refine ⟨t, _, rfl, .inr (SqT.of (s5 _ _ ht4)), rfl, flI _, ?_⟩
            rw [inI]
            by_cases m : x ∈ ys
            · rw [decide_eq_true m]
              refine ⟨_, rfl, iteF ?_⟩
              refine nxt Hx s5 ?_
              show _ = some (HO.lst (_ ++ ([x].filter _).map V.int))
              rw [List.filter_cons_of_neg (by simp [m])]
              rw [hg]
              simp
            · rw [decide_eq_false m]
              refine ⟨_, rfl, iteT ⟨_, hg, len_big (by rw [List.length_map]; omega), nxt _ (same_ch s5 ng) ?_⟩⟩
              show _ = some (HO.lst (_ ++ ([x].filter _).map V.int))
              rw [List.filter_cons_of_pos (by simp [m]), upd_same]
              rfl
        · rw [hPw] at pv
          obtain ⟨s5, hg⟩ := pv
          rw [List.length_map, List.take_length] at hg
          have fl : ((l0 :: Lf).filter fun x => decide (x ∉ ys)).length ≤ Lf.length := by
            have m0 : l0 ∈ ys := pc.self List.mem_cons_self
            rw [List.filter_cons_of_neg (by simp [m0])]
            exact List.length_filter_le _ _
          have s8 := s4.trans s5
          refine ⟨?_, ?_⟩
          · rw [hPv]
            exact ⟨L ++ [ys], us ++ [.ref t], gg, _, some (.ref t), rfl, s8, s5 _ _ hf4, rl4.kt (KT.same s5), hg, pi.step pc, by rw [List.length_append]; show L.length + 1 + _ ≤ 100; omega, ne_of_none hf4 ng⟩
          · rw [hmu]
            show (match Hx gg with
              | some (.lst ws) => ws.length
              | _ => 0) < _
            rw [hg]
            show (List.map V.int _).length < _
            rw [List.length_map]
            omega
end

abbrev sLre : Stmt := topS 51
abbrev sLpc : Stmt := topS 52
theorem int_sub_len {l m : List Int} (nd : l.Nodup) (h : ∀ x ∈ l, x ∈ m) (p : ∀ x ∈ m, 0 ≤ x) : l.length ≤ m.length := by
  have h1 : (l.map Int.toNat).Nodup := by
    refine List.pairwise_map.mpr (List.Pairwise.imp_of_mem (fun {x y} hx hy ne e => ?_) nd)
    have b1 := p x (h x hx)
    have b2 := p y (h y hy)
    omega
  have h2 := nat_nodup_len _ (m.map Int.toNat) h1 fun c hc => by
    obtain ⟨x, hx, rfl⟩ := List.mem_map.mp hc
    exact List.mem_map.mpr ⟨x, h x hx, rfl⟩
  rw [List.length_map, List.length_map] at h2
  exact h2
theorem FInv.full {D : List Pr} {R F : List Int} {s : Int} (h : FInv D R s F) (p : ∀ x ∈ R, 0 ≤ x) (l : R.length ≤ F.length) : Clo D R F := fun a ha b hb ab => Classical.byContradiction fun n => by
  have h2 := h.add ha hb ab n
  have := int_sub_len h2.nd (fun x hx => (h2.rc x hx).mem) p
  rw [List.length_append] at this
  have e : F.length + 1 ≤ R.length := this
  omega
/-- the doors so far lead nowhere new -/
def Cl1 (R F : List Int) (E : List Pr) : Prop := ∀ d ∈ E, (d.1 ∈ F → d.2 ∈ R → d.2 ∈ F) ∧ (d.2 ∈ F → d.1 ∈ R → d.1 ∈ F)
theorem Cl1.clo {D : List Pr} {R F : List Int} (h : Cl1 R F D) : Clo D R F := fun a ha b hb ab => by
  rcases ab with m | m
  · exact (h _ m).1 ha hb
  · exact (h _ m).2 ha hb
theorem half {K : PySem.W.Frag} {i j : Nat} {x y : Int} {fnd o : Addr} {Fc R : List Int} {D : Ends} {σ : L2.St} {H : Hp} (g1 : σ[i]? = some (some (.int x))) (g2 : σ[j]? = some (some (.int y))) (g3 : σ[3]? = some (some (.ref fnd))) (g4 : σ[2]? = some (some (.ref o))) (hf : H fnd = some (.lst (Fc.map V.int))) (ho : SeqI K H o R) (hl : Fc.length ≤ 1000)
    (no : ¬ (x ∈ Fc ∧ y ∈ R ∧ y ∉ Fc) → D.nx σ H) (yes : x ∈ Fc → y ∈ R → y ∉ Fc → D.nx σ (upd H fnd (.lst ((Fc ++ [y]).map V.int)))) :
    tIfS (tAnd (tTest (tOp (rIn K false) (tVar i) (tVar 3))) (tAnd (tTest (tOp (rIn K false) (tVar j) (tVar 2))) (tTest (tOp (rIn K true) (tVar j) (tVar 3))))) (tDrop (tBM K "list" rAppend (tVar 3) (tCons (tVar j) tNil))) tNext D σ H := by
  refine ⟨_, g1, _, g3, fnd, _, rfl, .inl (SqL.of hf), rfl, flI _, ?_⟩
  rw [inI]
  refine ⟨_, rfl, ?_⟩
  by_cases h1 : x ∈ Fc
  · rw [decide_eq_true h1]
    refine iteT ⟨_, g2, _, g4, o, _, rfl, ho, rfl, flI _, ?_⟩
    rw [inI]
    refine ⟨_, rfl, ?_⟩
    by_cases h2 : y ∈ R
    · rw [decide_eq_true h2]
      refine iteT ⟨_, g2, _, g3, fnd, _, rfl, .inl (SqL.of hf), rfl, flI _, ?_⟩
      rw [inI]
      refine ⟨_, rfl, ?_⟩
      by_cases h3 : y ∈ Fc
      · rw [decide_eq_true h3]
        exact iteF (no fun z => z.2.2 h3)
      · rw [decide_eq_false h3]
        refine iteT ⟨_, g3, .inl ⟨rfl, _, SqL.of hf⟩, _, g2, ?_⟩
        walk_at "rd"
        refine ⟨_, hf, len_big (by rw [List.length_map]; omega), ?_⟩
        have q := yes h1 h2 h3
        rw [List.map_append] at q
        exact q
    · rw [decide_eq_false h2]
      exact iteF (no fun z => h2 z.2.1)
  · rw [decide_eq_false h1]
    exact iteF (no fun z => h1 z.1)
section
variable {P : Program} {w : World} {K : PySem.W.Frag} {mg : Str → Option Value} {base : Heap}
theorem scLre : FnScope ["doors", "start", "inside", "found", "k", "before", "a", "b"] ["doors", "start", "inside"] (defScope sLre) := ⟨rfl, rfl, rfl, by decide +kernel, rfl, by decide +kernel, by decide +kernel⟩
def spLre (K : PySem.W.Frag) : Sp := fun vs H Q _ => ∃ (l o : Addr) (s : Int) (us : List V) (D : List Pr) (R : List Int), vs = [.ref l, .int s, .ref o] ∧ H l = some (.lst us) ∧ PL H us D ∧ SeqI K H o R ∧ R.length < 64 ∧ (∀ x ∈ R, 0 ≤ x) ∧
  ∀ (ys : List Int) (t : Addr) (H' : Hp), Pc D R s ys → Same H H' → H t = none → H' t = some (.lst (ys.map V.int)) → Q (.ref t) H'
theorem ok_lre {f : Addr} {fd : FuncData} (F : Fun K "_law_reach" "_law_reach" sLre f fd) (T : Bi mg) : FnOk P w K mg base CX0 1 f fd ["doors", "start", "inside"] (spLre K) := by
  refine F.ok scLre (fun vs H Q E h => ?_) (fun cdv A outer s0 H vs Q E hr h => ?_)
  · obtain ⟨l, o, s, us, D, R, rfl, _⟩ := h
    rfl
  · obtain ⟨l, o, s, us, D, R, rfl, hl, pl, ho, h64, hR, ret⟩ := h
    refine ⟨_, (pss_cons (ps_set (i := 3) scLre.nd rfl (Or.inl rfl) (pe_lst pa_nil))
      (pss_cons (ps_if (pt_cmpR op_in_seq (pv 1) (pv 2) (by rfl))
      (pss_one (ps_expr (pe_bm PySem.F.plainAttrs_list PySem.F.slot_list_append PySem.F.type_list_append mt_append (pv 3) (pa_cons (pv 1) pa_nil))))
      pss_nil)
      (pss_cons (ps_for PassesOwn.never rfl (pi_range1 (by rfl) T.range (pa_cons (pe_callB call_len_seq (by rfl) T.len (by decide +kernel) (pa_cons (pv 2) pa_nil)) pa_nil)) (pg_name (i := 4) scLre.nd rfl (Or.inl rfl))
      (pss_cons (ps_set (i := 5) scLre.nd rfl (Or.inl rfl) (pe_callB call_len_seq (by rfl) T.len (by decide +kernel) (pa_cons (pv 3) pa_nil)))
        (pss_cons (ps_for PassesOwn.never rfl (pi_list (pv 0)) (pg_tup rfl (pgs_cons (pg_name (i := 6) scLre.nd rfl (Or.inl rfl)) (pgs_cons (pg_name (i := 7) scLre.nd rfl (Or.inl rfl)) pgs_nil)))
        (pss_cons (ps_if (PW.pt (pw_and (pt_cmpR op_in_seq (pv 6) (pv 3) (by rfl)) (pw_and (pt_cmpR op_in_seq (pv 7) (pv 2) (by rfl)) (pw_and1 (pt_cmpR op_notIn_seq (pv 7) (pv 3) (by rfl))))))
          (pss_one (ps_expr (pe_bm PySem.F.plainAttrs_list PySem.F.slot_list_append PySem.F.type_list_append mt_append (pv 3) (pa_cons (pv 7) pa_nil))))
          pss_nil)
          (pss_one (ps_if (PW.pt (pw_and (pt_cmpR op_in_seq (pv 7) (pv 3) (by rfl)) (pw_and (pt_cmpR op_in_seq (pv 6) (pv 2) (by rfl)) (pw_and1 (pt_cmpR op_notIn_seq (pv 6) (pv 3) (by rfl))))))
          (pss_one (ps_expr (pe_bm PySem.F.plainAttrs_list PySem.F.slot_list_append PySem.F.type_list_append mt_append (pv 3) (pa_cons (pv 6) pa_nil))))
          pss_nil))))
        (pss_one (ps_if (pt_cmpR op_eqI (pe_callB call_len_seq (by rfl) T.len (by decide +kernel) (pa_cons (pv 3) pa_nil)) (pv 5) (nomark _))
        (pss_one (ps_break))
        pss_nil)))))
      (pss_one (ps_ret (pe_callB cr_sorted (by rfl) T.sorted (by decide +kernel) (pa_cons (pv 3) pa_nil))))))), ?_⟩
    walk_at "rd"
    refine ⟨Nat.zero_le _, fun fnd nf => ?_⟩
    have s1 : Same H (upd H fnd (HO.lst [])) := same_upd nf
    refine ⟨o, _, rfl, ho.same s1, rfl, flI _, ?_⟩
    rw [inI]
    refine ⟨_, rfl, ?_⟩
    by_cases m : s ∈ R
    rw [decide_eq_true m]
    refine iteT ?_
    walk_at "rd"
    refine ⟨.inl ⟨rfl, _, SqL.of upd_same⟩, [], upd_same, by decide, ?_⟩
    have s2 : Same H (upd (upd H fnd (HO.lst [])) fnd (HO.lst ([] ++ [V.int s]))) := same_ch s1 nf
    have pk : ∃ F0 : List Int, upd (upd H fnd (HO.lst [])) fnd (HO.lst ([] ++ [V.int s])) fnd = some (.lst (F0.map V.int)) ∧ FInv D R s F0 :=
      ⟨[s], upd_same, (by simp), fun x hx => (by rw [List.mem_singleton.mp hx]; exact .base m), fun _ => List.mem_cons_self⟩
    generalize upd (upd H fnd (HO.lst [])) fnd (HO.lst ([] ++ [V.int s])) = H1 at s2 pk
    rotate_left
    rw [decide_eq_false m]
    refine iteF ?_
    have s2 := s1
    have pk : ∃ F0 : List Int, upd H fnd (HO.lst []) fnd = some (.lst (F0.map V.int)) ∧ FInv D R s F0 := ⟨[], upd_same, List.nodup_nil, fun x hx => (by cases hx), fun z => absurd z m⟩
    generalize upd H fnd (HO.lst []) = H1 at s1 s2 pk
    all_goals
      clear s1
      obtain ⟨F0, hF0, fi0⟩ := pk
      have ul : us.length = D.length := pl.len
      have flen : ∀ F : List Int, FInv D R s F → F.length ≤ R.length := fun F fi => int_sub_len fi.nd (fun x hx => (fi.rc x hx).mem) hR
      refine for_iterW ?_
      walk_at "rd"
      obtain ⟨Pv, hPv⟩ : ∃ Pv : Nat → L2.St → Hp → Prop, Pv = (fun i σ H' => ∃ (F : List Int) (v4 v5 v6 v7 : Option V), σ = [some (.ref l), some (.int s), some (.ref o), some (.ref fnd), v4, v5, v6, v7] ∧ Same H H' ∧ H' fnd = some (.lst (F.map V.int)) ∧ FInv D R s F ∧ i ≤ F.length) := ⟨_, rfl⟩
      refine ⟨R.map V.int, ho.same s2, by rw [List.length_map]; omega, by rw [List.length_map]; omega, for_range (lo := 0) (n := (((R.map V.int).length : Nat) : Int).toNat) Pv (by rw [hPv]; exact ⟨F0, none, none, none, none, rfl, s2, hF0, fi0, Nat.zero_le _⟩) (fun i σ H2 hi pv => ?body) (fun σ H2 pv => ?done)⟩
      case done =>
        rw [hPv] at pv
        obtain ⟨F, v4, v5, v6, v7, rfl, sm, hF, fi, le⟩ := pv
        rw [List.length_map, Int.toNat_natCast] at le
        have clo := fi.full hR le
        have fl := flen F fi
        walk_at "rd"
        refine ⟨_, F, rfl, SqL.of hF, by omega, fun ys t pm so nt => ?_⟩
        exact ret ys t _ ⟨up_of pm fi.nd so, fun x => pm.mem_iff.trans (fi.all clo x)⟩ (sm.trans (same_upd nt)) (sm.free nt) upd_same
      case body =>
        rw [hPv] at pv
        obtain ⟨F, v4, v5, v6, v7, rfl, sm, hF, fi, le⟩ := pv
        have hl2 := sm _ _ hl
        have pl2 := pl.kt (KT.same sm)
        walk_at "rg"
        refine ⟨_, rfl, fnd, rfl, F.map V.int, .inl (SqL.of hF), ?_⟩
        walk_at "rg"
        refine for_iterW ?_
        obtain ⟨Pw, hPw⟩ : ∃ Pw : Nat → L2.St → Hp → Prop, Pw = (fun j σ H' => ∃ (G : List Int) (v6 v7 : Option V), σ = [some (.ref l), some (.int s), some (.ref o), some (.ref fnd), some (.int (0 + (i : Int))), some (.int ((F.map V.int).length : Nat)), v6, v7] ∧ Same H H' ∧ H' fnd = some (.lst ((F ++ G).map V.int)) ∧ FInv D R s (F ++ G) ∧ (G = [] → Cl1 R F (D.take j))) := ⟨_, rfl⟩
        refine ⟨_, rfl, l, rfl, ⟨_, SqL.of hl2⟩, for_list (K := K) (a := l) (xs := us) Pw (by rw [hPw]; exact ⟨[], v6, v7, rfl, sm, by rw [List.append_nil]; exact hF, by rw [List.append_nil]; exact fi, fun _ d hd => by rw [List.take_zero] at hd; cases hd⟩) (fun j σ H' _ pv => by rw [hPw] at pv; obtain ⟨_, _, _, _, s5, _⟩ := pv; exact SqL.of (s5 _ _ hl)) (fun j v σ H3 gv pv => ?inner) (fun σ H3 pv => ?after)⟩
        case after =>
          rw [hPw] at pv
          obtain ⟨G, v6, v7, rfl, s5, hG, fi5, cl5⟩ := pv
          rw [ul, List.take_length] at cl5
          have fl := flen _ fi5
          rw [List.length_append] at fl
          walk_at "rd"
          refine ⟨_, .inl (SqL.of hG), ?_⟩
          rw [List.length_map, List.length_map, List.length_append]
          cases G with
          | nil =>
            rw [List.append_nil] at hG fi5
            refine ite2 (fun _ => ?_) (fun z => (by simp at z))
            refine ⟨_, F, rfl, SqL.of hG, by omega, fun ys t pm so nt => ?_⟩
            exact ret ys t _ ⟨up_of pm fi5.nd so, fun x => pm.mem_iff.trans (fi5.all (cl5 rfl).clo x)⟩ (s5.trans (same_upd nt)) (s5.free nt) upd_same
          | cons g0 G =>
            refine ite2 (fun z => absurd z (by rw [List.length_cons]; omega)) (fun _ => ?_)
            rw [hPv]
            exact ⟨F ++ g0 :: G, _, _, _, _, rfl, s5, hG, fi5, by rw [List.length_append, List.length_cons]; omega⟩
        case inner =>
          have nxt : ∀ (G : List Int) (v6 v7 : Option V) (H' : Hp), Same H H' → H' fnd = some (.lst ((F ++ G).map V.int)) → FInv D R s (F ++ G) → (G = [] → Cl1 R F (D.take (j + 1))) → Pw (j + 1) [some (.ref l), some (.int s), some (.ref o), some (.ref fnd), some (.int (0 + (i : Int))), some (.int ((F.map V.int).length : Nat)), v6, v7] H' := fun G v6 v7 H' h1 h2 h3 h4 => by
            rw [hPw]
            exact ⟨G, v6, v7, rfl, h1, h2, h3, h4⟩
          rw [hPw] at pv
          obtain ⟨G, v6, v7, rfl, s5, hG, fi5, cl5⟩ := pv
          obtain ⟨d, gd, td, rfl, htd⟩ := lget pl gv
          have fl := flen _ fi5
          have dD : d ∈ D := List.mem_of_getElem? gd
          have tk : D.take (j + 1) = D.take j ++ [d] := by rw [List.take_add_one, gd]; rfl
          rw [tk] at nxt
          walk_at "rg"
          refine ⟨_, SqT.of (s5 _ _ htd), rfl, _, _, rfl, _, _, rfl, rfl, ?_⟩
          walk_at "rg"
          refine half (R := R) rfl rfl rfl rfl hG (ho.same s5) (by omega) (fun n1 => ?_) (fun a1 b1 c1 => ?_)
          · refine half (R := R) rfl rfl rfl rfl hG (ho.same s5) (by omega) (fun n2 => ?_) (fun a2 b2 c2 => ?_)
            · refine nxt G _ _ H3 s5 hG fi5 fun e => ?_
              subst e
              rw [List.append_nil] at n1 n2
              intro c hc
              rcases List.mem_append.mp hc with z | z
              · exact cl5 rfl c z
              · rw [List.mem_singleton.mp z]
                exact ⟨fun h1 h2 => Classical.byContradiction fun h3 => n1 ⟨h1, h2, h3⟩, fun h1 h2 => Classical.byContradiction fun h3 => n2 ⟨h1, h2, h3⟩⟩
            · rw [List.append_assoc]
              refine nxt (G ++ [d.1]) _ _ _ (same_ch s5 nf) (by rw [upd_same]) ?_ (fun e => absurd e (by simp))
              rw [← List.append_assoc]
              exact fi5.add a2 b2 (.inr dD) c2
          · have fi6 := fi5.add a1 b1 (.inl dD) c1
            have fl6 := flen _ fi6
            have s6 := same_ch (o := HO.lst ((F ++ G ++ [d.2]).map V.int)) s5 nf
            have hG6 : upd H3 fnd (HO.lst ((F ++ G ++ [d.2]).map V.int)) fnd = some (.lst ((F ++ G ++ [d.2]).map V.int)) := upd_same
            generalize upd H3 fnd (HO.lst ((F ++ G ++ [d.2]).map V.int)) = H6 at s6 hG6
            refine half (R := R) rfl rfl rfl rfl hG6 (ho.same s6) (by omega) (fun n2 => ?_) (fun a2 b2 c2 => ?_)
            · refine nxt (G ++ [d.2]) _ _ H6 s6 (by rw [← List.append_assoc]; exact hG6) (by rw [← List.append_assoc]; exact fi6) (fun e => absurd e (by simp))
            · rw [List.append_assoc, List.append_assoc]
              refine nxt (G ++ ([d.2] ++ [d.1])) _ _ _ (same_ch s6 nf) (by rw [upd_same]) ?_ (fun e => absurd e (by simp))
              rw [← List.append_assoc, ← List.append_assoc]
              exact fi6.add a2 b2 (.inr dD) c2
theorem scLpc : FnScope ["doors", "rooms", "found", "done", "room", "piece"] ["doors", "rooms"] (defScope sLpc) := ⟨rfl, rfl, rfl, by decide +kernel, rfl, by decide +kernel, by decide +kernel⟩
def spLpc (K : PySem.W.Frag) : Sp := fun vs H Q _ => ∃ (l o : Addr) (us : List V) (D : List Pr) (R : List Int), vs = [.ref l, .ref o] ∧ H l = some (.lst us) ∧ PL H us D ∧ SeqI K H o R ∧ R.length < 64 ∧ (∀ x ∈ R, 0 ≤ x) ∧
  ∀ (L : List (List Int)) (ws : List V) (t : Addr) (H' : Hp), Pcs D R L → Same H H' → H t = none → H' t = some (.lst ws) → RL H' ws L → Q (.ref t) H'
theorem ok_lpc {f fR : Addr} {fd fdR : FuncData} (F : Fun K "_law_pieces" "_law_pieces" sLpc f fd) (T : Bi mg) (d__law_reach : Df P w K mg base "_law_reach" ["doors", "start", "inside"] 1 (spLre K) fR fdR) : FnOk P w K mg base CX0 2 f fd ["doors", "rooms"] (spLpc K) := by
  refine F.ok scLpc (fun vs H Q E h => ?_) (fun cdv A outer s0 H vs Q E hr h => ?_)
  · obtain ⟨l, o, us, D, R, rfl, _⟩ := h
    rfl
  · obtain ⟨l, o, us, D, R, rfl, hl, pl, ho, h64, hR, ret⟩ := h
    refine ⟨_, (pss_cons (ps_set (i := 2) scLpc.nd rfl (Or.inl rfl) (pe_lst pa_nil))
      (pss_cons (ps_set (i := 3) scLpc.nd rfl (Or.inl rfl) (pe_lst pa_nil))
      (pss_cons (ps_for PassesOwn.never rfl (pi_list (pe_callB cr_sortTup (by rfl) T.sorted (by decide +kernel) (pa_cons (pv 1) pa_nil))) (pg_name (i := 4) scLpc.nd rfl (Or.inl rfl))
      (pss_one (ps_if (pt_cmpR op_notIn_seq (pv 4) (pv 3) (by rfl))
        (pss_cons (ps_set (i := 5) scLpc.nd rfl (Or.inl rfl) (pe_call d__law_reach.ok (hr.mono (by decide)) (by rfl) d__law_reach.at_ d__law_reach.kp d__law_reach.b .nil pass0 (pa_cons (pv 0) (pa_cons (pv 4) (pa_cons (pv 1) pa_nil)))))
          (pss_cons (ps_expr (pe_bm PySem.F.plainAttrs_list PySem.F.slot_list_extend PySem.F.type_list_extend mt_extend (pv 3) (pa_cons (pv 5) pa_nil)))
          (pss_one (ps_expr (pe_bm PySem.F.plainAttrs_list PySem.F.slot_list_append PySem.F.type_list_append mt_append (pv 2) (pa_cons (pe_callTy call_tuple_of (by rfl) T.tuple (by decide +kernel) (pa_cons (pv 5) pa_nil)) pa_nil))))))
        pss_nil)))
      (pss_one (ps_ret (pv 2)))))), ?_⟩
    walk_at "rd"
    refine ⟨Nat.zero_le _, fun fnd nf => ⟨Nat.zero_le _, fun dn nd => ?_⟩⟩
    have s1 : Same H (upd (upd H fnd (HO.lst [])) dn (HO.lst [])) := (same_upd nf).trans (same_upd nd)
    have hf1 : upd (upd H fnd (HO.lst [])) dn (HO.lst []) fnd = some (.lst []) := same_upd nd _ _ upd_same
    have hd1 : upd (upd H fnd (HO.lst [])) dn (HO.lst []) dn = some (.lst []) := upd_same
    have nd0 : H dn = none := (same_upd nf).free nd
    have nfd : fnd ≠ dn := ne_of_none upd_same nd
    generalize upd (upd H fnd (HO.lst [])) dn (HO.lst []) = H1 at s1 hf1 hd1
    refine for_iterW ?_
    walk_at "rd"
    refine ⟨o, R, rfl, ho.same s1, h64, fun S lf0 pS sS nl0 => ?_⟩
    have s2 := s1.trans (same_upd (o := HO.lst (S.map V.int)) nl0)
    have hf2 : upd H1 lf0 (HO.lst (S.map V.int)) fnd = some (.lst []) := same_upd nl0 _ _ hf1
    have hd2 : upd H1 lf0 (HO.lst (S.map V.int)) dn = some (.lst []) := same_upd nl0 _ _ hd1
    have hS2 : upd H1 lf0 (HO.lst (S.map V.int)) lf0 = some (.lst (S.map V.int)) := upd_same
    have nlf : fnd ≠ lf0 := ne_of_none hf1 nl0
    have nld : dn ≠ lf0 := ne_of_none hd1 nl0
    generalize upd H1 lf0 (HO.lst (S.map V.int)) = H2 at s2 hf2 hd2 hS2
    have sl : S.length < 64 := by rw [pS.length_eq]; exact h64
    have smm : ∀ x, x ∈ S ↔ x ∈ R := fun x => pS.mem_iff
    obtain ⟨Pv, hPv⟩ : ∃ Pv : Nat → L2.St → Hp → Prop, Pv = (fun j σ H' => ∃ (L : List (List Int)) (ws : List V) (dd : List Int) (v4 v5 : Option V), σ = [some (.ref l), some (.ref o), some (.ref fnd), some (.ref dn), v4, v5] ∧ Same H H' ∧ H' fnd = some (.lst ws) ∧ RL H' ws L ∧ H' dn = some (.lst (dd.map V.int)) ∧ H' lf0 = some (.lst (S.map V.int)) ∧ LInv D R S j L dd ∧ L.length ≤ j ∧ dd.length ≤ 64 * j) := ⟨_, rfl⟩
    refine ⟨lf0, rfl, ⟨_, SqL.of hS2⟩, for_list (K := K) (a := lf0) (xs := S.map V.int) Pv (by rw [hPv]; exact ⟨[], [], [], none, none, rfl, s2, hf2, RL.nil0 _, hd2, hS2, LInv.start D R S, Nat.le_refl _, Nat.zero_le _⟩) (fun j σ H' _ pv => by rw [hPv] at pv; obtain ⟨_, _, _, _, _, _, _, _, _, _, hS, _⟩ := pv; exact SqL.of hS) (fun j v σ H3 gv pv => ?body) (fun σ H3 pv => ?done)⟩
    case done =>
      rw [hPv] at pv
      obtain ⟨L, ws, dd, v4, v5, rfl, sm, hf, rl, hd, hS, li, _, _⟩ := pv
      rw [List.length_map] at li
      walk_at "rd"
      exact ret L ws fnd H3 (li.fin smm) sm nf hf rl
    case body =>
      have nxt : ∀ (L : List (List Int)) (ws : List V) (dd : List Int) (v4 v5 : Option V) (H' : Hp), Same H H' → H' fnd = some (.lst ws) → RL H' ws L → H' dn = some (.lst (dd.map V.int)) → H' lf0 = some (.lst (S.map V.int)) → LInv D R S (j + 1) L dd → L.length ≤ j + 1 → dd.length ≤ 64 * (j + 1) → Pv (j + 1) [some (.ref l), some (.ref o), some (.ref fnd), some (.ref dn), v4, v5] H' := fun L ws dd v4 v5 H' h1 h2 h3 h4 h5 h6 h7 h8 => by
        rw [hPv]
        exact ⟨L, ws, dd, v4, v5, rfl, h1, h2, h3, h4, h5, h6, h7, h8⟩
      rw [hPv] at pv
      obtain ⟨L, ws, dd, v4, v5, rfl, sm, hf, rl, hd, hS, li, ll, dl⟩ := pv
      rw [List.getElem?_map] at gv
      cases gd : S[j]? with
      | none => rw [gd] at gv; cases gv
      | some x =>
        rw [gd] at gv
        have ev := Option.some.inj gv
        subst ev
        have hj : j < S.length := (List.getElem?_eq_some_iff.mp gd).1
        walk_at "rd"
        refine ⟨dn, _, rfl, .inl (SqL.of hd), rfl, flI _, ?_⟩
        rw [inI]
        refine ⟨_, rfl, ?_⟩
        by_cases m : x ∈ dd
        · rw [decide_eq_true m]
          refine iteF ?_
          exact nxt L ws dd _ _ H3 sm hf rl hd hS (li.skip gd m) (by omega) (by omega)
        · rw [decide_eq_false m]
          refine iteT ?_
          refine ⟨l, o, x, us, D, R, rfl, sm _ _ hl, pl.kt (KT.same sm), ho.same sm, h64, hR, fun ys t H4 pc s4 nt ht => ?_⟩
          walk_at "rd"
          have yl : ys.length ≤ R.length := int_sub_len (List.Pairwise.imp (fun h => by omega) pc.1) (fun y hy => ((pc.2 y).mp hy).mem) hR
          have hd4 := s4 _ _ hd
          have hf4 := s4 _ _ hf
          have hS4 := s4 _ _ hS
          have rl4 := rl.kt (KT.same s4)
          have s04 := sm.trans s4
          have tdn : t ≠ dn := (ne_of_none hd nt).symm
          have nd0' := nd0
          refine ⟨.inl ⟨rfl, _, SqL.of hd4⟩, _, hd4, _, ht, Nat.le_of_lt (len_big (by rw [List.length_map, List.length_map]; omega)), ?_⟩
          have s5 := same_ch (o := HO.lst (dd.map V.int ++ ys.map V.int)) s04 nd0
          have hf5 : upd H4 dn (HO.lst (dd.map V.int ++ ys.map V.int)) fnd = some (.lst ws) := by rw [upd_ne nfd]; exact hf4
          have ht5 : upd H4 dn (HO.lst (dd.map V.int ++ ys.map V.int)) t = some (.lst (ys.map V.int)) := by rw [upd_ne tdn]; exact ht
          have hS5 : upd H4 dn (HO.lst (dd.map V.int ++ ys.map V.int)) lf0 = some (.lst (S.map V.int)) := by rw [upd_ne nld.symm]; exact hS4
          have hd5 : upd H4 dn (HO.lst (dd.map V.int ++ ys.map V.int)) dn = some (.lst ((dd ++ ys).map V.int)) := by rw [upd_same, List.map_append]
          have rl5 : RL (upd H4 dn (HO.lst (dd.map V.int ++ ys.map V.int))) ws L := rl4.kt (KT.lst hd4)
          generalize upd H4 dn (HO.lst (dd.map V.int ++ ys.map V.int)) = H5 at s5 hf5 ht5 hS5 hd5 rl5
          refine ⟨.inl ⟨rfl, _, SqL.of hf5⟩, _, .inl ⟨SqL.of ht5, fun t2 nt2 => ?_⟩⟩
          have s6 := s5.trans (same_upd (o := HO.tup (ys.map V.int)) nt2)
          have hf6 : upd H5 t2 (HO.tup (ys.map V.int)) fnd = some (.lst ws) := same_upd nt2 _ _ hf5
          have ht6 : upd H5 t2 (HO.tup (ys.map V.int)) t2 = some (.tup (ys.map V.int)) := upd_same
          refine ⟨ws, hf6, len_big (by rw [rl.len]; omega), nxt (L ++ [ys]) (ws ++ [.ref t2]) (dd ++ ys) _ _ _ (same_ch s6 nf) upd_same ?_ ?_ ?_ (li.step gd smm sS m pc) (by rw [List.length_append]; show L.length + 1 ≤ j + 1; omega) (by rw [List.length_append]; omega)⟩
          · exact RL.snoc ((rl5.kt (KT.new nt2)).kt (KT.lst hf6)) ⟨t2, rfl, by rw [upd_ne (ne_of ht6 hf6 (by intro z; cases z))]; exact ht6⟩
          · rw [upd_ne nfd.symm]
            exact same_upd nt2 _ _ hd5
          · rw [upd_ne nlf.symm]
            exact same_upd nt2 _ _ hS5
end

theorem nearF_lt {i : Int} {D : List Pr} (asc : Asc D) (ok : ∀ d ∈ D, d.1 < d.2) : (nearF i D).Pairwise (· < ·) := by
  unfold nearF
  refine List.Pairwise.filterMap _ (fun d e h b hb c hc => ?_) (List.Pairwise.imp_of_mem (fun {x y} hx hy h => (⟨h, ok x hx, ok y hy⟩ : lt2 x y ∧ x.1 < x.2 ∧ y.1 < y.2)) asc)
  obtain ⟨h, h1, h2⟩ := h
  unfold lt2 at h
  by_cases c1 : d.1 = i
  · rw [if_pos c1] at hb
    have eb := Option.some.inj hb
    by_cases c2 : e.1 = i
    · rw [if_pos c2] at hc
      have ec := Option.some.inj hc
      omega
    · rw [if_neg c2] at hc
      by_cases c3 : e.2 = i
      · rw [if_pos c3] at hc
        have ec := Option.some.inj hc
        omega
      · rw [if_neg c3] at hc
        cases hc
  · rw [if_neg c1] at hb
    by_cases c4 : d.2 = i
    · rw [if_pos c4] at hb
      have eb := Option.some.inj hb
      by_cases c2 : e.1 = i
      · rw [if_pos c2] at hc
        have ec := Option.some.inj hc
        omega
      · rw [if_neg c2] at hc
        by_cases c3 : e.2 = i
        · rw [if_pos c3] at hc
          have ec := Option.some.inj hc
          omega
        · rw [if_neg c3] at hc
          cases hc
    · rw [if_neg c4] at hb
      cases hb
/-! ### least paths -/
def ltL : List Int → List Int → Prop
  | [], [] => False
  | [], _ :: _ => True
  | _ :: _, [] => False
  | a :: s, b :: t => a < b ∨ (a = b ∧ ltL s t)
theorem ltL_irr : ∀ p, ¬ ltL p p
  | [], h => h
  | a :: s, h => by
    rcases h with h | ⟨_, h⟩
    · omega
    · exact ltL_irr s h
theorem ltL_trans : ∀ {p q r}, ltL p q → ltL q r → ltL p r
  | [], [], _, h, _ => h.elim
  | [], _ :: _, [], _, k => k.elim
  | [], _ :: _, _ :: _, _, _ => trivial
  | _ :: _, [], _, h, _ => h.elim
  | _ :: _, _ :: _, [], _, k => k.elim
  | a :: s, b :: t, c :: u, h, k => by
    rcases h with h | ⟨h1, h2⟩
    · rcases k with k | ⟨k1, k2⟩
      · exact .inl (by omega)
      · exact .inl (by omega)
    · rcases k with k | ⟨k1, k2⟩
      · exact .inl (by omega)
      · exact .inr ⟨by omega, ltL_trans h2 k2⟩
theorem ltL_tri : ∀ p q, p = q ∨ ltL p q ∨ ltL q p
  | [], [] => .inl rfl
  | [], _ :: _ => .inr (.inl trivial)
  | _ :: _, [] => .inr (.inr trivial)
  | a :: s, b :: t => by
    rcases Int.lt_trichotomy a b with h | h | h
    · exact .inr (.inl (.inl h))
    · subst h
      rcases ltL_tri s t with e | e | e
      · exact .inl (by rw [e])
      · exact .inr (.inl (.inr ⟨rfl, e⟩))
      · exact .inr (.inr (.inr ⟨rfl, e⟩))
    · exact .inr (.inr (.inl h))
theorem ltL_app : ∀ {p q : List Int} (x y : List Int), p.length = q.length → ltL p q → ltL (p ++ x) (q ++ y)
  | [], [], _, _, _, h => h.elim
  | [], _ :: _, _, _, e, _ => by cases e
  | _ :: _, [], _, _, e, _ => by cases e
  | a :: s, b :: t, x, y, e, h => by
    rcases h with h | ⟨h1, h2⟩
    · exact .inl h
    · exact .inr ⟨h1, ltL_app x y (Nat.succ.inj e) h2⟩
theorem ltL_last : ∀ (p : List Int) {x y : Int}, x < y → ltL (p ++ [x]) (p ++ [y])
  | [], _, _, h => .inl h
  | a :: s, _, _, h => .inr ⟨rfl, ltL_last s h⟩
/-- fewer rooms, or as many and less -/
def slt (p q : List Int) : Prop := p.length < q.length ∨ (p.length = q.length ∧ ltL p q)
theorem slt_irr (p : List Int) : ¬ slt p p := fun h => by
  rcases h with h | ⟨_, h⟩
  · omega
  · exact ltL_irr p h
theorem slt_trans {p q r : List Int} (h : slt p q) (k : slt q r) : slt p r := by
  rcases h with h | ⟨h1, h2⟩ <;> rcases k with k | ⟨k1, k2⟩
  · exact .inl (by omega)
  · exact .inl (by omega)
  · exact .inl (by omega)
  · exact .inr ⟨by omega, ltL_trans h2 k2⟩
theorem slt_tri (p q : List Int) : p = q ∨ slt p q ∨ slt q p := by
  rcases Nat.lt_trichotomy p.length q.length with h | h | h
  · exact .inr (.inl (.inl h))
  · rcases ltL_tri p q with e | e | e
    · exact .inl e
    · exact .inr (.inl (.inr ⟨h, e⟩))
    · exact .inr (.inr (.inr ⟨h.symm, e⟩))
  · exact .inr (.inr (.inl h))
theorem slt_app {p q : List Int} (x y : Int) (h : slt p q) : slt (p ++ [x]) (q ++ [y]) := by
  rcases h with h | ⟨h1, h2⟩
  · exact .inl (by rw [List.length_append, List.length_append]; exact Nat.add_lt_add_right h 1)
  · exact .inr ⟨by rw [List.length_append, List.length_append, h1]; rfl, ltL_app [x] [y] h1 h2⟩
theorem slt_last (p : List Int) {x y : Int} (h : x < y) : slt (p ++ [x]) (p ++ [y]) := .inr ⟨by rw [List.length_append, List.length_append]; rfl, ltL_last p h⟩
def sle (p q : List Int) : Prop := p = q ∨ slt p q
theorem sle_trans {p q r : List Int} (h : sle p q) (k : sle q r) : sle p r := by
  rcases h with h | h
  · rw [h]; exact k
  · rcases k with k | k
    · rw [← k]; exact .inr h
    · exact .inr (slt_trans h k)
theorem sle_len {p q : List Int} (h : sle p q) : p.length ≤ q.length := by
  rcases h with h | h | h
  · rw [h]; exact Nat.le_refl _
  · omega
  · omega
theorem sle_app {p q : List Int} (x : Int) (h : sle p q) : sle (p ++ [x]) (q ++ [x]) := by
  rcases h with h | h
  · exact .inl (by rw [h])
  · exact .inr (slt_app x x h)
theorem sle_anti {p q : List Int} (h : sle p q) (k : sle q p) : p = q := by
  rcases h with h | h
  · exact h
  · rcases k with k | k
    · exact k.symm
    · exact (slt_irr _ (slt_trans h k)).elim
theorem sle_of_len {p q : List Int} (h : p.length < q.length) : sle p q := .inr (.inl h)
inductive Pth (D : List Pr) (R : List Int) (s : Int) : Int → List Int → Prop
  | base : s ∈ R → Pth D R s s [s]
  | step {a b : Int} {p : List Int} : Pth D R s a p → Adj D a b → b ∈ R → Pth D R s b (p ++ [b])
theorem Pth.mem {D : List Pr} {R : List Int} {s x : Int} {p : List Int} (h : Pth D R s x p) : x ∈ R := by
  cases h with
  | base h => exact h
  | step _ _ h => exact h
theorem Pth.start {D : List Pr} {R : List Int} {s x : Int} {p : List Int} (h : Pth D R s x p) : s ∈ R := by
  induction h with
  | base h => exact h
  | step _ _ _ ih => exact ih
theorem Pth.ne {D : List Pr} {R : List Int} {s x : Int} {p : List Int} (h : Pth D R s x p) : 1 ≤ p.length := by
  cases h with
  | base h => exact Nat.le_refl _
  | step _ _ h => rw [List.length_append]; exact Nat.le_add_left _ _
theorem Pth.one {D : List Pr} {R : List Int} {s x : Int} {p : List Int} (h : Pth D R s x p) (l : p.length ≤ 1) : x = s ∧ p = [s] := by
  cases h with
  | base h => exact ⟨rfl, rfl⟩
  | step k _ h =>
    rw [List.length_append] at l
    have := k.ne
    have l2 : _ + 1 ≤ 1 := l
    omega
theorem Pth.inR {D : List Pr} {R : List Int} {s x : Int} {p : List Int} (h : Pth D R s x p) : ∀ y ∈ p, y ∈ R := by
  induction h with
  | base h => intro y hy; rw [List.mem_singleton.mp hy]; exact h
  | step _ _ h ih =>
    intro y hy
    rcases List.mem_append.mp hy with m | m
    · exact ih y m
    · rw [List.mem_singleton.mp m]; exact h
/-- the first path -/
def Lst (D : List Pr) (R : List Int) (s x : Int) (p : List Int) : Prop := Pth D R s x p ∧ ∀ q, Pth D R s x q → sle p q
theorem Lst.uniq {D : List Pr} {R : List Int} {s x : Int} {p q : List Int} (h : Lst D R s x p) (k : Lst D R s x q) : p = q := sle_anti (h.2 _ k.1) (k.2 _ h.1)
abbrev En := Int × List Int
def keysE (L : List En) : List Int := L.map (·.1)
theorem keysE_mem {L : List En} {x : Int} {p : List Int} (h : (x, p) ∈ L) : x ∈ keysE L := List.mem_map.mpr ⟨_, h, rfl⟩
theorem of_keysE {L : List En} {x : Int} (h : x ∈ keysE L) : ∃ p, (x, p) ∈ L := by
  obtain ⟨e, m, rfl⟩ := List.mem_map.mp h
  exact ⟨e.2, m⟩
/-- all first paths -/
structure AllP (D : List Pr) (R : List Int) (s : Int) (L : List En) : Prop where
  nd : (keysE L).Nodup
  le : ∀ e ∈ L, Lst D R s e.1 e.2
  all : ∀ x p, Pth D R s x p → x ∈ keysE L
theorem AllP.get {D : List Pr} {R : List Int} {s x : Int} {p : List Int} {L : List En} (h : AllP D R s L) : (x, p) ∈ L ↔ Lst D R s x p := by
  constructor
  · exact fun m => h.le _ m
  · intro k
    obtain ⟨q, m⟩ := of_keysE (h.all x p k.1)
    rw [k.uniq (h.le _ m)]
    exact m
theorem AllP.no {D : List Pr} {R : List Int} {s x : Int} {L : List En} (h : AllP D R s L) : x ∉ keysE L ↔ ∀ p, ¬ Pth D R s x p := by
  constructor
  · exact fun m p k => m (h.all x p k)
  · intro k m
    obtain ⟨q, m⟩ := of_keysE m
    exact k _ (h.le _ m).1
/-- in the midst of the search: A done, a at work (its neighbours N already seen), W waiting -/
structure BIn (D : List Pr) (R : List Int) (s : Int) (A : List En) (a : En) (W : List En) (N : List Int) : Prop where
  nd : (keysE (A ++ a :: W)).Nodup
  le : ∀ e ∈ A ++ a :: W, Lst D R s e.1 e.2
  srt : (A ++ a :: W).Pairwise fun e f => slt e.2 f.2
  cl : ∀ e ∈ A, ∀ b ∈ R, Adj D e.1 b → b ∈ keysE (A ++ a :: W)
  cn : ∀ b ∈ N, b ∈ R → b ∈ keysE (A ++ a :: W)
  st : s ∈ keysE (A ++ a :: W)
  par : ∀ e ∈ A ++ a :: W, e.2.length = 1 ∨ (∃ c ∈ A, ∃ b, e.2 = c.2 ++ [b]) ∨ ∃ b ∈ N, e.2 = a.2 ++ [b]
/-- between two rooms at work -/
structure BOut (D : List Pr) (R : List Int) (s : Int) (A W : List En) : Prop where
  nd : (keysE (A ++ W)).Nodup
  le : ∀ e ∈ A ++ W, Lst D R s e.1 e.2
  srt : (A ++ W).Pairwise fun e f => slt e.2 f.2
  cl : ∀ e ∈ A, ∀ b ∈ R, Adj D e.1 b → b ∈ keysE (A ++ W)
  st : s ∈ R → s ∈ keysE (A ++ W)
  par : ∀ e ∈ A ++ W, e.2.length = 1 ∨ ∃ c ∈ A, ∃ b, e.2 = c.2 ++ [b]
theorem BOut.go {D : List Pr} {R : List Int} {s : Int} {A W : List En} {a : En} (h : BOut D R s A (a :: W)) : BIn D R s A a W [] :=
  ⟨h.nd, h.le, h.srt, h.cl, fun b m => (by cases m), h.st (h.le a (by simp)).1.start, fun e m => (h.par e m).imp id Or.inl⟩
theorem BIn.done {D : List Pr} {R : List Int} {s : Int} {A W : List En} {a : En} {N : List Int} (h : BIn D R s A a W N) (n : ∀ b ∈ R, Adj D a.1 b → b ∈ N) : BOut D R s (A ++ [a]) W := by
  have e : A ++ [a] ++ W = A ++ a :: W := by rw [List.append_assoc]; rfl
  refine ⟨by rw [e]; exact h.nd, by rw [e]; exact h.le, by rw [e]; exact h.srt, ?_, fun _ => by rw [e]; exact h.st, ?_⟩
  · rw [e]
    intro c hc b hb ab
    rcases List.mem_append.mp hc with m | m
    · exact h.cl c m b hb ab
    · rw [List.mem_singleton.mp m] at ab
      exact h.cn b (n b hb ab) hb
  · rw [e]
    intro f hf
    rcases h.par f hf with m | ⟨c, hc, b, e2⟩ | ⟨b, _, e2⟩
    · exact .inl m
    · exact .inr ⟨c, List.mem_append_left _ hc, b, e2⟩
    · exact .inr ⟨a, by simp, b, e2⟩
theorem BIn.skip {D : List Pr} {R : List Int} {s : Int} {A W : List En} {a : En} {N : List Int} {b : Int} (h : BIn D R s A a W N) (k : b ∈ R → b ∈ keysE (A ++ a :: W)) : BIn D R s A a W (N ++ [b]) :=
  ⟨h.nd, h.le, h.srt, h.cl, fun c m hc => (by
    rcases List.mem_append.mp m with m | m
    · exact h.cn c m hc
    · have := List.mem_singleton.mp m
      subst this
      exact k hc), h.st, fun e m => by
    rcases h.par e m with m | m | ⟨b, hb, e2⟩
    · exact .inl m
    · exact .inr (.inl m)
    · exact .inr (.inr ⟨b, List.mem_append_left _ hb, e2⟩)⟩
/-- a path that leaves what is done goes through a room that waits -/
theorem BIn.front {D : List Pr} {R : List Int} {s : Int} {A W : List En} {a : En} {N : List Int} (h : BIn D R s A a W N) {c : Int} {q : List Int} (k : Pth D R s c q) (n : c ∉ keysE A) : sle a.2 q := by
  have key : ∀ {c : Int} {q : List Int}, Pth D R s c q → c ∉ keysE A → ∃ e ∈ a :: W, ∃ q', Pth D R s e.1 q' ∧ (q' = q ∨ q'.length < q.length) := by
    intro c q k
    have inK : ∀ x, x ∈ keysE (A ++ a :: W) → x ∉ keysE A → ∃ e ∈ a :: W, e.1 = x := by
      intro x hx hn
      obtain ⟨p, hp⟩ := of_keysE hx
      rcases List.mem_append.mp hp with m | m
      · exact absurd (keysE_mem m) hn
      · exact ⟨_, m, rfl⟩
    induction k with
    | base hs =>
      intro n
      obtain ⟨e, he, rfl⟩ := inK _ h.st n
      exact ⟨e, he, _, .base hs, .inl rfl⟩
    | @step x y p k ab hb ih =>
      intro n
      by_cases m : x ∈ keysE A
      · obtain ⟨p', hp'⟩ := of_keysE m
        obtain ⟨e, he, rfl⟩ := inK _ (h.cl _ hp' _ hb ab) n
        exact ⟨e, he, _, k.step ab hb, .inl rfl⟩
      · obtain ⟨e, he, q', h1, h2⟩ := ih m
        refine ⟨e, he, q', h1, .inr ?_⟩
        rw [List.length_append]
        show _ < _ + 1
        rcases h2 with h2 | h2
        · rw [h2]; omega
        · omega
  obtain ⟨e, he, q', h1, h2⟩ := key k n
  have l1 : sle e.2 q' := (h.le e (List.mem_append_right _ he)).2 _ h1
  have l2 : sle a.2 e.2 := by
    rcases List.mem_cons.mp he with m | m
    · rw [m]; exact .inl rfl
    · exact .inr ((List.pairwise_cons.mp (List.pairwise_append.mp h.srt).2.1).1 e m)
  refine sle_trans l2 (sle_trans l1 ?_)
  rcases h2 with h2 | h2
  · exact .inl h2
  · exact sle_of_len h2
theorem BIn.add {D : List Pr} {R : List Int} {s : Int} {A W : List En} {a : En} {N : List Int} {b : Int} (h : BIn D R s A a W N) (ab : Adj D a.1 b) (bR : b ∈ R) (bn : b ∉ keysE (A ++ a :: W)) (up : ∀ c ∈ N, c < b) : BIn D R s A a (W ++ [(b, a.2 ++ [b])]) (N ++ [b]) := by
  have e : A ++ a :: (W ++ [(b, a.2 ++ [b])]) = (A ++ a :: W) ++ [(b, a.2 ++ [b])] := by rw [List.append_assoc]; rfl
  have ke : keysE (A ++ a :: (W ++ [(b, a.2 ++ [b])])) = keysE (A ++ a :: W) ++ [b] := by rw [e]; unfold keysE; rw [List.map_append]; rfl
  have aL := h.le a (by simp)
  have new : Lst D R s b (a.2 ++ [b]) := by
    refine ⟨aL.1.step ab bR, fun q k => ?_⟩
    cases k with
    | base _ => exact absurd h.st bn
    | @step c _ p k cb _ =>
      refine sle_app b (h.front k fun m => ?_)
      obtain ⟨p', hp'⟩ := of_keysE m
      exact bn (h.cl _ hp' _ bR cb)
  refine ⟨?_, ?_, ?_, ?_, ?_, ?_, ?_⟩
  · rw [ke]
    refine List.nodup_append.mpr ⟨h.nd, List.pairwise_singleton _ _, fun x hx y hy e => ?_⟩
    rw [List.mem_singleton.mp hy] at e
    rw [e] at hx
    exact bn hx
  · rw [e]
    intro f hf
    rcases List.mem_append.mp hf with m | m
    · exact h.le f m
    · rw [List.mem_singleton.mp m]; exact new
  · rw [e]
    refine List.pairwise_append.mpr ⟨h.srt, List.pairwise_singleton _ _, fun f hf g hg => ?_⟩
    rw [List.mem_singleton.mp hg]
    show slt f.2 (a.2 ++ [b])
    rcases h.par f hf with m | ⟨c, hc, x, e2⟩ | ⟨x, hx, e2⟩
    · refine .inl ?_
      have := aL.1.ne
      rw [List.length_append, m]
      show 1 < _ + 1
      omega
    · rw [e2]
      exact slt_app _ _ ((List.pairwise_append.mp h.srt).2.2 c hc a List.mem_cons_self)
    · rw [e2]
      exact slt_last _ (up x hx)
  · intro c hc x hx cx
    rw [ke]
    exact List.mem_append_left _ (h.cl c hc x hx cx)
  · intro x hx xR
    rw [ke]
    rcases List.mem_append.mp hx with m | m
    · exact List.mem_append_left _ (h.cn x m xR)
    · exact List.mem_append_right _ m
  · rw [ke]; exact List.mem_append_left _ h.st
  · rw [e]
    intro f hf
    rcases List.mem_append.mp hf with m | m
    · rcases h.par f m with m | m | ⟨x, hx, e2⟩
      · exact .inl m
      · exact .inr (.inl m)
      · exact .inr (.inr ⟨x, List.mem_append_left _ hx, e2⟩)
    · rw [List.mem_singleton.mp m]
      exact .inr (.inr ⟨b, by simp, rfl⟩)
theorem BOut.end {D : List Pr} {R : List Int} {s : Int} {A : List En} (h : BOut D R s A []) : AllP D R s A := by
  have e : A ++ [] = A := List.append_nil A
  refine ⟨by have := h.nd; rw [e] at this; exact this, by have := h.le; rw [e] at this; exact this, fun x p k => ?_⟩
  have cl := h.cl
  have st := h.st
  rw [e] at cl st
  induction k with
  | base hs => exact st hs
  | step k ab hb ih =>
    obtain ⟨p', hp'⟩ := of_keysE ih
    exact cl _ hp' _ hb ab
theorem BOut.start {D : List Pr} {R : List Int} {s : Int} (m : s ∈ R) : BOut D R s [] [(s, [s])] := by
  refine ⟨by simp [keysE], fun e he => ?_, List.pairwise_singleton _ _, fun e he => (by cases he), fun _ => by simp [keysE], fun e he => ?_⟩
  · rw [List.mem_singleton.mp he]
    refine ⟨.base m, fun q k => ?_⟩
    have := k.ne
    by_cases l : q.length ≤ 1
    · exact .inl (k.one l).2.symm
    · exact sle_of_len (show 1 < q.length by omega)
  · rw [List.mem_singleton.mp he]
    exact .inl rfl
theorem BOut.none {D : List Pr} {R : List Int} {s : Int} (m : s ∉ R) : BOut D R s [] [] :=
  ⟨List.nodup_nil, fun e he => (by cases he), List.Pairwise.nil, fun e he => (by cases he), fun h => absurd h m, fun e he => (by cases he)⟩

/-! the layers of the law -/
/-- k layers are found: L all, M those of the last layer -/
structure Lay (D : List Pr) (R : List Int) (s : Int) (k : Nat) (L M : List En) : Prop where
  nd : (keysE L).Nodup
  le : ∀ e ∈ L, Lst D R s e.1 e.2 ∧ e.2.length ≤ k
  all : ∀ x p, Pth D R s x p → p.length ≤ k → x ∈ keysE L
  mm : ∀ e, e ∈ M ↔ e ∈ L ∧ e.2.length = k
  sz : s ∈ R → k ≤ L.length
/-- the next layer, the steps E taken -/
structure Fur (R : List Int) (L M : List En) (E : Int → Int → Prop) (F : List En) : Prop where
  nd : (keysE F).Nodup
  of : ∀ e ∈ F, e.1 ∈ R ∧ e.1 ∉ keysE L ∧ ∃ u ∈ M, E u.1 e.1 ∧ e.2 = u.2 ++ [e.1]
  all : ∀ u ∈ M, ∀ v, E u.1 v → v ∈ R → v ∉ keysE L → ∃ p, (v, p) ∈ F ∧ sle p (u.2 ++ [v])
theorem Lay.start {D : List Pr} {R : List Int} {s : Int} (m : s ∈ R) : Lay D R s 1 [(s, [s])] [(s, [s])] := by
  refine ⟨by simp [keysE], fun e he => ?_, fun x p k l => ?_, fun e => ?_, fun _ => Nat.le_refl _⟩
  · have := (BOut.start (D := D) m).le e he
    rw [List.mem_singleton.mp he] at this ⊢
    exact ⟨this, Nat.le_refl _⟩
  · rw [(k.one l).1]
    simp [keysE]
  · constructor
    · intro h
      refine ⟨h, ?_⟩
      rw [List.mem_singleton.mp h]
      rfl
    · exact fun h => h.1
theorem Lay.none {D : List Pr} {R : List Int} {s : Int} (m : s ∉ R) (k : Nat) : Lay D R s k [] [] :=
  ⟨List.nodup_nil, fun e he => (by cases he), fun x p k l => absurd k.start m, fun e => ⟨fun h => (by cases h), fun h => (by cases h.1)⟩, fun h => absurd h m⟩
theorem Lay.via {D : List Pr} {R : List Int} {s : Int} {k : Nat} {L M : List En} (h : Lay D R s k L M) {v : Int} {q : List Int} (p : Pth D R s v q) (n : v ∉ keysE L) : k < q.length ∧ (q.length = k + 1 → 1 ≤ k → ∃ u ∈ M, Adj D u.1 v ∧ sle (u.2 ++ [v]) q) := by
  have l0 : k < q.length := Nat.lt_of_not_le fun l => n (h.all v q p l)
  refine ⟨l0, fun l k1 => ?_⟩
  cases p with
  | base hs =>
    have : 1 = k + 1 := l
    omega
  | @step c _ p kc ab hb =>
    rw [List.length_append] at l
    have l2 : p.length = k := Nat.succ.inj l
    obtain ⟨pc, hc⟩ := of_keysE (h.all c p kc (Nat.le_of_eq l2))
    obtain ⟨lc, lk⟩ := h.le _ hc
    have lk2 : pc.length = k := by
      rcases Nat.lt_or_ge pc.length k with g | g
      · refine absurd (h.all v _ (lc.1.step ab hb) ?_) n
        rw [List.length_append]
        exact g
      · exact Nat.le_antisymm lk g
    exact ⟨(c, pc), (h.mm _).mpr ⟨hc, lk2⟩, ab, sle_app v (lc.2 _ kc)⟩
theorem Lay.next {D : List Pr} {R : List Int} {s : Int} {k : Nat} {L M F : List En} (h : Lay D R s k L M) (k1 : 1 ≤ k) (f : Fur R L M (Adj D) F) (ne : F ≠ []) : Lay D R s (k + 1) (L ++ F) F := by
  have ke : keysE (L ++ F) = keysE L ++ keysE F := List.map_append
  have fl : ∀ e ∈ F, Lst D R s e.1 e.2 ∧ e.2.length = k + 1 := by
    intro e he
    obtain ⟨h1, h2, u, hu, h3, h4⟩ := f.of e he
    obtain ⟨hu1, hu2⟩ := (h.mm u).mp hu
    have el : e.2.length = k + 1 := by rw [h4, List.length_append, hu2]; rfl
    refine ⟨⟨by rw [h4]; exact (h.le u hu1).1.1.step h3 h1, fun q p => ?_⟩, el⟩
    obtain ⟨g1, g2⟩ := h.via p h2
    rcases Nat.lt_or_ge (k + 1) q.length with g | g
    · exact sle_of_len (by omega)
    · obtain ⟨w, hw, ab, l⟩ := g2 (by omega) k1
      obtain ⟨p', hp', l'⟩ := f.all w hw e.1 ab h1 h2
      have : e.2 = p' := by
        have : ∀ {G : List En}, (keysE G).Nodup → ∀ {x : Int} {a b : List Int}, (x, a) ∈ G → (x, b) ∈ G → a = b := by
          intro G
          induction G with
          | nil => intro _ x a b m; cases m
          | cons g G ih =>
            intro nd x a b ma mb
            obtain ⟨n1, n2⟩ := List.nodup_cons.mp nd
            rcases List.mem_cons.mp ma with ma | ma
            · rcases List.mem_cons.mp mb with mb | mb
              · have := ma.trans mb.symm
                exact congrArg Prod.snd this
              · rw [← ma] at n1
                exact absurd (keysE_mem mb) n1
            · rcases List.mem_cons.mp mb with mb | mb
              · rw [← mb] at n1
                exact absurd (keysE_mem ma) n1
              · exact ih n2 ma mb
        exact this f.nd (show (e.1, e.2) ∈ F from he) hp'
      rw [this]
      exact sle_trans l' l
  refine ⟨?_, ?_, ?_, ?_, ?_⟩
  · rw [ke]
    refine List.nodup_append.mpr ⟨h.nd, f.nd, fun x hx y hy e => ?_⟩
    obtain ⟨p, hp⟩ := of_keysE hy
    rw [e] at hx
    exact (f.of _ hp).2.1 hx
  · intro e he
    rcases List.mem_append.mp he with m | m
    · exact ⟨(h.le e m).1, Nat.le_succ_of_le (h.le e m).2⟩
    · exact ⟨(fl e m).1, Nat.le_of_eq (fl e m).2⟩
  · intro x p kp l
    rw [ke]
    by_cases m : x ∈ keysE L
    · exact List.mem_append_left _ m
    · obtain ⟨g1, g2⟩ := h.via kp m
      obtain ⟨w, hw, ab, l⟩ := g2 (by omega) k1
      obtain ⟨p', hp', _⟩ := f.all w hw x ab kp.mem m
      exact List.mem_append_right _ (keysE_mem hp')
  · intro e
    constructor
    · exact fun m => ⟨List.mem_append_right _ m, (fl e m).2⟩
    · rintro ⟨m, l⟩
      rcases List.mem_append.mp m with m | m
      · have := (h.le e m).2
        omega
      · exact m
  · intro m
    rw [List.length_append]
    have := h.sz m
    have : 1 ≤ F.length := by
      cases F with
      | nil => exact absurd rfl ne
      | cons _ _ => exact Nat.le_add_left _ _
    omega
theorem Lay.stop {D : List Pr} {R : List Int} {s : Int} {k : Nat} {L M : List En} (h : Lay D R s k L M) (k1 : 1 ≤ k) (f : Fur R L M (Adj D) []) : AllP D R s L := by
  refine ⟨h.nd, fun e he => (h.le e he).1, fun x p kp => ?_⟩
  induction kp with
  | base hs => exact h.all s [s] (.base hs) k1
  | @step c v p kc ab hb ih =>
    obtain ⟨pc, hc⟩ := of_keysE ih
    obtain ⟨lc, lk⟩ := h.le _ hc
    by_cases m : v ∈ keysE L
    · exact m
    · exfalso
      obtain ⟨g1, _⟩ := h.via (lc.1.step ab hb) m
      rw [List.length_append] at g1
      have g3 : k < pc.length + 1 := g1
      obtain ⟨p', hp', _⟩ := f.all (c, pc) ((h.mm _).mpr ⟨hc, Nat.le_antisymm lk (Nat.lt_succ_iff.mp g3)⟩) v ab hb m
      cases hp'
theorem Lay.full {D : List Pr} {R : List Int} {s : Int} {k : Nat} {L M : List En} (h : Lay D R s k L M) (l : R.length < k) (sub : ∀ l : List Int, l.Nodup → (∀ x ∈ l, x ∈ R) → l.length ≤ R.length) : AllP D R s L := by
  refine ⟨h.nd, fun e he => (h.le e he).1, fun x p kp => ?_⟩
  have h1 := h.sz kp.start
  have h2 := sub (keysE L) h.nd fun x hx => by
    obtain ⟨p, hp⟩ := of_keysE hx
    exact (h.le _ hp).1.1.mem
  unfold keysE at h2
  rw [List.length_map] at h2
  omega
theorem Fur.start (R : List Int) (L M : List En) : Fur R L M (fun _ _ => False) [] :=
  ⟨List.nodup_nil, fun e he => (by cases he), fun _ _ _ h => h.elim⟩
theorem Fur.more {R : List Int} {L M F : List En} {E E' : Int → Int → Prop} (h : Fur R L M E F) (i : ∀ x y, E x y ↔ E' x y) : Fur R L M E' F :=
  ⟨h.nd, fun e he => by
    obtain ⟨h1, h2, u, hu, h3, h4⟩ := h.of e he
    exact ⟨h1, h2, u, hu, (i _ _).mp h3, h4⟩, fun u hu v e => h.all u hu v ((i _ _).mpr e)⟩
/-- a step that is none -/
theorem Fur.skip {R : List Int} {L M F : List En} {E : Int → Int → Prop} (h : Fur R L M E F) (u v : Int) (n : u ∉ keysE M ∨ v ∉ R ∨ v ∈ keysE L) : Fur R L M (fun x y => E x y ∨ x = u ∧ y = v) F :=
  ⟨h.nd, fun e he => by
    obtain ⟨h1, h2, u, hu, h3, h4⟩ := h.of e he
    exact ⟨h1, h2, u, hu, .inl h3, h4⟩, fun w hw v' e h1 h2 => by
    rcases e with e | ⟨rfl, rfl⟩
    · exact h.all w hw v' e h1 h2
    · rcases n with n | n | n
      · exact absurd (keysE_mem (p := w.2) hw) n
      · exact absurd h1 n
      · exact absurd n h2⟩
/-- a step that does not better -/
theorem Fur.worse {R : List Int} {L M F : List En} {E : Int → Int → Prop} (h : Fur R L M E F) {u v : Int} {pu p : List Int} (ndM : ∀ w ∈ M, w.1 = u → w.2 = pu) (m : (v, p) ∈ F) (l : sle p (pu ++ [v])) : Fur R L M (fun x y => E x y ∨ x = u ∧ y = v) F :=
  ⟨h.nd, fun e he => by
    obtain ⟨h1, h2, u, hu, h3, h4⟩ := h.of e he
    exact ⟨h1, h2, u, hu, .inl h3, h4⟩, fun w hw v' e h1 h2 => by
    rcases e with e | ⟨e1, rfl⟩
    · exact h.all w hw v' e h1 h2
    · rw [ndM w hw e1]
      exact ⟨p, m, l⟩⟩
theorem Fur.new {R : List Int} {L M F : List En} {E : Int → Int → Prop} (h : Fur R L M E F) {u v : Int} {pu : List Int} (ndM : ∀ w ∈ M, w.1 = u → w.2 = pu) (um : (u, pu) ∈ M) (vR : v ∈ R) (vL : v ∉ keysE L) (n : v ∉ keysE F) : Fur R L M (fun x y => E x y ∨ x = u ∧ y = v) (F ++ [(v, pu ++ [v])]) := by
  refine ⟨?_, fun e he => ?_, fun w hw v' e h1 h2 => ?_⟩
  · show (List.map _ _).Nodup
    rw [List.map_append]
    refine List.nodup_append.mpr ⟨h.nd, List.pairwise_singleton _ _, fun x hx y hy e => ?_⟩
    rw [List.mem_singleton.mp hy] at e
    rw [e] at hx
    exact n hx
  · rcases List.mem_append.mp he with m | m
    · obtain ⟨h1, h2, u, hu, h3, h4⟩ := h.of e m
      exact ⟨h1, h2, u, hu, .inl h3, h4⟩
    · rw [List.mem_singleton.mp m]
      exact ⟨vR, vL, _, um, .inr ⟨rfl, rfl⟩, rfl⟩
  · rcases e with e | ⟨e1, rfl⟩
    · obtain ⟨p, hp, l⟩ := h.all w hw v' e h1 h2
      exact ⟨p, List.mem_append_left _ hp, l⟩
    · rw [ndM w hw e1]
      exact ⟨_, List.mem_append_right _ (List.mem_singleton.mpr rfl), .inl rfl⟩
def setE (L : List En) (x : Int) (p : List Int) : List En := L.map fun e => if e.1 = x then (x, p) else e
theorem setE_keys (L : List En) (x : Int) (p : List Int) : keysE (setE L x p) = keysE L := by
  unfold keysE setE
  rw [List.map_map]
  refine List.map_congr_left fun e _ => ?_
  show (if e.1 = x then (x, p) else e).1 = e.1
  by_cases h : e.1 = x
  · rw [if_pos h]; exact h.symm
  · rw [if_neg h]
theorem mem_setE {L : List En} {x : Int} {p : List Int} {e : En} (h : e ∈ setE L x p) : e = (x, p) ∨ (e ∈ L ∧ e.1 ≠ x) := by
  obtain ⟨f, hf, e2⟩ := List.mem_map.mp h
  by_cases c : f.1 = x
  · rw [if_pos c] at e2; exact .inl e2.symm
  · rw [if_neg c] at e2; rw [← e2]; exact .inr ⟨hf, c⟩
theorem setE_mem {L : List En} {x : Int} {p : List Int} (h : x ∈ keysE L) : (x, p) ∈ setE L x p := by
  obtain ⟨q, hq⟩ := of_keysE h
  exact List.mem_map.mpr ⟨_, hq, if_pos rfl⟩
theorem setE_old {L : List En} {x : Int} {p : List Int} {e : En} (h : e ∈ L) (n : e.1 ≠ x) : e ∈ setE L x p := List.mem_map.mpr ⟨e, h, if_neg n⟩
theorem Fur.better {R : List Int} {L M F : List En} {E : Int → Int → Prop} (h : Fur R L M E F) {u v : Int} {pu p : List Int} (ndM : ∀ w ∈ M, w.1 = u → w.2 = pu) (um : (u, pu) ∈ M) (vR : v ∈ R) (vL : v ∉ keysE L) (m : (v, p) ∈ F) (uq : ∀ q, (v, q) ∈ F → q = p) (l : sle (pu ++ [v]) p) : Fur R L M (fun x y => E x y ∨ x = u ∧ y = v) (setE F v (pu ++ [v])) := by
  refine ⟨by rw [setE_keys]; exact h.nd, fun e he => ?_, fun w hw v' e h1 h2 => ?_⟩
  · rcases mem_setE he with m | ⟨m, _⟩
    · rw [m]
      exact ⟨vR, vL, _, um, .inr ⟨rfl, rfl⟩, rfl⟩
    · obtain ⟨h1, h2, u, hu, h3, h4⟩ := h.of e m
      exact ⟨h1, h2, u, hu, .inl h3, h4⟩
  · have here : (v, pu ++ [v]) ∈ setE F v (pu ++ [v]) := setE_mem (keysE_mem m)
    rcases e with e | ⟨e1, rfl⟩
    · obtain ⟨q, hq, l2⟩ := h.all w hw v' e h1 h2
      by_cases c : v' = v
      · subst c
        rw [uq q hq] at l2
        exact ⟨_, here, sle_trans l l2⟩
      · exact ⟨q, setE_old hq c, l2⟩
    · rw [ndM w hw e1]
      exact ⟨_, here, .inl rfl⟩

/-- what the dict of first_paths holds: rooms and their paths -/
def IsE (H : Hp) (kv : Key × V) (e : En) : Prop := kv.1 = Sum.inl e.1 ∧ ∃ t, kv.2 = V.ref t ∧ H t = some (.tup (e.2.map V.int))
structure Dq (H : Hp) (d : Addr) (kvs : List (Key × V)) (L : List En) : Prop where
  at_ : H d = some (.dK kvs)
  pr : Paired (IsE H) kvs L
  vl : ∀ e ∈ L, e.2.length ≤ L.length
theorem Dq.len {H : Hp} {d : Addr} {kvs : List (Key × V)} {L : List En} (h : Dq H d kvs L) : kvs.length = L.length := Paired.length h.pr
theorem pr_keys {H : Hp} : ∀ {kvs : List (Key × V)} {L : List En}, Paired (IsE H) kvs L → kvs.map (·.1) = (keysE L).map Sum.inl
  | _, _, .nil => rfl
  | _, _, .cons h t => by
    have e : _ :: _ = _ :: _ := congr (congrArg List.cons h.1) (pr_keys t)
    exact e
theorem pr_get {H : Hp} {x : Int} : ∀ {kvs : List (Key × V)} {L : List En}, Paired (IsE H) kvs L → (valV kvs (Sum.inl x : Key) = none ∧ x ∉ keysE L) ∨ ∃ p t, (x, p) ∈ L ∧ valV kvs (Sum.inl x : Key) = some (V.ref t) ∧ H t = some (.tup (p.map V.int))
  | _, _, .nil => .inl ⟨rfl, fun h => by cases h⟩
  | kv :: kvs, e :: L, .cons h t => by
    obtain ⟨h1, u, h2, h3⟩ := h
    by_cases c : e.1 = x
    · refine .inr ⟨e.2, u, ?_, ?_, h3⟩
      · rw [← c]; exact List.mem_cons_self
      · rw [valV_pos (h1.trans (by rw [c])), h2]
    · have n : ¬ kv.1 = (Sum.inl x : Key) := fun z => c (Sum.inl.inj (h1.symm.trans z))
      rw [valV_neg n]
      rcases pr_get t with ⟨g1, g2⟩ | ⟨p, w, g1, g2, g3⟩
      · refine .inl ⟨g1, fun m => ?_⟩
        rcases List.mem_cons.mp m with m | m
        · exact c m.symm
        · exact g2 m
      · exact .inr ⟨p, w, List.mem_cons_of_mem _ g1, g2, g3⟩
theorem Dq.same {H H' : Hp} {d : Addr} {kvs : List (Key × V)} {L : List En} (h : Dq H d kvs L) (s : Same H H') : Dq H' d kvs L := ⟨s _ _ h.at_, Paired.mapP h.pr fun _ _ q => ⟨q.1, by
  obtain ⟨t, e1, e2⟩ := q.2
  exact ⟨t, e1, s _ _ e2⟩⟩, h.vl⟩
theorem pr_upd {H : Hp} {a : Addr} {o o' : HO} {kvs : List (Key × V)} {L : List En} (h : Paired (IsE H) kvs L) (ha : H a = some o) (n : ∀ xs, o ≠ .tup xs) : Paired (IsE (upd H a o')) kvs L := Paired.mapP h fun _ _ q => ⟨q.1, by
  obtain ⟨t, e1, e2⟩ := q.2
  exact ⟨t, e1, by rw [upd_ne (ne_of e2 ha (n _).symm)]; exact e2⟩⟩
theorem Dq.ch {H : Hp} {d wt : Addr} {us vs : List V} {kvs : List (Key × V)} {L : List En} (h : Dq H d kvs L) (ne : d ≠ wt) (hw : H wt = some (.lst us)) : Dq (upd H wt (.lst vs)) d kvs L := ⟨by rw [upd_ne ne]; exact h.at_, pr_upd h.pr hw (fun _ z => by cases z), h.vl⟩
theorem Dq.put {H : Hp} {d t : Addr} {b : Int} {p : List Int} {kvs : List (Key × V)} {L : List En} (h : Dq H d kvs L) (n : valV kvs (Sum.inl b : Key) = none) (ht : H t = some (.tup (p.map V.int))) (hx : p.length ≤ L.length + 1) : Dq (upd H d (.dK (putK kvs (Sum.inl b) (.ref t)))) d (putK kvs (Sum.inl b) (.ref t)) (L ++ [(b, p)]) := by
  have e := putK_new (V.ref t) n
  refine ⟨upd_same, ?_, fun f hf => ?_⟩
  · rw [e]
    exact Paired.snoc (pr_upd h.pr h.at_ (fun _ z => by cases z)) ⟨rfl, t, rfl, by rw [upd_ne (ne_of ht h.at_ (by intro z; cases z))]; exact ht⟩
  · rw [List.length_append]
    rcases List.mem_append.mp hf with m | m
    · have := h.vl f m
      exact Nat.le_add_right_of_le this
    · rw [List.mem_singleton.mp m]
      exact hx
section
variable {P : Program} {w : World} {K : PySem.W.Frag} {mg : Str → Option Value} {base : Heap}
def spFq (K : PySem.W.Frag) (C g : Addr) : Sp := fun vs H Q _ => ∃ (q o p : Addr) (s : Int) (R : List Int) (r : Nat) (D : List Pr) (own : List Addr), vs = [.ref q, .int s, .ref o] ∧ H q = some (.met g p) ∧ HouseAt C H p r D own ∧ SeqI K H o R ∧ (∀ x ∈ R, 0 ≤ x ∧ x < r) ∧
  ∀ (d : Addr) (kvs : List (Key × V)) (L : List En) (H' : Hp), Same H H' → H d = none → Dq H' d kvs L → AllP D R s L → Q (.ref d) H'
theorem ok_fq {f C g : Addr} {fd fdn : FuncData} (F : Fun K "first_paths" "first_paths" sFp f fd) (T : Bi mg) (U : Hs K mg C) (bm : BMeth K C "neighbours" g) (Gn : FnOk P w K mg base CX0 1 g fdn ["self", "room"] (spHnear C)) (bn : Binds K fdn ["self", "room"] []) : FnOk P w K mg base CX0 2 f fd ["steps", "start", "inside"] (spFq K C g) := by
  refine F.ok scFp (fun vs H Q E h => ?_) (fun cdv A outer s0 H vs Q E hr h => ?_)
  · obtain ⟨q, o, p, s, R, r, D, own, rfl, _⟩ := h
    rfl
  · obtain ⟨q, o, p, s, R, r, D, own, rfl, hq, hh, ho, hR, ret⟩ := h
    refine ⟨_, (pss_cons (ps_set (i := 3) scFp.nd rfl (Or.inl rfl) pe_dnewK)
      (pss_cons (ps_if (pt_cmpR op_in_seq (pv 1) (pv 2) (by rfl))
      (pss_one (ps_dput (u1 hr.units) (pv 3) (pv 1) (pe_tup (pa_cons (pv 1) pa_nil)) rfl))
      pss_nil)
      (pss_cons (ps_set (i := 4) scFp.nd rfl (Or.inl rfl) (pe_callTy (call_listD rfl) (by rfl) T.list (by decide +kernel) (pa_cons (pv 3) pa_nil)))
      (pss_cons (ps_while PassesOwn.never (pt_truth (pv 4) (by intro _; rfl))
      (pss_cons (ps_set (i := 5) scFp.nd rfl (Or.inl rfl) (pe_bm PySem.F.plainAttrs_list PySem.F.slot_list_pop PySem.F.type_list_pop mt_popAt (pv 4) (pa_cons pe_int pa_nil)))
        (pss_one (ps_for PassesOwn.never rfl (pi_list (pe_callM (i := 0) (Gn.raw bn .nil) (hr.mono (by decide)) (by rfl) (.inl rfl) bm.fi pass0 (pa_cons (pv 5) pa_nil))) (pg_name (i := 6) scFp.nd rfl (Or.inl rfl))
        (pss_one (ps_if (PW.pt (pw_and (pt_cmpR op_in_seq (pv 6) (pv 2) (by rfl)) (pw_and1 (pt_cmp (pc_dnotin (u1 hr.units) (pv 6) (pv 3))))))
          (pss_cons (ps_dput (u1 hr.units) (pv 3) (pv 6) (pe_op op_catT (pe_dget (u1 hr.units) (pv 3) (pv 5) (fun _ _ => rfl)) (pe_tup (pa_cons (pv 6) pa_nil))) rfl)
            (pss_one (ps_expr (pe_bm PySem.F.plainAttrs_list PySem.F.slot_list_append PySem.F.type_list_append mt_append (pv 4) (pa_cons (pv 6) pa_nil)))))
          pss_nil))))))
      (pss_one (ps_ret (pv 3))))))), ?_⟩
    walk_at "rd"
    intro d nd
    have s1 : Same H (upd H d (HO.dK [])) := same_upd nd
    have hd1 : upd H d (HO.dK []) d = some (.dK []) := upd_same
    have hoS : ∀ H', Same H H' → SeqI K H' o R := fun H' sm => by
      rcases ho with h | h
      · exact .inl (sm.seq h)
      · exact .inr (same_sqT sm h)
    refine ⟨o, _, rfl, hoS _ s1, rfl, flI _, ?_⟩
    rw [inI]
    refine ⟨_, rfl, ?_⟩
    by_cases m : s ∈ R
    rw [decide_eq_true m]
    refine iteT ⟨_, rfl, (by show 1 ≤ sizeLine; decide), fun t nt => ⟨_, rfl, _, rfl, d, _, rfl, DPut.k (k := Sum.inl s) (same_upd nt _ _ hd1) (by decide), ?_⟩⟩
    have s2 : Same H (upd (upd (upd H d (HO.dK [])) t (HO.tup [V.int s])) d (HO.dK (putK [] (Sum.inl s) (V.ref t)))) := same_ch (s1.trans (same_upd nt)) nd
    have pk : ∃ kvs L, Dq (upd (upd (upd H d (HO.dK [])) t (HO.tup [V.int s])) d (HO.dK (putK [] (Sum.inl s) (V.ref t)))) d kvs L ∧ BOut D R s [] L := by
      have ntd : t ≠ d := fun z => by
        rw [z, upd_same] at nt
        cases nt
      refine ⟨[(Sum.inl s, V.ref t)], [(s, [s])], ⟨upd_same, .cons ⟨rfl, t, rfl, by rw [upd_ne ntd]; exact upd_same⟩ .nil, fun e he => ?_⟩, BOut.start m⟩
      rw [List.mem_singleton.mp he]
      exact Nat.le_refl _
    generalize upd (upd (upd H d (HO.dK [])) t (HO.tup [V.int s])) d (HO.dK (putK [] (Sum.inl s) (V.ref t))) = H1 at s2 pk
    clear nt hd1
    rotate_left
    rw [decide_eq_false m]
    refine iteF ?_
    have s2 := s1
    have pk : ∃ kvs L, Dq (upd H d (HO.dK [])) d kvs L ∧ BOut D R s [] L := ⟨[], [], ⟨upd_same, .nil, fun e he => by cases he⟩, BOut.none m⟩
    generalize upd H d (HO.dK []) = H1 at s1 s2 hd1 pk
    clear hd1
    all_goals
      clear s1
      obtain ⟨kvs, L, dk, fi⟩ := pk
      walk_at "rd"
      refine ⟨_, .inl dk.at_, fun wt nwt => ?_⟩
      have r12 := hh.r12
      have dok : ∀ d ∈ D, d.1 < d.2 := fun d hd => (hh.ok.ok d hd).2.1
      have klen : ∀ L : List En, (keysE L).Nodup → (∀ e ∈ L, Lst D R s e.1 e.2) → L.length ≤ r := fun L nd le => by
        have := ints_len nd fun x hx => by
          obtain ⟨p, hp⟩ := of_keysE hx
          exact hR x (le _ hp).1.mem
        unfold keysE at this
        rw [List.length_map] at this
        exact this
      have dwt : d ≠ wt := ne_of_none dk.at_ nwt
      have nw0 : H wt = none := s2.free nwt
      have e0 : kvs.map (fun kv => kV kv.1) = (keysE L).map V.int := by
        rw [show kvs.map (fun kv => kV kv.1) = (kvs.map (·.1)).map kV by rw [List.map_map]; rfl, pr_keys dk.pr, List.map_map]
        rfl
      rw [e0]
      obtain ⟨Pv, hPv⟩ : ∃ Pv : L2.St → Hp → Prop, Pv = (fun σ H' => ∃ (kvs : List (Key × V)) (A W : List En) (v5 v6 : Option V), σ = [some (.ref q), some (.int s), some (.ref o), some (.ref d), some (.ref wt), v5, v6] ∧ Same H H' ∧ Dq H' d kvs (A ++ W) ∧ BOut D R s A W ∧ H' wt = some (.lst ((keysE W).map V.int)) ∧ 2 * (r - kvs.length) + W.length ≤ 100) := ⟨_, rfl⟩
      obtain ⟨mu, hmu⟩ : ∃ mu : L2.St → Hp → Nat, mu = (fun _ H' => match H' d, H' wt with
        | some (.dK kvs), some (.lst ws) => 2 * (r - kvs.length) + ws.length
        | _, _ => 0) := ⟨_, rfl⟩
      refine while_by Pv mu ?h0 (fun σ H2 pv => ?hs) (fun σ H2 Q1 Q2 hi h => ?mono)
      case h0 =>
        rw [hPv]
        have kl := klen L fi.nd fi.le
        have dl := dk.len
        exact ⟨kvs, [], L, none, none, rfl, s2.trans (same_upd nwt), dk.same (same_upd nwt), fi, upd_same, by omega⟩
      case mono =>
        obtain ⟨v, g1, k, tv, q1⟩ := h
        exact ⟨v, g1, k, tv, hi _ _ q1⟩
      case hs =>
        rw [hPv] at pv
        obtain ⟨kvs, A, W, v5, v6, rfl, sm, dk, fi, hw, bd⟩ := pv
        refine ⟨.ref wt, rfl, !((keysE W).map V.int).isEmpty, .inl ⟨_, SqL.of hw, rfl⟩, ?_⟩
        cases W with
        | nil =>
          refine iteF ?_
          walk_at "rd"
          rw [List.append_nil] at dk
          exact ret d kvs A H2 sm nd dk fi.end
        | cons w0 ws =>
          have w0R := hR w0.1 (fi.le w0 (by simp)).1.mem
          obtain ⟨w0, p0⟩ := w0
          obtain ⟨n0, rfl⟩ : ∃ n : Nat, w0 = (n : Int) := ⟨w0.toNat, by have := w0R.1; simp only at this; omega⟩
          have fi := fi.go
          refine iteT ?_
          walk_at "rd"
          refine ⟨.inl ⟨rfl, _, SqL.of hw⟩, ?_⟩
          walk_at "rd"
          have sq : PySem.seqIndex? 0 ((keysE (((n0 : Int), p0) :: ws)).map V.int).length = some 0 := by
            unfold PySem.seqIndex?
            simp [keysE]
          refine ⟨wt, _, 0, 0, .int n0, rfl, rfl, hw, by decide, by decide, sq, rfl, ?_⟩
          have mu0 : mu [some (V.ref q), some (V.int s), some (V.ref o), some (V.ref d), some (V.ref wt), v5, v6] H2 = 2 * (r - kvs.length) + (ws.length + 1) := by
            rw [hmu]
            show (match H2 d, H2 wt with
              | some (.dK kvs), some (.lst ws) => 2 * (r - kvs.length) + ws.length
              | _, _ => 0) = _
            rw [dk.at_, hw]
            show _ + (List.map V.int _).length = _
            unfold keysE
            rw [List.length_map, List.length_map]
            rfl
          rw [mu0]
          have bd2 : 2 * (r - kvs.length) + (ws.length + 1) ≤ 100 := bd
          generalize hM : 2 * (r - kvs.length) + (ws.length + 1) = M at bd2
          show tFor _ _ _ _ _ (upd H2 wt (HO.lst ((keysE ws).map V.int)))
          have s3 : Same H (upd H2 wt (HO.lst ((keysE ws).map V.int))) := same_ch sm nw0
          have hw3 : upd H2 wt (HO.lst ((keysE ws).map V.int)) wt = some (.lst ((keysE ws).map V.int)) := upd_same
          have dk3 : Dq (upd H2 wt (HO.lst ((keysE ws).map V.int))) d kvs (A ++ ((n0 : Int), p0) :: ws) := dk.ch dwt hw
          generalize upd H2 wt (HO.lst ((keysE ws).map V.int)) = H3 at s3 hw3 dk3 ⊢
          refine for_iterW ?_
          refine ⟨q, p, rfl, _, rfl, s3 _ _ hq, p, r, D, own, n0, rfl, hh.same s3, by omega, fun nb nnb => ?_⟩
          have nb0 : H nb = none := s3.free nnb
          have nbw : wt ≠ nb := ne_of_none hw3 nnb
          have nbd : d ≠ nb := ne_of_none dk3.at_ nnb
          obtain ⟨Pw, hPw⟩ : ∃ Pw : Nat → L2.St → Hp → Prop, Pw = (fun j σ H' => ∃ (kvs' : List (Key × V)) (W' : List En) (v6 : Option V), σ = [some (.ref q), some (.int s), some (.ref o), some (.ref d), some (.ref wt), some (.int n0), v6] ∧ Same H H' ∧ H' nb = some (.lst ((nearF (n0 : Nat) D).map V.int)) ∧ Dq H' d kvs' (A ++ ((n0 : Int), p0) :: W') ∧ BIn D R s A ((n0 : Int), p0) W' ((nearF (n0 : Nat) D).take j) ∧ H' wt = some (.lst ((keysE W').map V.int)) ∧ 2 * (r - kvs'.length) + W'.length + 1 ≤ M) := ⟨_, rfl⟩
          refine ⟨nb, rfl, ⟨_, SqL.of upd_same⟩, for_list (K := K) (a := nb) (xs := (nearF (n0 : Nat) D).map V.int) Pw ?i0 (fun j σ H' _ pv => ?il) (fun j v σ H' gv pv => ?ib) (fun σ H' pv => ?ie)⟩
          case i0 =>
            rw [hPw]
            exact ⟨kvs, ws, v6, rfl, s3.trans (same_upd nnb), upd_same, dk3.same (same_upd nnb), (by rw [List.take_zero]; exact fi), same_upd nnb _ _ hw3, by omega⟩
          case il =>
            rw [hPw] at pv
            obtain ⟨_, _, _, _, _, hn, _⟩ := pv
            exact SqL.of hn
          case ie =>
            rw [hPw] at pv
            obtain ⟨kvs', W', v6, rfl, s5, hn, dk5, fi5, hw5, le5⟩ := pv
            rw [List.length_map, List.take_length] at fi5
            refine ⟨?_, ?_⟩
            · rw [hPv]
              refine ⟨kvs', A ++ [((n0 : Int), p0)], W', some (.int n0), v6, rfl, s5, (by rw [List.append_assoc]; exact dk5), fi5.done (fun b _ ab => (mem_nearF dok).mpr ab), hw5, by omega⟩
            · rw [hmu]
              show (match H' d, H' wt with
                | some (.dK kvs), some (.lst ws) => 2 * (r - kvs.length) + ws.length
                | _, _ => 0) < _
              rw [dk5.at_, hw5]
              show _ + (List.map V.int _).length < _
              unfold keysE
              rw [List.length_map, List.length_map]
              omega
          case ib =>
            have nxt : ∀ (kvs' : List (Key × V)) (W' : List En) (v6 : Option V) (H' : Hp), Same H H' → H' nb = some (.lst ((nearF (n0 : Nat) D).map V.int)) → Dq H' d kvs' (A ++ ((n0 : Int), p0) :: W') → BIn D R s A ((n0 : Int), p0) W' ((nearF (n0 : Nat) D).take (j + 1)) → H' wt = some (.lst ((keysE W').map V.int)) → 2 * (r - kvs'.length) + W'.length + 1 ≤ M → Pw (j + 1) [some (.ref q), some (.int s), some (.ref o), some (.ref d), some (.ref wt), some (.int n0), v6] H' := fun kvs' W' v6 H' h1 h2 h3 h4 h5 h6 => by
              rw [hPw]
              exact ⟨kvs', W', v6, rfl, h1, h2, h3, h4, h5, h6⟩
            rw [hPw] at pv
            obtain ⟨kvs', W', v6, rfl, s5, hn, dk5, fi5, hw5, le5⟩ := pv
            rw [List.getElem?_map] at gv
            cases gd : (nearF (n0 : Nat) D)[j]? with
            | none => rw [gd] at gv; cases gv
            | some b =>
              rw [gd] at gv
              have ev := Option.some.inj gv
              subst ev
              have adj : Adj D n0 b := (mem_nearF dok).mp (List.mem_of_getElem? gd)
              have tk : (nearF (n0 : Nat) D).take (j + 1) = (nearF (n0 : Nat) D).take j ++ [b] := by rw [List.take_add_one, gd]; rfl
              rw [tk] at nxt
              walk_at "rd"
              refine ⟨o, _, rfl, hoS _ s5, rfl, flI _, ?_⟩
              rw [inI]
              refine ⟨_, rfl, ?_⟩
              by_cases bR : b ∈ R
              · rw [decide_eq_true bR]
                refine iteT ?_
                refine ⟨_, rfl, _, rfl, d, _, rfl, DGet.k (k := Sum.inl b) dk5.at_, ?_⟩
                refine ⟨_, rfl, ?_⟩
                rcases pr_get (x := b) dk5.pr with ⟨vn, bk⟩ | ⟨pb, tb, mb, vb, _⟩
                · rw [vn]
                  refine iteT ?_
                  rcases pr_get (x := (n0 : Int)) dk5.pr with ⟨_, nk⟩ | ⟨pp, t0, mp, ev0, ht0⟩
                  · exact absurd (keysE_mem (p := p0) (by simp)) nk
                  have pe : pp = p0 := (fi5.le _ mp).uniq (fi5.le ((n0 : Int), p0) (by simp))
                  subst pe
                  have fi6 := fi5.add adj bR bk (fun c hc => by
                    obtain ⟨i, hi, e⟩ := List.getElem?_of_mem hc |>.imp fun i h => (⟨(List.getElem?_eq_some_iff.mp h).1, h⟩ : i < _ ∧ _)
                    have lt := nearF_lt (i := (n0 : Int)) hh.ok.asc dok
                    rw [List.length_take] at hi
                    rw [List.getElem?_take_of_lt (by omega)] at e
                    have h1 := List.getElem?_eq_some_iff.mp e
                    have h2 := List.getElem?_eq_some_iff.mp gd
                    have := List.pairwise_iff_getElem.mp lt i j h1.1 h2.1 (by omega)
                    rw [h1.2, h2.2] at this
                    exact this)
                  have kl := klen _ fi6.nd fi6.le
                  have dl := dk5.len
                  have kl2 : kvs'.length + 1 ≤ r := by
                    rw [dl]
                    rw [List.length_append, List.length_cons] at kl ⊢
                    rw [List.length_append] at kl
                    exact kl
                  have pl0 := dk5.vl _ mp
                  have pz : pp ≠ [] := fun z => by
                    have := (fi5.le _ mp).1.ne
                    rw [z] at this
                    exact Nat.not_succ_le_zero 0 this
                  refine ⟨_, rfl, _, rfl, d, .ref t0, rfl, (by rw [← ev0]; exact DGet.k (k := Sum.inl (n0 : Int)) dk5.at_), _, rfl, (by show 1 ≤ sizeLine; decide), fun t1 nt1 => ?_⟩
                  refine ⟨t0, t1, pp.map V.int, [.int b], rfl, rfl, SqT.of (same_upd nt1 _ _ ht0), SqT.of upd_same, (fun z => pz (List.map_eq_nil_iff.mp z)), Nat.le_of_lt (len_big (by rw [List.length_map]; show pp.length + 1 ≤ 100000; simp only at pl0; omega)), (fun z => by cases z), fun _ t2 nt2 => ?_⟩
                  have s56 : Same H' (upd (upd H' t1 (HO.tup [V.int b])) t2 (HO.tup (pp.map V.int ++ [V.int b]))) := (same_upd nt1).trans (same_upd nt2)
                  have ht2 : upd (upd H' t1 (HO.tup [V.int b])) t2 (HO.tup (pp.map V.int ++ [V.int b])) t2 = some (.tup ((pp ++ [b]).map V.int)) := by rw [List.map_append]; exact upd_same
                  generalize upd (upd H' t1 (HO.tup [V.int b])) t2 (HO.tup (pp.map V.int ++ [V.int b])) = H6 at s56 ht2
                  have dk6 := dk5.same s56
                  refine ⟨_, rfl, _, rfl, d, _, rfl, DPut.k (k := Sum.inl b) dk6.at_ (len_big (by omega)), ?_⟩
                  have dk7 := dk6.put vn ht2 (by rw [List.length_append]; simp only at pl0; show pp.length + 1 ≤ _; omega)
                  have s7 := same_ch (o := HO.dK (putK kvs' (Sum.inl b) (V.ref t2))) (s5.trans s56) nd
                  have hw7 : upd H6 d (HO.dK (putK kvs' (Sum.inl b) (V.ref t2))) wt = some (.lst ((keysE W').map V.int)) := by
                    rw [upd_ne dwt.symm]
                    exact s56 _ _ hw5
                  have hn7 : upd H6 d (HO.dK (putK kvs' (Sum.inl b) (V.ref t2))) nb = some (.lst ((nearF (n0 : Nat) D).map V.int)) := by
                    rw [upd_ne nbd.symm]
                    exact s56 _ _ hn
                  have pl : (putK kvs' (Sum.inl b : Key) (V.ref t2)).length = kvs'.length + 1 := by rw [putK_new _ vn, List.length_append]; rfl
                  generalize upd H6 d (HO.dK (putK kvs' (Sum.inl b) (V.ref t2))) = H7 at dk7 s7 hw7 hn7
                  generalize putK kvs' (Sum.inl b : Key) (V.ref t2) = kv7 at dk7 pl
                  walk_at "rd"
                  have wl : W'.length ≤ 100 := by omega
                  refine ⟨.inl ⟨rfl, _, SqL.of hw7⟩, _, hw7, len_big (by unfold keysE; rw [List.length_map, List.length_map]; omega), ?_⟩
                  refine nxt kv7 (W' ++ [(b, pp ++ [b])]) _ _ (same_ch s7 nw0) (by rw [upd_ne nbw.symm]; exact hn7) (by rw [List.append_assoc] at dk7; exact dk7.ch dwt hw7) fi6 (by rw [upd_same]; unfold keysE; rw [List.map_append, List.map_append]; rfl) (by rw [pl, List.length_append]; show _ + (W'.length + 1) + 1 ≤ M; omega)
                · rw [vb]
                  refine iteF ?_
                  exact nxt kvs' W' _ H' s5 hn dk5 (fi5.skip fun _ => keysE_mem mb) hw5 le5
              · rw [decide_eq_false bR]
                refine iteF ?_
                exact nxt kvs' W' _ H' s5 hn dk5 (fi5.skip fun h => absurd h bR) hw5 le5
end

abbrev sFst : Stmt := topS 18
abbrev sPdr : Stmt := topS 0
section
variable {K : PySem.W.Frag} {a b : Addr} {xs ys : List V}
theorem walk_zipT {n : Nat} (hn : n = min xs.length ys.length) : Walk (RZ.ItzT K a b) n (fun H => SqT K H a xs ∧ SqT K H b ys) (YPair (fun i => xs[i]?) (fun i => ys[i]?)) := by
  subst hn
  refine ⟨fun i _ hi q => ?_, fun _ q => ⟨xs, ys, q.1, q.2, by omega⟩, fun i H v H' _ q y => ?_⟩
  · have h1 : i < xs.length := by omega
    have h2 : i < ys.length := by omega
    exact ⟨xs, ys, xs[i], ys[i], q.1, q.2, by simp [h1], by simp [h2]⟩
  · obtain ⟨T, x, z, h1, h2, h3, h4, h5⟩ := y
    exact ⟨T, x, z, h1, h2, h3, h4 xs q.1, h5 ys q.2⟩
end
/-! ### the doors along a path -/
def dOf (a b : Int) : Pr := (if b < a then b else a, if b > a then b else a)
def alongI (ps : List Int) (i : Nat) : List Pr := (List.range i).map fun k => dOf (ps.getD k 0) (ps.getD (k + 1) 0)
def along (ps : List Int) : List Pr := alongI ps (ps.length - 1)
theorem alongI_succ (ps : List Int) (i : Nat) : alongI ps (i + 1) = alongI ps i ++ [dOf (ps.getD i 0) (ps.getD (i + 1) 0)] := by
  unfold alongI
  rw [List.range_succ, List.map_append]
  rfl
theorem dOf_comm (a b : Int) : dOf a b = dOf b a := by
  unfold dOf
  rcases Int.lt_trichotomy a b with h | h | h
  · rw [if_neg (show ¬ b < a by omega), if_pos (show b > a from h), if_pos (show a < b from h), if_neg (show ¬ a > b by omega)]
  · rw [h]
  · rw [if_pos (show b < a from h), if_neg (show ¬ b > a by omega), if_neg (show ¬ a < b by omega), if_pos (show a > b from h)]
theorem along_rev (ps : List Int) : along ps.reverse = (along ps).reverse := by
  unfold along alongI
  rw [List.length_reverse]
  refine List.ext_getElem (by simp) fun i h1 h2 => ?_
  rw [List.length_map, List.length_range] at h1
  rw [List.getElem_map, List.getElem_range, List.getElem_reverse, List.getElem_map, List.getElem_range]
  simp only [List.length_map, List.length_range]
  have g : ∀ k, k < ps.length → ps.reverse.getD k 0 = ps.getD (ps.length - 1 - k) 0 := fun k hk => by
    rw [List.getD_eq_getElem?_getD, List.getD_eq_getElem?_getD, List.getElem?_reverse hk]
  rw [g _ (by omega), g _ (by omega), dOf_comm]
  congr 2 <;> omega
/-- sorted, each as often as it comes -/
def SrtE (E : List Pr) (ps : List Int) : Prop := E.Perm (along ps) ∧ E.Pairwise fun x y => ¬ lt2 y x
theorem SrtE.uniq {E F : List Pr} {ps qs : List Int} (h : SrtE E ps) (k : SrtE F qs) (p : (along ps).Perm (along qs)) : E = F := by
  refine List.Perm.eq_of_pairwise (fun a b _ _ h1 h2 => ?_) h.2 k.2 (h.1.trans (p.trans k.1.symm))
  unfold lt2 at h1 h2
  obtain ⟨a1, a2⟩ := a
  obtain ⟨b1, b2⟩ := b
  simp only at h1 h2
  have : a1 = b1 ∧ a2 = b2 := by omega
  rw [this.1, this.2]
theorem SrtE.len {E : List Pr} {ps : List Int} (h : SrtE E ps) : E.length = ps.length - 1 := by
  rw [h.1.length_eq]
  unfold along alongI
  rw [List.length_map, List.length_range]
theorem srtE_of {H : Hp} {ys : List V} {us : List V} {ps : List Int} (pm : ys.Perm us) (e : us.map (kH H) = along ps) (h : SrtO.Srtd (ltP (kH H)) ys) : SrtE (ys.map (kH H)) ps := by
  refine ⟨?_, List.pairwise_map.mpr (List.Pairwise.imp (fun {x y} h => ?_) h)⟩
  · rw [← e]
    exact pm.map _
  · exact SrtO.lexB_no.mp h
section
variable {P : Program} {w : World} {K : PySem.W.Frag} {mg : Str → Option Value} {base : Heap}
theorem scFst : FnScope ["house", "start", "goal", "inside"] ["house", "start", "goal", "inside"] (defScope sFst) := ⟨rfl, rfl, rfl, by decide +kernel, rfl, by decide +kernel, by decide +kernel⟩
def spFst (K : PySem.W.Frag) (C : Addr) : Sp := fun vs H Q _ => ∃ (p o : Addr) (s g : Int) (R : List Int) (r : Nat) (D : List Pr) (own : List Addr), vs = [.ref p, .int s, .int g, .ref o] ∧ HouseAt C H p r D own ∧ SeqI K H o R ∧ (∀ x ∈ R, 0 ≤ x ∧ x < r) ∧
  ∀ (v : V) (H' : Hp), Same H H' → ((∃ q t, v = V.ref t ∧ H' t = some (.tup (q.map V.int)) ∧ Lst D R s g q) ∨ (v = .non ∧ ∀ q, ¬ Pth D R s g q)) → Q v H'
theorem ok_fst {f C g fF : Addr} {fd fdF : FuncData} (F : Fun K "first_path" "first_path" sFst f fd) (T : Bi mg) (U : Hs K mg C) (bm : BMeth K C "neighbours" g) (d_first_paths : Df P w K mg base "first_paths" ["steps", "start", "inside"] 2 (spFq K C g) fF fdF) : FnOk P w K mg base CX0 3 f fd ["house", "start", "goal", "inside"] (spFst K C) := by
  refine F.ok scFst (fun vs H Q E h => ?_) (fun cdv A outer s0 H vs Q E hr h => ?_)
  · obtain ⟨p, o, s, gl, R, r, D, own, rfl, _⟩ := h
    rfl
  · obtain ⟨p, o, s, gl, R, r, D, own, rfl, hh, ho, hR, ret⟩ := h
    refine ⟨_, (pss_one (ps_ret (pe_dget1 (u1 hr.units) (pe_call d_first_paths.ok (hr.mono (by decide)) (by rfl) d_first_paths.at_ d_first_paths.kp d_first_paths.b .nil pass0 (pa_cons (pe_bnd (pv 0) U.cl bm) (pa_cons (pv 1) (pa_cons (pv 3) pa_nil)))) (pv 2) ⟨rfl, by rfl, by rfl, by rfl⟩))), ?_⟩
    unfold tDGet1
    obtain ⟨dx, l0, m0, ls, nss, h1, _⟩ := hh.ex
    walk_at "rd"
    refine ⟨_, rfl, p, dx, _, rfl, h1, hf_no _ _ _ (by decide +kernel) (by decide +kernel) (by decide +kernel), fun q nq => ?_⟩
    have s1 : Same H (upd H q (HO.met g p)) := same_upd nq
    refine ⟨q, o, p, s, R, r, D, own, rfl, upd_same, hh.same s1, ho.same s1, hR, fun d kvs L H' s2 nd dk al => ?_⟩
    refine ⟨d, rfl, .inl ⟨kvs, .inl dk.at_⟩, _, DGet.k (k := Sum.inl gl) dk.at_, ret _ H' (s1.trans s2) ?_⟩
    rcases pr_get (x := gl) dk.pr with ⟨e, n⟩ | ⟨q, t, m, e, ht⟩
    · rw [e]
      exact .inr ⟨rfl, al.no.mp n⟩
    · rw [e]
      exact .inl ⟨q, t, rfl, ht, al.get.mp m⟩
end

/-! ### t[::-1] of a tuple -/
section
variable {prog : Program} {w : World} {A : Around} {E : Value → Shared → Prop} {s : Shared}
theorem sliceApplied_rev {sl : Addr} {vl vu vs : Value} {n : Nat} {Q : Int × Int × Nat → Shared → Prop} (hs : s.heap.IsSliceOf sl vl vu vs) (pl : IsPart vl none) (pu : IsPart vu none) (ps : IsPart vs (some (-1)))
    (h : Q ((n : Int) - 1, -1, n) s) : wpAny (model prog w) A (Builtin.Slice.sliceApplied (.ref sl) (pure (n : Int))) Q E s := by
  obtain ⟨os, hos, hcs, hds⟩ := id hs
  unfold Builtin.Slice.sliceApplied Builtin.Slice.sliceFields
  refine wpAny_bind (wpAny_bind (wpAny_field hos hds (x := vl) rfl (wpAny_bind (wpAny_field hos hds (x := vu) rfl (wpAny_bind (wpAny_field hos hds (x := vs) rfl (wpAny_pure ?_)))))))
  refine wpAny_bind (HT.slicePart_ ps ?_)
  show wpAny _ _ (if ((-1 : Int) == 0) = true then _ else _) _ _ s
  rw [if_neg (by decide)]
  refine wpAny_bind (HT.slicePart_ pl (wpAny_bind (HT.slicePart_ pu (wpAny_bind (wpAny_pure ?_)))))
  show wpAny _ _ (match Builtin.Slice.sliceAdjust none none (-1) (n : Int) with | (lo, hi) => pure (lo, (-1 : Int), Builtin.Slice.slicePlaces lo hi (-1))) _ _ s
  show wpAny _ _ (pure ((n : Int) - 1, (-1 : Int), Builtin.Slice.slicePlaces ((n : Int) - 1) (-1) (-1))) _ _ s
  have e : Builtin.Slice.slicePlaces ((n : Int) - 1) (-1) (-1) = n := by
    unfold Builtin.Slice.slicePlaces
    rw [if_neg (by decide)]
    by_cases z : n = 0
    · subst z
      rfl
    · rw [if_pos (by omega)]
      have : ((n : Int) - 1 - -1 - 1) / (- -1) + 1 = n := by
        rw [show (- -1 : Int) = 1 from rfl, Int.ediv_one]
        omega
      rw [this]
      exact Int.toNat_natCast n
  rw [e]
  exact wpAny_pure h
theorem pick_rev (xs : Array Value) : ((List.range xs.size).filterMap fun (k : Nat) => xs[(((xs.size : Int) - 1) + (k : Int) * -1).toNat]?).toArray = xs.toList.reverse.toArray := by
  have e : (fun (k : Nat) => xs[(((xs.size : Int) - 1) + (k : Int) * -1).toNat]?) = fun k => xs[xs.size - 1 - k]? := by
    funext k
    have : (((xs.size : Int) - 1) + (k : Int) * -1).toNat = xs.size - 1 - k := by omega
    rw [this]
  rw [e]
  have e2 : ((List.range xs.size).filterMap fun k => xs[xs.size - 1 - k]?) = ((List.range xs.size).map fun k => xs.size - 1 - k).filterMap (xs[·]?) := by
    rw [List.filterMap_map]
    rfl
  rw [e2, PySem.W.krv_range, List.filterMap_reverse, PySem.W.krv_all]
theorem getItem_tuple_rev {t sl : Addr} {items : Array Value} {vl vu vs : Value} {Q : Value → Shared → Prop} (ht : IsTup s.heap t items) (hs : s.heap.IsSliceOf sl vl vu vs) (pl : IsPart vl none) (pu : IsPart vu none) (ps : IsPart vs (some (-1)))
    (h : Q (.ref s.heap.objs.size) { s with heap := s.heap.push { cls := .type "tuple", data := .seq items.toList.reverse.toArray } })
    (hsz : items.size ≤ sizeLine) : wpAny (model prog w) A (getItem (.ref t) (.ref sl)) Q E s := by
  have htake : sizeOk (.seq items.toList.reverse.toArray) := by
    show items.toList.reverse.toArray.size ≤ sizeLine
    rw [List.size_toArray, List.length_reverse, Array.length_toList]
    exact hsz
  obtain ⟨os, hos, hcs, hds⟩ := id hs
  have hTs : s.TypeIs (.ref sl) "slice" := ⟨os, hos, hcs⟩
  unfold getItem
  try with_reducible refine wpAny_holding ?_
  first | refine wpAny_bind (wpAny_pure ?_) | skip
  refine wpAny_bind (wpAny_sequenceKey ht.typeIs (by decide) ?_)
  refine wpAny_bind (wpAny_callSpecial?_slot (name := Str.ofString "__getitem__") ht.typeIs PyProof.Rows.slot_tuple_getitem
    (wpAny_call_entry PyProof.Rows.slot_tuple_getitem ht.typeIs entry_tuple_getitem ?_ (args_tuple_getitem _ _)))
  show wpAny _ _ (Builtin.Tuple.tupleItemsOf (.ref t) >>= _) _ _ s
  refine wpAny_bind (tupleItemsOf_ ht ?_)
  refine wpAny_bind (wpAny_typeOf hTs ?_)
  rw [if_pos (by decide)]
  refine wpAny_bind (sliceApplied_rev hs pl pu ps ?_)
  have hno : ¬ ((((items.size : Int) - 1) == 0 && (-1 : Int) == 1 && items.size == items.size) = true) := by
    intro q
    rw [Bool.and_eq_true, Bool.and_eq_true] at q
    exact absurd q.1.2 (by decide)
  show wpAny _ _ (if (((items.size : Int) - 1) == 0 && (-1 : Int) == 1 && items.size == items.size) = true then _ else _) _ _ s
  rw [if_neg hno, pick_rev]
  first
    | exact wpAny_bind (m := Builtin.Tuple.tupleExact _) (wpAny_newObj_type (wpAny_pure ⟨_, rfl, wpAny_pure h⟩) htake)
    | exact wpAny_bind (m := Builtin.Tuple.tupleExact _) (wpAny_newObj_type (wpAny_bind (wpAny_pure (wpAny_pure ⟨_, rfl, wpAny_pure h⟩))) htake)
    | exact wpAny_bind (wpAny_bind (m := Builtin.Tuple.tupleExact _) (wpAny_newObj_type (wpAny_pure (wpAny_pure ⟨_, rfl, wpAny_pure h⟩)) htake))
    | exact wpAny_bind (wpAny_bind (m := Builtin.Tuple.tupleExact _) (wpAny_newObj_type (wpAny_pure ⟨_, rfl, wpAny_pure h⟩) htake))
end
section
variable {X : Cx}
def tRevT (K : PySem.W.Frag) (te : TE) : TE := fun σ H Q => te σ H fun x H1 => ∃ a xs, x = .ref a ∧ SqT K H1 a xs ∧ ∀ p, H1 p = none → Q (.ref p) (upd H1 p (.tup xs.reverse))
theorem pe_revT {e : Expr} {te : TE} {k : Nat} {p1 p2 p3 pos : Pos} (he : PE X e te) : PE X (.Subscript e (.Slice none none (some (.UnaryOp .USub (.Constant (.int 1) k p1) p2)) p3) pos) (tRevT X.K te) := by
  refine ⟨fun pins s σ H Q I h => ?_⟩
  refine Subscript_ (thn (he.run pins s σ H _ I h) fun v s1 ⟨x, H1, I1, r1, q1⟩ => ?_)
  obtain ⟨a, xs, ex, hx, q⟩ := q1
  subst ex
  cases r1
  have hst : PO X (some (.UnaryOp .USub (.Constant (.int 1) k p1) p2)) (tPart (tUn (rU fun i => .int (-i)) (tC (.int 1)))) := po_some (pe_un un_neg pe_int)
  refine wpAny_Slice (thn (po_none.run pins s1 σ H1 (fun o H2 => o = none ∧ H2 = H1) I1 ⟨rfl, rfl⟩) fun vl s2 ⟨l, H2, I2, pl, el, e2⟩ => ?_)
  subst el e2
  refine thn (po_none.run pins s2 σ H2 (fun o H3 => o = none ∧ H3 = H2) I2 ⟨rfl, rfl⟩) fun vu s3 ⟨u, H3, I3, pu, eu, e3⟩ => ?_
  subst eu e3
  refine thn (hst.run pins s3 σ H3 (fun o H4 => o = some (-1) ∧ H4 = H3) I3 ⟨1, rfl, -1, rfl, rfl, rfl⟩) fun vs s4 ⟨o, H4, I4, ps, eo, e4⟩ => ?_
  subst eo e4
  have I5 : Inv X pins σ H4 { s4 with heap := s4.heap.push { cls := .type "slice", data := .fields #[vl, vu, vs] } } := I4.kept (t' := s4.toks) fun b ob q => Heap.get?_push_of_some _ q
  obtain ⟨its, r, ht, hz⟩ := I5.tuple hx
  have hlen := r.length
  show wpAny (model X.prog X.w) X.A (subscriptTail e (.Slice none none (some (.UnaryOp .USub (.Constant (.int 1) k p1) p2)) p3) (.ref a) (.ref s4.heap.objs.size)) (EP X pins σ Q) X.xe { s4 with heap := s4.heap.push { cls := .type "slice", data := .fields #[vl, vu, vs] } }
  refine tail_any (ops := [.ref a, .ref s4.heap.objs.size]) ht.typeIs (PyProof.Rows.slot_tuple_getitem.lookup) ?_ (by with_unfolding_all rfl)
  refine getItem_tuple_rev ht (Heap.IsSliceOf.new _ vl vu vs) pl pu ps ?_ (by rw [List.size_toArray]; omega)
  refine ⟨.ref _, _, I5.laid (t' := s4.toks) (o := .tup xs.reverse) (fun b ob q => Heap.get?_push_of_some _ q) (Nat.le_refl _) ?_, rfl, q _ (I5.hok.fresh (Nat.le_refl _))⟩
  exact ⟨by rw [List.length_reverse]; exact hz, _, by simpa using r.reverse, IsTup.new _ _⟩
end

/-! ### logs in the heap -/
abbrev Cl := Int × Str
def IsC (H : Hp) (v : V) (c : Cl) : Prop := ∃ t, v = .ref t ∧ H t = some (.tup [.int c.1, .str c.2])
def LG (H : Hp) (vs : List V) (L : List Cl) : Prop := Paired (IsC H) vs L
theorem IsC.kt {H H' : Hp} {v : V} {d : Cl} (h : IsC H v d) (k : KT H H') : IsC H' v d := by
  obtain ⟨t, e, h⟩ := h
  exact ⟨t, e, k _ _ h⟩
theorem LG.kt {H H' : Hp} {vs : List V} {D : List Cl} (h : LG H vs D) (k : KT H H') : LG H' vs D := Paired.mapP h fun _ _ q => q.kt k
theorem LG.len {H : Hp} {vs : List V} {D : List Cl} (h : LG H vs D) : vs.length = D.length := Paired.length h
theorem LG.nil0 (H : Hp) : LG H [] [] := Paired.nil
theorem LG.snoc {H : Hp} {vs : List V} {D : List Cl} {v : V} {d : Cl} (h : LG H vs D) (q : IsC H v d) : LG H (vs ++ [v]) (D ++ [d]) := Paired.snoc h q
theorem pget {α β : Type} {F : α → β → Prop} : ∀ {vs : List α} {D : List β} {i : Nat} {v : α}, Paired F vs D → vs[i]? = some v → ∃ d, D[i]? = some d ∧ F v d
  | _, _, _, _, Paired.nil, e => by simp at e
  | _, _, 0, v, .cons r _, e => by
    have e2 := Option.some.inj e
    subst e2
    exact ⟨_, rfl, r⟩
  | _, _, i + 1, v, .cons _ t, e => pget (i := i) t e
theorem pget2 {α β : Type} {F : α → β → Prop} : ∀ {vs : List α} {D : List β} {i : Nat} {d : β}, Paired F vs D → D[i]? = some d → ∃ v, vs[i]? = some v ∧ F v d
  | _, _, _, _, Paired.nil, e => by simp at e
  | _, _, 0, v, .cons r _, e => by
    have e2 := Option.some.inj e
    subst e2
    exact ⟨_, rfl, r⟩
  | _, _, i + 1, v, .cons _ t, e => pget2 (i := i) t e
theorem prev {α β : Type} {F : α → β → Prop} {vs : List α} {D : List β} (h : Paired F vs D) : Paired F vs.reverse D.reverse := by
  induction h with
  | nil => exact Paired.nil
  | cons r _ ih =>
    rw [List.reverse_cons, List.reverse_cons]
    exact Paired.snoc ih r
theorem inV_ints (j : Int) (l : List Int) : inV (.int j) (l.map V.int) = decide (j ∈ l) := by
  induction l with
  | nil => rfl
  | cons x l ih =>
    have e : inV (.int j) ((x :: l).map V.int) = (eqV (.int x) (.int j) || inV (.int j) (l.map V.int)) := rfl
    rw [e, ih]
    have e2 : eqV (.int x) (.int j) = decide (x = j) := by
      unfold eqV
      by_cases h : x = j
      · subst h
        simp
      · simp [h]
    rw [e2]
    by_cases h : j = x
    · subst h
      simp
    · have h' : ¬ x = j := fun z => h z.symm
      simp [h, h']
theorem flat_ints (l : List Int) : (l.map V.int).all flatV = true := by
  rw [List.all_eq_true]
  intro v hv
  obtain ⟨x, _, rfl⟩ := List.mem_map.mp hv
  rfl
/-- the last calls of a log -/
theorem rep1 {α : Type} (n : Nat) (x : α) : (List.replicate n [x]).flatten = List.replicate n x := by
  induction n with
  | zero => rfl
  | succ n ih =>
    rw [List.replicate_succ, List.flatten_cons, List.replicate_succ, ih]
    rfl
def lastF : List Cl → List Cl
  | [] => []
  | c :: S => if c.1 ∈ S.map (·.1) then lastF S else c :: lastF S
theorem lastF_len (L : List Cl) : (lastF L).length ≤ L.length := by
  induction L with
  | nil => exact Nat.le_refl _
  | cons c S ih =>
    show (if c.1 ∈ S.map (·.1) then lastF S else c :: lastF S).length ≤ S.length + 1
    split
    · omega
    · rw [List.length_cons]
      omega
theorem drop_step {L : List Cl} {i : Nat} {c : Cl} (hi : i < L.length) (g : L[L.length - 1 - i]? = some c) : L.drop (L.length - (i + 1)) = c :: L.drop (L.length - i) := by
  have h : L.length - (i + 1) < L.length := by omega
  rw [List.drop_eq_getElem_cons h]
  have e1 : L.length - (i + 1) + 1 = L.length - i := by omega
  have e2 : L.length - (i + 1) = L.length - 1 - i := by omega
  rw [e1]
  congr 1
  rw [← e2, List.getElem?_eq_getElem h] at g
  exact Option.some.inj g
def inS (S : List Cl) : Int → Bool := fun k => decide (k ∈ S.map (·.1))
theorem inS_same {S : List Cl} {c : Cl} (h : c.1 ∈ S.map (·.1)) : inS (c :: S) = inS S := by
  funext k
  unfold inS
  by_cases e : k ∈ S.map (·.1)
  · rw [decide_eq_true e, List.map_cons, decide_eq_true (List.mem_cons_of_mem _ e)]
  · rw [decide_eq_false e, List.map_cons, decide_eq_false]
    intro z
    rcases List.mem_cons.mp z with z | z
    · exact e (by rw [z]; exact h)
    · exact e z
theorem inS_more {S : List Cl} {c : Cl} : (fun j => inS S j || decide (j = c.1)) = inS (c :: S) := by
  funext k
  unfold inS
  rw [List.map_cons]
  by_cases e1 : k = c.1
  · subst e1
    simp
  · by_cases e2 : k ∈ S.map (·.1)
    · rw [decide_eq_true e2, decide_eq_true (List.mem_cons_of_mem _ e2), Bool.true_or]
    · rw [decide_eq_false e2, decide_eq_false e1, decide_eq_false, Bool.or_false]
      intro z
      rcases List.mem_cons.mp z with z | z
      · exact e1 z
      · exact e2 z
theorem atI01 {a b : V} : atI [a, b] 0 = some a ∧ atI [a, b] 1 = some b := ⟨rfl, rfl⟩
abbrev sLast : Stmt := topS 2
abbrev sOrd : Stmt := topS 0
abbrev sWds : Stmt := topS 3
abbrev sLci : Stmt := topS 4
abbrev sTopR : Stmt := topS 5
abbrev sWof : Stmt := topS 6
abbrev sLof : Stmt := topS 0
section
variable {P : Program} {w : World} {K : PySem.W.Frag} {mg : Str → Option Value} {base : Heap}
theorem scLast : FnScope ["log", "called", "backwards", "room", "word"] ["log"] (defScope sLast) := ⟨rfl, rfl, rfl, by decide +kernel, rfl, by decide +kernel, by decide +kernel⟩
def spLast : Sp := fun vs H Q _ => ∃ (l : Addr) (us : List V) (L : List Cl), vs = [.ref l] ∧ H l = some (.lst us) ∧ LG H us L ∧ L.length ≤ 1000 ∧
  ∀ ws p H', Same H H' → H p = none → H' p = some (.lst ws) → LG H' ws (lastF L) → Q (.ref p) H'
theorem ok_last {f : Addr} {fd : FuncData} (F : Fun K "last_calls" "last_calls" sLast f fd) (T : Bi mg) (mrev : mg "reversed" = none) : FnOk P w K mg base CX0 1 f fd ["log"] spLast := by
  refine F.ok scLast (fun vs H Q E h => ?_) (fun cdv A outer s H vs Q E hr h => ?_)
  · obtain ⟨l, us, L, rfl, _⟩ := h
    rfl
  · obtain ⟨l, us, L, rfl, hl, lg, ln, q⟩ := h
    refine ⟨_, (pss_cons (ps_set (i := 1) scLast.nd rfl (Or.inl rfl) (pe_callTy0 cr_set0 (by rfl) T.set (by decide +kernel)))
      (pss_cons (ps_set (i := 2) scLast.nd rfl (Or.inl rfl) (pe_lst pa_nil))
      (pss_cons (ps_for PassesOwn.never rfl (pi_reversed (by rfl) mrev (pa_cons (pv 0) pa_nil)) (pg_tup rfl (pgs_cons (pg_name (i := 3) scLast.nd rfl (Or.inl rfl)) (pgs_cons (pg_name (i := 4) scLast.nd rfl (Or.inl rfl)) pgs_nil)))
      (pss_one (ps_if (pt_cmpR or_snotin (pv 3) (pv 1) (by rfl))
        (pss_cons (ps_expr (pe_sadd (pv 1) (pa_cons (pv 3) pa_nil)))
          (pss_one (ps_expr (pe_bm PySem.F.plainAttrs_list PySem.F.slot_list_append PySem.F.type_list_append mt_append (pv 2) (pa_cons (pe_tup (pa_cons (pv 3) (pa_cons (pv 4) pa_nil))) pa_nil)))))
        pss_nil)))
      (pss_one (ps_ret (pe_revL (pv 2))))))), ?_⟩
    walk_at "rd"
    refine ⟨rfl, fun a na => ⟨Nat.zero_le _, fun b nb => ?_⟩⟩
    have ul : us.length = L.length := lg.len
    have nab : a ≠ b := fun z => by
      rw [← z, upd_same] at nb
      cases nb
    have fb : H b = none := by
      rw [upd_ne nab.symm] at nb
      exact nb
    obtain ⟨Pv, hPv⟩ : ∃ Pv : Nat → L2.St → Hp → Prop, Pv = (fun i σ H' => ∃ (n : Nat) (ws : List V) (v3 v4 : Option V), σ = [some (.ref l), some (.ref a), some (.ref b), v3, v4] ∧ Same H H' ∧ H' a = some (SetO w a (inS (L.drop (L.length - i))) n) ∧ n ≤ i ∧ H' b = some (.lst ws) ∧ LG H' ws (lastF (L.drop (L.length - i))).reverse) := ⟨_, rfl⟩
    have e0 : L.drop (L.length - 0) = [] := List.drop_eq_nil_of_le (by omega)
    refine ⟨_, rfl, l, us, rfl, SqL.of ((same_upd na).trans (same_upd nb) _ _ hl), RT.for_Itv Pv (by rw [hPv]; exact ⟨0, [], none, none, rfl, (same_upd na).trans (same_upd nb), by rw [e0, upd_ne nab, upd_same]; rfl, Nat.le_refl _, upd_same, by rw [e0]; exact LG.nil0 _⟩) (fun i σ H' pv => by rw [hPv] at pv; obtain ⟨_, _, _, _, _, sm, _⟩ := pv; exact SqL.of (sm _ _ hl)) (fun i v σ H' hi gv pv => ?_) (fun σ H' pv => ?_)⟩
    · have nxt : ∀ n ws v3 v4 H', Same H H' → H' a = some (SetO w a (inS (L.drop (L.length - (i + 1)))) n) → n ≤ i + 1 → H' b = some (.lst ws) → LG H' ws (lastF (L.drop (L.length - (i + 1)))).reverse → Pv (i + 1) [some (.ref l), some (.ref a), some (.ref b), v3, v4] H' := fun n ws v3 v4 H' h1 h2 h3 h4 h5 => by
        rw [hPv]
        exact ⟨n, ws, v3, v4, rfl, h1, h2, h3, h4, h5⟩
      rw [hPv] at pv
      obtain ⟨n, ws, v3, v4, rfl, sm, ha, hn, hb, lw⟩ := pv
      rw [ul] at gv hi
      obtain ⟨c, gc, tc, rfl, htc⟩ := pget lg gv
      have st := drop_step hi gc
      rw [st] at nxt
      have htc1 := sm _ _ htc
      have wl : ws.length ≤ 1000 := by
        rw [lw.len, List.length_reverse]
        have := lastF_len (L.drop (L.length - i))
        rw [List.length_drop] at this
        omega
      walk_at "rd"
      refine ⟨_, SqT.of htc1, rfl, _, _, rfl, _, _, rfl, rfl, ?_⟩
      walk_at "rd"
      refine ⟨c.1, a, _, n, rfl, rfl, ha, ?_⟩
      refine ⟨_, rfl, ?_⟩
      by_cases hm : c.1 ∈ (L.drop (L.length - i)).map (·.1)
      · have e : (!inS (L.drop (L.length - i)) c.1) = false := by
          unfold inS
          rw [decide_eq_true hm]
          rfl
        rw [e]
        refine iteF (nxt n ws _ _ _ sm (by rw [inS_same hm]; exact ha) (by omega) hb ?_)
        show LG H' ws (if c.1 ∈ (L.drop (L.length - i)).map (·.1) then lastF (L.drop (L.length - i)) else c :: lastF (L.drop (L.length - i))).reverse
        rw [if_pos hm]
        exact lw
      · have e : (!inS (L.drop (L.length - i)) c.1) = true := by
          unfold inS
          rw [decide_eq_false hm]
          rfl
        rw [e]
        refine iteT ?_
        have s0 : Same H' H' := Same.refl _
        refine ⟨_, rfl, ⟨a, _, n, rfl, ha⟩, _, rfl, a, c.1, _, n, rfl, rfl, ha, (by show n + 1 < 4096; omega), ?_⟩
        have e2 : inS (L.drop (L.length - i)) c.1 = false := by
          unfold inS
          exact decide_eq_false hm
        rw [inS_more, e2]
        have fa : H a = none := na
        have hb2 : upd H' a (SetO w a (inS (c :: L.drop (L.length - i))) (if false = true then n else n + 1)) b = some (.lst ws) := by rw [upd_ne nab.symm]; exact hb
        have ha2 : upd H' a (SetO w a (inS (c :: L.drop (L.length - i))) (if false = true then n else n + 1)) a = some (SetO w a (inS (c :: L.drop (L.length - i))) (n + 1)) := upd_same
        have sm2 : Same H (upd H' a (SetO w a (inS (c :: L.drop (L.length - i))) (if false = true then n else n + 1))) := same_ch sm fa
        have kt2 : KT H' (upd H' a (SetO w a (inS (c :: L.drop (L.length - i))) (if false = true then n else n + 1))) := KT.ch ha (fun xs z => by unfold SetO at z; cases z)
        generalize upd H' a (SetO w a (inS (c :: L.drop (L.length - i))) (if false = true then n else n + 1)) = H2 at hb2 ha2 sm2 kt2
        walk_at "rd"
        refine ⟨.inl ⟨rfl, _, SqL.of hb2⟩, (by show 2 ≤ sizeLine; decide), fun t nt => ?_⟩
        have nbt : b ≠ t := ne_of_none hb2 nt
        refine ⟨ws, by rw [upd_ne nbt]; exact hb2, len_big (by omega), nxt (n + 1) (ws ++ [.ref t]) _ _ _ (same_ch (sm2.trans (same_upd nt)) fb) ?_ (by omega) upd_same ?_⟩
        · rw [upd_ne nab, upd_ne (ne_of_none ha2 nt)]
          exact ha2
        · show LG _ _ (if c.1 ∈ (L.drop (L.length - i)).map (·.1) then lastF (L.drop (L.length - i)) else c :: lastF (L.drop (L.length - i))).reverse
          rw [if_neg hm, List.reverse_cons]
          refine LG.snoc (((lw.kt kt2).kt (KT.new nt)).kt (KT.lst (by rw [upd_ne nbt]; exact hb2))) ⟨t, rfl, ?_⟩
          rw [upd_ne nbt.symm, upd_same]
    · rw [hPv] at pv
      obtain ⟨n, ws, v3, v4, rfl, sm, ha, hn, hb, lw⟩ := pv
      rw [ul, Nat.sub_self, List.drop_zero] at lw
      refine ⟨_, rfl, b, ws, rfl, SqL.of hb, fun p np => ?_⟩
      refine q ws.reverse p _ (sm.trans (same_upd np)) (sm.free np) upd_same ?_
      have := prev (lw.kt (KT.new (o := HO.lst ws.reverse) np))
      rw [List.reverse_reverse] at this
      exact this
def spOrd : Sp := fun vs H Q _ => ∃ (l : Addr) (us : List V) (L : List Cl), vs = [.ref l] ∧ H l = some (.lst us) ∧ LG H us L ∧ L.length ≤ 1000 ∧
  ∀ p H', Same H H' → H p = none → H' p = some (.tup ((lastF L).map fun c => V.int c.1)) → Q (.ref p) H'
theorem scWds : FnScope ["house", "log", "words", "room", "word"] ["house", "log"] (defScope sWds) := ⟨rfl, rfl, rfl, by decide +kernel, rfl, by decide +kernel, by decide +kernel⟩
/-- the last word of each of r rooms -/
def wordsF (r : Nat) (L : List Cl) : List V := L.foldl (fun W c => W.set c.1.toNat (.str c.2)) (List.replicate r .non)
theorem wordsF_len (r : Nat) (L : List Cl) : (wordsF r L).length = r := by
  have key : ∀ (L : List Cl) (W : List V), (L.foldl (fun W c => W.set c.1.toNat (.str c.2)) W).length = W.length := by
    intro L
    induction L with
    | nil => intro W; rfl
    | cons c L ih =>
      intro W
      show (L.foldl _ (W.set c.1.toNat (.str c.2))).length = _
      rw [ih, List.length_set]
  unfold wordsF
  rw [key, List.length_replicate]
def InR (r : Nat) (L : List Cl) : Prop := ∀ c ∈ L, 0 ≤ c.1 ∧ c.1 < r
theorem wordsF_step {r : Nat} {L : List Cl} {j : Nat} {c : Cl} (g : L[j]? = some c) : wordsF r (L.take (j + 1)) = (wordsF r (L.take j)).set c.1.toNat (.str c.2) := by
  unfold wordsF
  rw [List.take_add_one, g, List.foldl_append]
  rfl
def spWds (C : Addr) : Sp := fun vs H Q _ => ∃ (p l : Addr) (us : List V) (L : List Cl) (r : Nat) (D : List Pr) (own : List Addr), vs = [.ref p, .ref l] ∧ HouseAt C H p r D own ∧ H l = some (.lst us) ∧ LG H us L ∧ InR r L ∧
  ∀ q H', Same H H' → H q = none → H' q = some (.lst (wordsF r L)) → Q (.ref q) H'
theorem ok_wds {f C : Addr} {fd : FuncData} (F : Fun K "words_of" "words_of" sWds f fd) (U : Hs K mg C) : FnOk P w K mg base CX0 1 f fd ["house", "log"] (spWds C) := by
  refine F.ok scWds (fun vs H Q E h => ?_) (fun cdv A outer s H vs Q E hr h => ?_)
  · obtain ⟨p, l, us, L, r, D, own, rfl, _⟩ := h
    rfl
  · obtain ⟨p, l, us, L, r, D, own, rfl, hh, hl, lg, inr, q⟩ := h
    obtain ⟨dx, l0, m0, ls, nss, h1, _⟩ := hh.ex
    have r12 := hh.r12
    refine ⟨_, (pss_cons (ps_set (i := 2) scWds.nd rfl (Or.inl rfl) (pe_op op_rep (pe_lst (pa_cons pe_non pa_nil)) (pe_fld (pv 0) rfl)))
      (pss_cons (ps_for PassesOwn.never rfl (pi_list (pv 1)) (pg_tup rfl (pgs_cons (pg_name (i := 3) scWds.nd rfl (Or.inl rfl)) (pgs_cons (pg_name (i := 4) scWds.nd rfl (Or.inl rfl)) pgs_nil)))
      (pss_one (ps_asg (pv 4) (pg_sub (pv 2) (pv 3) set_list))))
      (pss_one (ps_ret (pv 2))))), ?_⟩
    walk_at "rd"
    refine ⟨by decide, fun e ne => ?_⟩
    have s0 : Same H (upd H e (HO.lst [V.non])) := same_upd ne
    refine ⟨C, dx, _, s0 _ _ h1, U.cl, U.nR, .int r, hf_rooms _ _ _, e, r, [.non], rfl, rfl, upd_same, by omega, by omega, by show 1 * _ ≤ sizeLine; exact Nat.le_of_lt (len_big (by omega)), fun t nt => ?_⟩
    have s1 := s0.trans (same_upd (o := HO.lst (List.replicate (r : Int).toNat [V.non]).flatten) nt)
    have ft : H t = none := s0.free nt
    have e0 : (List.replicate (r : Int).toNat [V.non]).flatten = wordsF r [] := by
      rw [Int.toNat_natCast]
      show _ = List.replicate r V.non
      exact rep1 r V.non
    rw [e0] at s1 ⊢
    have htt : upd (upd H e (HO.lst [V.non])) t (HO.lst (wordsF r [])) t = some (.lst (wordsF r [])) := upd_same
    generalize upd (upd H e (HO.lst [V.non])) t (HO.lst (wordsF r [])) = H1 at s1 htt
    obtain ⟨Pv, hPv⟩ : ∃ Pv : Nat → L2.St → Hp → Prop, Pv = (fun i σ H' => ∃ v3 v4 : Option V, σ = [some (.ref p), some (.ref l), some (.ref t), v3, v4] ∧ Same H H' ∧ H' t = some (.lst (wordsF r (L.take i)))) := ⟨_, rfl⟩
    refine ⟨_, rfl, l, rfl, ⟨_, SqL.of (s1 _ _ hl)⟩, for_list (K := K) (a := l) (xs := us) Pv (by rw [hPv]; exact ⟨none, none, rfl, s1, htt⟩) (fun i σ H' _ pv => by rw [hPv] at pv; obtain ⟨_, _, _, sm, _⟩ := pv; exact SqL.of (sm _ _ hl)) (fun i v σ H' gv pv => ?_) (fun σ H' pv => ?_)⟩
    · have nxt : ∀ v3 v4 H', Same H H' → H' t = some (.lst (wordsF r (L.take (i + 1)))) → Pv (i + 1) [some (.ref p), some (.ref l), some (.ref t), v3, v4] H' := fun v3 v4 H' h1 h2 => by
        rw [hPv]
        exact ⟨v3, v4, rfl, h1, h2⟩
      rw [hPv] at pv
      obtain ⟨v3, v4, rfl, sm, ht⟩ := pv
      obtain ⟨c, gc, tc, rfl, htc⟩ := pget lg gv
      have rc := inr c (List.mem_of_getElem? gc)
      walk_at "rd"
      refine ⟨_, SqT.of (sm _ _ htc), rfl, _, _, rfl, _, _, rfl, rfl, ?_⟩
      walk_at "rd"
      refine ⟨_, ht, c.1.toNat, ixn (by omega) (by rw [wordsF_len]; omega), nxt _ _ _ (same_ch sm ft) ?_⟩
      rw [upd_same, wordsF_step gc]
    · rw [hPv] at pv
      obtain ⟨v3, v4, rfl, sm, ht⟩ := pv
      have ul : us.length = L.length := lg.len
      rw [ul, List.take_length] at ht
      walk_at "rd"
      exact q t H' sm ft ht
theorem scLci : FnScope ["log", "rooms", "call"] ["log", "rooms"] (defScope sLci) := ⟨rfl, rfl, rfl, by decide +kernel, rfl, by decide +kernel, by decide +kernel⟩
/-- the last call in any of the rooms -/
def lastIn (R : List Int) (L : List Cl) : Option Cl := L.reverse.find? fun c => decide (c.1 ∈ R)
def spLci (K : PySem.W.Frag) : Sp := fun vs H Q _ => ∃ (l o : Addr) (us : List V) (L : List Cl) (R : List Int), vs = [.ref l, .ref o] ∧ H l = some (.lst us) ∧ LG H us L ∧ (SqL K H o (R.map V.int) ∨ SqT K H o (R.map V.int)) ∧ (lastIn R L = none → Q .non H) ∧ (∀ t c, lastIn R L = some c → H t = some (.tup [.int c.1, .str c.2]) → Q (.ref t) H)
theorem ok_lci {f : Addr} {fd : FuncData} (F : Fun K "last_call_in" "last_call_in" sLci f fd) (mrev : mg "reversed" = none) : FnOk P w K mg base CX0 1 f fd ["log", "rooms"] (spLci K) := by
  refine F.ok scLci (fun vs H Q E h => ?_) (fun cdv A outer s H vs Q E hr h => ?_)
  · obtain ⟨l, o, us, L, R, rfl, _⟩ := h
    rfl
  · obtain ⟨l, o, us, L, R, rfl, hl, lg, ho, qn, qs⟩ := h
    have ul : us.length = L.length := lg.len
    refine ⟨_, (pss_cons (ps_for PassesOwn.never rfl (pi_reversed (by rfl) mrev (pa_cons (pv 0) pa_nil)) (pg_name (i := 2) scLci.nd rfl (Or.inl rfl))
      (pss_one (ps_if (pt_cmpR op_in_seq (pe_ix ix_tup (pv 2) pe_int (fun _ _ => rfl)) (pv 1) (by rfl))
        (pss_one (ps_ret (pv 2)))
        pss_nil)))
      (pss_one (ps_ret pe_non))), ?_⟩
    walk_at "rd"
    obtain ⟨Pv, hPv⟩ : ∃ Pv : Nat → L2.St → Hp → Prop, Pv = (fun i σ H' => ∃ v2 : Option V, σ = [some (.ref l), some (.ref o), v2] ∧ H' = H ∧ lastIn R (L.drop (L.length - i)) = none) := ⟨_, rfl⟩
    refine ⟨_, rfl, l, us, rfl, SqL.of hl, RT.for_Itv Pv (by rw [hPv]; exact ⟨none, rfl, rfl, by rw [Nat.sub_zero, List.drop_length]; rfl⟩) (fun i σ H' pv => by rw [hPv] at pv; obtain ⟨_, _, rfl, _⟩ := pv; exact SqL.of hl) (fun i v σ H' hi gv pv => ?_) (fun σ H' pv => ?_)⟩
    · have nxt : ∀ v2, lastIn R (L.drop (L.length - (i + 1))) = none → Pv (i + 1) [some (.ref l), some (.ref o), v2] H := fun v2 h => by
        rw [hPv]
        exact ⟨v2, rfl, rfl, h⟩
      rw [hPv] at pv
      obtain ⟨v2, rfl, rfl, none_⟩ := pv
      rw [ul] at gv hi
      obtain ⟨c, gc, tc, rfl, htc⟩ := pget lg gv
      have st := drop_step hi gc
      have cons : lastIn R (c :: L.drop (L.length - i)) = if c.1 ∈ R then some c else none := by
        unfold lastIn at none_ ⊢
        rw [List.reverse_cons, List.find?_append, none_]
        by_cases e : c.1 ∈ R
        · simp [e]
        · simp [e]
      rw [st, cons] at nxt
      walk_at "rd"
      refine ⟨_, SqT.of htc, .int c.1, rfl, o, _, rfl, ho, rfl, flat_ints _, ?_⟩
      rw [inV_ints]
      refine ⟨_, rfl, ?_⟩
      by_cases e : c.1 ∈ R
      · rw [decide_eq_true e]
        refine iteT (qs tc c ?_ htc)
        have e1 : L = L.take (L.length - (i + 1)) ++ (c :: L.drop (L.length - i)) := by
          rw [← st]
          exact (List.take_append_drop _ _).symm
        rw [e1]
        unfold lastIn at cons ⊢
        rw [if_pos e] at cons
        rw [List.reverse_append, List.find?_append, cons]
        rfl
      · rw [decide_eq_false e]
        rw [if_neg e] at nxt
        exact iteF (nxt _ rfl)
    · rw [hPv] at pv
      obtain ⟨v2, rfl, rfl, none_⟩ := pv
      rw [ul, Nat.sub_self, List.drop_zero] at none_
      walk_at "rd"
      exact qn none_
theorem scTopR : FnScope ["log", "rooms", "call"] ["log", "rooms"] (defScope sTopR) := ⟨rfl, rfl, rfl, by decide +kernel, rfl, by decide +kernel, by decide +kernel⟩
def optR (o : Option Cl) : V := match o with
  | none => .non
  | some c => .int c.1
def optW (o : Option Cl) : V := match o with
  | none => .non
  | some c => .str c.2
def spTopR (K : PySem.W.Frag) (g : Option Cl → V) : Sp := fun vs H Q _ => ∃ (l o : Addr) (us : List V) (L : List Cl) (R : List Int), vs = [.ref l, .ref o] ∧ H l = some (.lst us) ∧ LG H us L ∧ (SqL K H o (R.map V.int) ∨ SqT K H o (R.map V.int)) ∧ Q (g (lastIn R L)) H
theorem lastIn_at {H : Hp} {us : List V} {L : List Cl} {R : List Int} {c : Cl} (lg : LG H us L) (h : lastIn R L = some c) : ∃ t, H t = some (.tup [.int c.1, .str c.2]) := by
  unfold lastIn at h
  have m := List.mem_of_find?_eq_some h
  obtain ⟨i, g⟩ := List.getElem?_of_mem (List.mem_reverse.mp m)
  obtain ⟨v, _, t, _, e⟩ := pget2 lg g
  exact ⟨t, e⟩
theorem ok_topR {f fL : Addr} {fd fdL : FuncData} (F : Fun K "top_room" "top_room" sTopR f fd) (d_last_call_in : Df P w K mg base "last_call_in" ["log", "rooms"] 1 (spLci K) fL fdL) : FnOk P w K mg base CX0 2 f fd ["log", "rooms"] (spTopR K optR) := by
  refine F.ok scTopR (fun vs H Q E h => ?_) (fun cdv A outer s H vs Q E hr h => ?_)
  · obtain ⟨l, o, us, L, R, rfl, _⟩ := h
    rfl
  · obtain ⟨l, o, us, L, R, rfl, hl, lg, ho, q⟩ := h
    refine ⟨_, (pss_cons (ps_set (i := 2) scTopR.nd rfl (Or.inl rfl) (pe_call d_last_call_in.ok (hr.mono (by decide)) (by rfl) d_last_call_in.at_ d_last_call_in.kp d_last_call_in.b .nil pass0 (pa_cons (pv 0) (pa_cons (pv 1) pa_nil))))
      (pss_one (ps_ret (pe_ifExp (pt_cmpR op_isN (pv 2) pe_non (nomark _)) pe_non (pe_ix ix_tup (pv 2) pe_int (fun _ _ => rfl)))))), ?_⟩
    walk_at "rd"
    refine ⟨l, o, us, L, R, rfl, hl, lg, ho, fun e => ?_, fun t c e ht => ?_⟩
    · rw [e] at q
      walk_at "rd"
      exact q
    · rw [e] at q
      walk_at "rd"
      rw [if_neg (by decide)]
      exact ⟨_, SqT.of ht, _, rfl, q⟩
theorem scWof : FnScope ["log", "rooms", "call"] ["log", "rooms"] (defScope sWof) := ⟨rfl, rfl, rfl, by decide +kernel, rfl, by decide +kernel, by decide +kernel⟩
theorem ok_wof {f fL : Addr} {fd fdL : FuncData} (F : Fun K "word_of" "word_of" sWof f fd) (d_last_call_in : Df P w K mg base "last_call_in" ["log", "rooms"] 1 (spLci K) fL fdL) : FnOk P w K mg base CX0 2 f fd ["log", "rooms"] (spTopR K optW) := by
  refine F.ok scWof (fun vs H Q E h => ?_) (fun cdv A outer s H vs Q E hr h => ?_)
  · obtain ⟨l, o, us, L, R, rfl, _⟩ := h
    rfl
  · obtain ⟨l, o, us, L, R, rfl, hl, lg, ho, q⟩ := h
    refine ⟨_, (pss_cons (ps_set (i := 2) scWof.nd rfl (Or.inl rfl) (pe_call d_last_call_in.ok (hr.mono (by decide)) (by rfl) d_last_call_in.at_ d_last_call_in.kp d_last_call_in.b .nil pass0 (pa_cons (pv 0) (pa_cons (pv 1) pa_nil))))
      (pss_one (ps_ret (pe_ifExp (pt_cmpR op_isN (pv 2) pe_non (nomark _)) pe_non (pe_ix ix_tup (pv 2) pe_int (fun _ _ => rfl)))))), ?_⟩
    walk_at "rd"
    refine ⟨l, o, us, L, R, rfl, hl, lg, ho, fun e => ?_, fun t c e ht => ?_⟩
    · rw [e] at q
      walk_at "rd"
      exact q
    · rw [e] at q
      walk_at "rd"
      rw [if_neg (by decide)]
      exact ⟨_, SqT.of ht, _, rfl, q⟩
def spLof (K : PySem.W.Frag) : Sp := fun vs H Q _ => ∃ (l o : Addr) (W : List V) (L : List Cl), vs = [.ref l, .ref o] ∧ H l = some (.lst W) ∧ H o = some (.tup (L.map fun c => V.int c.1)) ∧ L.length ≤ 1000 ∧ (∀ c ∈ L, 0 ≤ c.1 ∧ W[c.1.toNat]? = some (.str c.2)) ∧
  ∀ ws p H', Same H H' → H p = none → H' p = some (.lst ws) → LG H' ws L → Q (.ref p) H'
end
abbrev sLtop : Stmt := topS 53
abbrev sLwof : Stmt := topS 54
abbrev sLlast : Stmt := topS 0
abbrev sSpell : Stmt := topS 0
abbrev sPool : Stmt := topS 0
abbrev sSize : Stmt := topS 0
abbrev sDrawn : Stmt := topS 0
abbrev sChosen : Stmt := topS 0
theorem lastIn_step {R : List Int} {L : List Cl} {i : Nat} {c : Cl} (g : L[i]? = some c) : lastIn R (L.take (i + 1)) = if c.1 ∈ R then some c else lastIn R (L.take i) := by
  rw [List.take_add_one, g]
  unfold lastIn
  show List.find? _ (L.take i ++ [c]).reverse = _
  rw [List.reverse_append]
  show List.find? _ (c :: (L.take i).reverse) = _
  by_cases e : c.1 ∈ R
  · rw [List.find?_cons_of_pos (by simp [e]), if_pos e]
  · rw [List.find?_cons_of_neg (by simp [e]), if_neg e]
theorem cut_drop (xs : List V) (k : Nat) : cutV xs (some ((k : Nat) : Int)) none = xs.drop k := by
  unfold cutV
  rw [show HT.sIx xs.length 0 (some ((k : Nat) : Int)) = min k xs.length from HT.sIx_nat xs.length 0 k, HT.sIx_none]
  by_cases h : k ≤ xs.length
  · rw [Nat.min_eq_left h]
    refine List.take_of_length_le ?_
    rw [List.length_drop]
    exact Nat.le_refl _
  · rw [Nat.min_eq_right (by omega), List.drop_length, List.drop_eq_nil_of_le (by omega)]
    exact List.take_nil
theorem for_iter {wi : TI} {g : TG} {tb : TS} {D : Ends} {σ : L2.St} {H : Hp} (h : wi σ H fun J H1 => tFor (fun _ H R => R J H) g tb D σ H1) : tFor wi g tb D σ H := h
section
variable {P : Program} {w : World} {K : PySem.W.Frag} {mg : Str → Option Value} {base : Heap}
theorem scLtop : FnScope ["log", "rooms", "top", "call"] ["log", "rooms"] (defScope sLtop) := ⟨rfl, rfl, rfl, by decide +kernel, rfl, by decide +kernel, by decide +kernel⟩
theorem ok_ltop {f : Addr} {fd : FuncData} (F : Fun K "_law_top" "_law_top" sLtop f fd) : FnOk P w K mg base CX0 1 f fd ["log", "rooms"] (spTopR K optR) := by
  refine F.ok scLtop (fun vs H Q E h => ?_) (fun cdv A outer s H vs Q E hr h => ?_)
  · obtain ⟨l, o, us, L, R, rfl, _⟩ := h
    rfl
  · obtain ⟨l, o, us, L, R, rfl, hl, lg, ho, q⟩ := h
    have ul : us.length = L.length := lg.len
    refine ⟨_, (pss_cons (ps_set (i := 2) scLtop.nd rfl (Or.inl rfl) pe_non)
      (pss_cons (ps_for PassesOwn.never rfl (pi_list (pv 0)) (pg_name (i := 3) scLtop.nd rfl (Or.inl rfl))
      (pss_one (ps_if (pt_cmpR op_in_seq (pe_ix ix_tup (pv 3) pe_int (fun _ _ => rfl)) (pv 1) (by rfl))
        (pss_one (ps_set (i := 2) scLtop.nd rfl (Or.inl rfl) (pe_ix ix_tup (pv 3) pe_int (fun _ _ => rfl))))
        pss_nil)))
      (pss_one (ps_ret (pv 2))))), ?_⟩
    walk_at "rd"
    obtain ⟨Pv, hPv⟩ : ∃ Pv : Nat → L2.St → Hp → Prop, Pv = (fun i σ H' => ∃ v3 : Option V, σ = [some (.ref l), some (.ref o), some (optR (lastIn R (L.take i))), v3] ∧ H' = H) := ⟨_, rfl⟩
    refine ⟨_, rfl, l, rfl, ⟨_, SqL.of hl⟩, for_list (K := K) (a := l) (xs := us) Pv (by rw [hPv]; exact ⟨none, rfl, rfl⟩) (fun i σ H' _ pv => by rw [hPv] at pv; obtain ⟨_, _, rfl⟩ := pv; exact SqL.of hl) (fun i v σ H' gv pv => ?_) (fun σ H' pv => ?_)⟩
    · have nxt : ∀ v3, Pv (i + 1) [some (.ref l), some (.ref o), some (optR (lastIn R (L.take (i + 1)))), v3] H := fun v3 => by
        rw [hPv]
        exact ⟨v3, rfl, rfl⟩
      rw [hPv] at pv
      obtain ⟨v3, rfl, rfl⟩ := pv
      obtain ⟨c, gc, tc, rfl, htc⟩ := pget lg gv
      rw [lastIn_step gc] at nxt
      walk_at "rd"
      refine ⟨_, SqT.of htc, .int c.1, rfl, o, _, rfl, ho, rfl, flat_ints _, ?_⟩
      rw [inV_ints]
      refine ⟨_, rfl, ?_⟩
      by_cases e : c.1 ∈ R
      · rw [decide_eq_true e]
        rw [if_pos e] at nxt
        exact iteT ⟨_, SqT.of htc, .int c.1, rfl, nxt _⟩
      · rw [decide_eq_false e]
        rw [if_neg e] at nxt
        exact iteF (nxt _)
    · rw [hPv] at pv
      obtain ⟨v3, rfl, rfl⟩ := pv
      rw [ul, List.take_length]
      walk_at "rd"
      exact q
theorem scLwof : FnScope ["log", "rooms", "word", "call"] ["log", "rooms"] (defScope sLwof) := ⟨rfl, rfl, rfl, by decide +kernel, rfl, by decide +kernel, by decide +kernel⟩
theorem ok_lwof {f : Addr} {fd : FuncData} (F : Fun K "_law_word_of" "_law_word_of" sLwof f fd) : FnOk P w K mg base CX0 1 f fd ["log", "rooms"] (spTopR K optW) := by
  refine F.ok scLwof (fun vs H Q E h => ?_) (fun cdv A outer s H vs Q E hr h => ?_)
  · obtain ⟨l, o, us, L, R, rfl, _⟩ := h
    rfl
  · obtain ⟨l, o, us, L, R, rfl, hl, lg, ho, q⟩ := h
    have ul : us.length = L.length := lg.len
    refine ⟨_, (pss_cons (ps_set (i := 2) scLwof.nd rfl (Or.inl rfl) pe_non)
      (pss_cons (ps_for PassesOwn.never rfl (pi_list (pv 0)) (pg_name (i := 3) scLwof.nd rfl (Or.inl rfl))
      (pss_one (ps_if (pt_cmpR op_in_seq (pe_ix ix_tup (pv 3) pe_int (fun _ _ => rfl)) (pv 1) (by rfl))
        (pss_one (ps_set (i := 2) scLwof.nd rfl (Or.inl rfl) (pe_ix ix_tup (pv 3) pe_int (fun _ _ => rfl))))
        pss_nil)))
      (pss_one (ps_ret (pv 2))))), ?_⟩
    walk_at "rd"
    obtain ⟨Pv, hPv⟩ : ∃ Pv : Nat → L2.St → Hp → Prop, Pv = (fun i σ H' => ∃ v3 : Option V, σ = [some (.ref l), some (.ref o), some (optW (lastIn R (L.take i))), v3] ∧ H' = H) := ⟨_, rfl⟩
    refine ⟨_, rfl, l, rfl, ⟨_, SqL.of hl⟩, for_list (K := K) (a := l) (xs := us) Pv (by rw [hPv]; exact ⟨none, rfl, rfl⟩) (fun i σ H' _ pv => by rw [hPv] at pv; obtain ⟨_, _, rfl⟩ := pv; exact SqL.of hl) (fun i v σ H' gv pv => ?_) (fun σ H' pv => ?_)⟩
    · have nxt : ∀ v3, Pv (i + 1) [some (.ref l), some (.ref o), some (optW (lastIn R (L.take (i + 1)))), v3] H := fun v3 => by
        rw [hPv]
        exact ⟨v3, rfl, rfl⟩
      rw [hPv] at pv
      obtain ⟨v3, rfl, rfl⟩ := pv
      obtain ⟨c, gc, tc, rfl, htc⟩ := pget lg gv
      rw [lastIn_step gc] at nxt
      walk_at "rd"
      refine ⟨_, SqT.of htc, .int c.1, rfl, o, _, rfl, ho, rfl, flat_ints _, ?_⟩
      rw [inV_ints]
      refine ⟨_, rfl, ?_⟩
      by_cases e : c.1 ∈ R
      · rw [decide_eq_true e]
        rw [if_pos e] at nxt
        exact iteT ⟨_, SqT.of htc, .str c.2, rfl, nxt _⟩
      · rw [decide_eq_false e]
        rw [if_neg e] at nxt
        exact iteF (nxt _)
    · rw [hPv] at pv
      obtain ⟨v3, rfl, rfl⟩ := pv
      rw [ul, List.take_length]
      walk_at "rd"
      exact q
/-- a word: short, and its signs are signs -/
def wk (n : Nat) (z : Str) : Prop := z.length ≤ n ∧ PyData.strOk z = true
theorem wk.mono {n m : Nat} {z : Str} (h : wk n z) (l : n ≤ m) : wk m z := ⟨Nat.le_trans h.1 l, h.2⟩
theorem strOk_app {u v : Str} (h : PyData.strOk u = true) (k : PyData.strOk v = true) : PyData.strOk (u ++ v) = true := by
  show (u.cps ++ v.cps).all (· < 0x110000) = true
  rw [Array.all_append]
  show (PyData.strOk u && PyData.strOk v) = true
  rw [h, k]
  rfl
theorem wk_app {a b n : Nat} {u v : Str} (h : wk a u) (k : wk b v) (l : a + b ≤ n) : wk n (u ++ v) := ⟨by rw [Str.length_append]; have := h.1; have := k.1; omega, strOk_app h.2 k.2⟩
theorem wk_cut {n : Nat} {z : Str} (h : wk n z) (lo hi : Option Int) : wk n (cutS z lo hi) := by
  refine ⟨Nat.le_trans (cutS_length z lo hi) h.1, ?_⟩
  have h2 := h.2
  unfold PyData.strOk at h2 ⊢
  unfold cutS
  rw [Array.all_eq_true_iff_forall_mem] at h2 ⊢
  intro c hc
  refine h2 c ?_
  rw [Array.mem_def]
  simp only [List.mem_toArray] at hc
  exact List.mem_of_mem_drop (List.mem_of_mem_take hc)
theorem strOk_one {c : Nat} (h : c < 0x110000) : PyData.strOk (Str.mk #[c]) = true := by
  show (#[c] : Array Nat).all (· < 0x110000) = true
  simp [h]
def spSpell (K : PySem.W.Frag) : Sp := fun vs H Q _ => ∃ (a : Addr) (ns : List Int) (at_ : Nat), vs = [.ref a, .int at_] ∧ SqL K H a (ns.map V.int) ∧ at_ + 4 < ns.length ∧ ∀ z : Str, wk 8 z → Q (.str z) H
theorem letters_at {j : Nat} (h : j < 26) : ∃ c, atI (Str.ofString "abcdefghijklmnopqrstuvwxyz").cps.toList ((j : Nat) : Int) = some c ∧ c < 0x110000 := by
  have hl : (Str.ofString "abcdefghijklmnopqrstuvwxyz").cps.toList.length = 26 := by decide +kernel
  have ha : ((Str.ofString "abcdefghijklmnopqrstuvwxyz").cps.toList.all fun c => decide (c < 0x110000)) = true := by decide +kernel
  refine ⟨_, atI_nat (List.getElem?_eq_getElem (by rw [hl]; exact h)), ?_⟩
  exact of_decide_eq_true (List.all_eq_true.mp ha _ (List.getElem_mem _))
end

/-! ### own rules: data compared by <, len(set(tuple of ints)) -/
theorem pig : ∀ (ns K : List Int), K.Nodup → (∀ x ∈ K, x ∈ ns) → K.length ≤ ns.length
  | [], K, _, h => by
    cases K with
    | nil => exact Nat.le_refl _
    | cons a K => exact absurd (h a List.mem_cons_self) (by simp)
  | a :: ns, K, nd, h => by
    by_cases m : a ∈ K
    · have ih := pig ns (K.erase a) (nd.erase a) fun x hx => by
        have hx2 := (List.Nodup.mem_erase_iff nd).mp hx
        rcases List.mem_cons.mp (h x hx2.2) with e | e
        · exact absurd e hx2.1
        · exact e
      rw [List.length_erase_of_mem m] at ih
      have : 1 ≤ K.length := List.length_pos_of_mem m
      rw [List.length_cons]
      omega
    · have ih := pig ns K nd fun x hx => by
        rcases List.mem_cons.mp (h x hx) with e | e
        · rw [e] at hx; exact absurd hx m
        · exact e
      rw [List.length_cons]
      omega
theorem pig_nd : ∀ (ns K : List Int), K.Nodup → (∀ x ∈ K, x ∈ ns) → K.length = ns.length → ns.Nodup
  | [], K, _, _, _ => List.nodup_nil
  | a :: ns, K, nd, h, e => by
    have sub : a ∉ K → ∀ x ∈ K, x ∈ ns := fun m x hx => by
      rcases List.mem_cons.mp (h x hx) with z | z
      · rw [z] at hx; exact absurd hx m
      · exact z
    rw [List.length_cons] at e
    by_cases m : a ∈ K
    · by_cases r : a ∈ ns
      · have := pig ns K nd fun x hx => by
          rcases List.mem_cons.mp (h x hx) with z | z
          · rw [z]; exact r
          · exact z
        omega
      · refine List.nodup_cons.mpr ⟨r, pig_nd ns (K.erase a) (nd.erase a) (fun x hx => ?_) ?_⟩
        · have hx2 := (List.Nodup.mem_erase_iff nd).mp hx
          rcases List.mem_cons.mp (h x hx2.2) with z | z
          · exact absurd z hx2.1
          · exact z
        · rw [List.length_erase_of_mem m]
          omega
    · have := pig ns K nd (sub m)
      omega
theorem set_len {ns K : List Int} (nd : K.Nodup) (h : ∀ x, x ∈ ns ↔ x ∈ K) : K.length = ns.length ↔ ns.Nodup :=
  ⟨fun e => pig_nd ns K nd (fun x hx => (h x).mpr hx) e, fun n => Nat.le_antisymm (pig ns K nd fun x hx => (h x).mpr hx) (pig K ns n fun x hx => (h x).mp hx)⟩
def tLenSetT (K : PySem.W.Frag) (ta : TE) : TE := fun σ H Q => ta σ H fun x H1 => ∃ (l : Addr) (ns : List Int), x = V.ref l ∧ SqT K H1 l (ns.map V.int) ∧ ns.length ≤ 1000 ∧ ∀ m : Nat, (m = ns.length ↔ ns.Nodup) → Q (.int m) H1
theorem pe_lenSetT {X : Cx} {a : Expr} {ta : TE} {p p2 q pos : Pos} (hg : Gl X "len") (hm : X.mg "len" = none) (hg2 : Gl X "set") (hm2 : X.mg "set" = none) (ha : PE X a ta) (hc : X.calm = true := by rfl)
    (na : starEach [a] X.env = (false, eval a X.env) :: starEach [] X.env := by rfl) : PE X (.Call (.Name "len" p) [.Call (.Name "set" p2) [a] [] q] [] pos) (tLenSetT X.K ta) := by
  refine ⟨fun pins s σ H Q I h => ?_⟩
  refine Call_ (ld_blt I hg hm boot_len ?_)
  refine PyProof.Rows.callWith_builtin1 (PyProof.Rows.args_cons ?_ rfl) rfl rfl
  refine Call_ (ld_blt I hg2 hm2 boot_set ?_)
  refine PyProof.Rows.callWith_type1 (PyProof.Rows.args_cons (thn (ha.run pins s σ H _ I h) fun v s1 ⟨x, H1, I1, r1, q1⟩ => PyProof.Rows.args_nil ?_) na) na rfl
  obtain ⟨l, ns, rfl, hq, hl, q1⟩ := q1
  cases r1
  obtain ⟨its, r, pl, hz⟩ := I1.tuple hq
  refine call_set_tupI ns (I1.ok.hd hc) pl (by simpa using ints_of_vals r) (by unfold scanBound; omega) fun h' tk c hS hle hk => ?_
  refine PyProof.Rows.args_nil ?_
  obtain ⟨o, es, ep, t, ho, hex, hd, _, nd, mem, _, hf, hn, _⟩ := hS
  have I2 : Inv X pins σ H1 { s1 with heap := h', toks := tk } := I1.kept fun b o e => hk b o e
  refine call_len_set ho hex hd hf (by rw [hn] <;> omega) ⟨.int c, H1, I2.tok _, ⟨_, by rw [hn]⟩, q1 c ?_⟩
  have e := set_len nd (ns := ns) fun x => by rw [← mem x, decide_eq_true_iff]
  rw [List.length_map, Array.length_toList, hn] at e
  exact e
def rLtD (K : PySem.W.Frag) (n : Nat) : R2 := fun x y H Q => ∃ d e, Dp K H x d ∧ Dp K H y e ∧ PySem.W.alike d e = true ∧ d ≠ .none ∧ d.depth ≤ n ∧ Q (.bl (PySem.W.dataLt d e)) H
theorem op_ltD {X : Cx} {n : Nat} (hu : X.A.units + n < cLine) : OpR X (compareOp .Lt) (rLtD X.K n) := by
  intro pins s σ H x y v u Q I rx ry h
  obtain ⟨d, e, hd, he, al, nn, dep, q⟩ := h
  obtain ⟨as, r1⟩ := Dp.reads I d x v hd rx
  obtain ⟨bs, r2⟩ := Dp.reads I e y u he ry
  exact PySem.W.lt_data r1 r2 al nn (by have := Nat.min_le_left d.depth e.depth; omega) ⟨.bl _, H, I, rfl, q⟩

abbrev sHall : Stmt := topS 24
abbrev sLp : Stmt := topS 22
/-- the place of the last call in a room -/
def placeF : List Cl → Int → Option Nat := fun L r => (List.range L.length).reverse.find? fun i => decide ((L[i]?.map (·.1)) = some r)
/-- a dict that says it -/
def PlD (H : Hp) (d : Addr) (L : List Cl) : Prop := ∃ kvs : List (Key × V), H d = some (.dK kvs) ∧ ∀ r : Int, valV kvs (Sum.inl r : Key) = (placeF L r).map fun i : Nat => V.int i
theorem find_ext {α : Type} {p q : α → Bool} : ∀ l : List α, (∀ a ∈ l, p a = q a) → l.find? p = l.find? q
  | [], _ => rfl
  | a :: l, h => by
    rw [List.find?_cons, List.find?_cons, h a List.mem_cons_self, find_ext l fun b hb => h b (List.mem_cons_of_mem _ hb)]
theorem placeF_snoc (L : List Cl) (c : Cl) (r : Int) : placeF (L ++ [c]) r = if c.1 = r then some L.length else placeF L r := by
  unfold placeF
  rw [List.length_append, List.length_singleton, List.range_succ, List.reverse_append]
  show List.find? _ (L.length :: (List.range L.length).reverse) = _
  have hl : ((L ++ [c])[L.length]?.map (·.1)) = some c.1 := by simp
  by_cases h : c.1 = r
  · rw [List.find?_cons_of_pos (by rw [hl, h]; simp), if_pos h]
  · rw [List.find?_cons_of_neg (by rw [hl]; simp [h]), if_neg h]
    refine find_ext _ fun i hi => ?_
    have : i < L.length := by simpa using hi
    rw [List.getElem?_append_left this]
theorem dc_enum {K : PySem.W.Frag} {a : Addr} {xs : List V} {g : TG} {tt : TT} {tk tv : TE} {vs : List Nat} {σ : L2.St} {H1 : Hp} {D : Addr} {Qd : Hp → Prop} (Pv : Nat → Hp → Prop) (h0 : Pv 0 (upd H1 D (.dK []))) (hl : ∀ i H, i ≤ xs.length → Pv i H → SqL K H a xs)
    (hs : ∀ (i : Nat) x (t : Addr) H, xs[i]? = some x → Pv i H → H t = none → g (.ref t) (wipe σ vs) (upd H t (.tup [.int (i : Nat), x])) fun σ2 H2 => wipe σ2 vs = wipe σ vs ∧ tt σ2 H2 fun b H3 =>
      if b = true then tk σ2 H3 fun y H4 => tv σ2 H4 fun z H5 => ∃ kvs k, y = kV k ∧ H5 D = some (.dK kvs) ∧ kvs.length < sizeLine ∧ Pv (i + 1) (upd H5 D (.dK (putK kvs k z))) else Pv (i + 1) H3) (hd : ∀ H, Pv xs.length H → Qd H) :
    ∃ W : Nat → Nat → Hp → Prop, (∃ m, W 0 m (upd H1 D (.dK []))) ∧ ∀ i m H, W i m H →
      ((Ite K a).stop i H ∧ Qd H) ∨ ((Ite K a).go i H ∧ ∃ Nx : Hp → Prop, (∀ H', Nx H' → ∃ m', m' < m ∧ W (i + 1) m' H') ∧ ∀ x H', (Ite K a).yld i H x H' → g x (wipe σ vs) H' fun σ2 H2 => wipe σ2 vs = wipe σ vs ∧ tt σ2 H2 fun b H3 =>
        if b = true then tk σ2 H3 fun y H4 => tv σ2 H4 fun z H5 => ∃ kvs k, y = kV k ∧ H5 D = some (.dK kvs) ∧ kvs.length < sizeLine ∧ Nx (upd H5 D (.dK (putK kvs k z))) else Nx H3) := by
  refine ⟨fun i m H => m = xs.length - i ∧ i ≤ xs.length ∧ Pv i H, ⟨xs.length, by simp, Nat.zero_le _, h0⟩, ?_⟩
  rintro i m H ⟨rfl, hi, p⟩
  have q := hl i H hi p
  by_cases hlt : i < xs.length
  · refine .inr ⟨⟨xs, xs[i], q, List.getElem?_eq_getElem hlt⟩, Pv (i + 1), fun H' p' => ⟨xs.length - (i + 1), by omega, rfl, hlt, p'⟩, ?_⟩
    rintro v H' ⟨t, x, rfl, nt, rfl, f⟩
    exact hs i x t H (f xs q) p nt
  · have e : i = xs.length := by omega
    subst e
    exact .inl ⟨⟨xs, q, Nat.le_refl _⟩, hd H p⟩
theorem lcW {wi : TI} {g : TG} {tt : TT} {te : TE} {vs : List Nat} {σ : L2.St} {H : Hp} {Q : VK} (h : wi σ H fun J H1 => tLc (fun _ H R => R J H) g tt te vs σ H1 Q) : tLc wi g tt te vs σ H Q := h
section
variable {P : Program} {w : World} {K : PySem.W.Frag} {mg : Str → Option Value} {base : Heap}
theorem scLp : FnScope ["log", "place", "room", "_"] ["log"] (defScope sLp) := ⟨rfl, rfl, rfl, by decide +kernel, rfl, by decide +kernel, by decide +kernel⟩
def spLp : Sp := fun vs H Q _ => ∃ (l : Addr) (us : List V) (L : List Cl), vs = [.ref l] ∧ H l = some (.lst us) ∧ LG H us L ∧ L.length ≤ 1000 ∧ ∀ d H', Same H H' → H d = none → PlD H' d L → Q (.ref d) H'
theorem ok_lp {f : Addr} {fd : FuncData} (F : Fun K "last_places" "last_places" sLp f fd) (T : Bi mg) : FnOk P w K mg base CX0 1 f fd ["log"] spLp := by
  refine F.ok scLp (fun vs H Q E h => ?_) (fun cdv A outer s H vs Q E hr h => ?_)
  · obtain ⟨l, us, L, rfl, _⟩ := h
    rfl
  · obtain ⟨l, us, L, rfl, hl, lg, len, ret⟩ := h
    refine ⟨_, (pss_one (ps_ret (pe_dc (own := [("place", 1), ("room", 2), ("_", 3)]) (g := gTup K 2 (gCons (gName 1) (gCons (gTup K 2 (gCons (gName 2) (gCons (gName 3) gNil))) gNil))) (by rfl) scLp.nd (pi_enum (by rfl) T.enumerate (pa_cons (pv 0) pa_nil)) (blkOk_by (N := ["log", "place", "room", "_"]) (sc := defScope sLp) (by decide +kernel)) (fun _ _ _ _ _ => pg_tup rfl (pgs_cons (pg_name (i := 1) scLp.nd rfl (Or.inl rfl)) (pgs_cons (pg_tup rfl (pgs_cons (pg_name (i := 2) scLp.nd rfl (Or.inl rfl)) (pgs_cons (pg_name (i := 3) scLp.nd rfl (Or.inl rfl)) pgs_nil))) pgs_nil))) (fun _ _ _ _ _ => pts_nil) (fun _ _ _ _ _ => (pv 2)) (fun _ _ _ _ _ => (pv 1))))), ?_⟩
    walk_at "rd"
    have ul : us.length = L.length := lg.len
    refine ⟨_, rfl, l, us, rfl, SqL.of hl, fun D nD => ?_⟩
    obtain ⟨Pv, hPv⟩ : ∃ Pv : Nat → Hp → Prop, Pv = (fun i H' => Same H H' ∧ ∃ kvs : List (Key × V), H' D = some (.dK kvs) ∧ kvs.length ≤ i ∧ ∀ r : Int, valV kvs (Sum.inl r : Key) = (placeF (L.take i) r).map fun i : Nat => V.int i) := ⟨_, rfl⟩
    refine dc_enum (xs := us) Pv (by rw [hPv]; exact ⟨same_upd nD, [], upd_same, Nat.zero_le _, fun r => rfl⟩) (fun i H' _ pv => by rw [hPv] at pv; exact SqL.of (pv.1 _ _ hl)) (fun i v t H' gv pv nt => ?_) (fun H' pv => ?_)
    · rw [hPv] at pv
      obtain ⟨sm, kvs, hD, kl, kv⟩ := pv
      obtain ⟨c, gc, tc, rfl, htc⟩ := pget lg gv
      have il : i < L.length := (List.getElem?_eq_some_iff.mp gc).1
      have htc1 := sm _ _ htc
      have s1 := same_upd (o := HO.tup [V.int (i : Nat), V.ref tc]) nt
      simp only [wipe]
      walk_at "rd"
      refine ⟨_, SqT.of upd_same, rfl, _, _, rfl, _, _, rfl, tc, rfl, _, SqT.of (s1 _ _ htc1), rfl, _, _, rfl, _, _, rfl, ?_⟩
      refine ⟨rfl, rfl, ?_⟩
      rw [if_pos trivial]
      refine ⟨kvs, Sum.inl c.1, rfl, s1 _ _ hD, len_big (by omega), ?_⟩
      rw [hPv]
      refine ⟨same_ch (sm.trans s1) nD, _, upd_same, (by have := length_putK kvs (Sum.inl c.1 : Key) (V.int (i : Nat)); omega), fun r => ?_⟩
      rw [valV_put, List.take_add_one, gc]
      show _ = (placeF (L.take i ++ [c]) r).map _
      rw [placeF_snoc, List.length_take, Nat.min_eq_left (by omega), kv r]
      by_cases h : c.1 = r
      · rw [if_pos h, if_pos (by rw [h])]
        rfl
      · rw [if_neg h, if_neg (fun z => h (Sum.inl.inj z).symm)]
    · rw [hPv] at pv
      obtain ⟨sm, kvs, hD, kl, kv⟩ := pv
      rw [ul, List.take_length] at kv
      exact ret D H' sm nD ⟨kvs, hD, kv⟩
theorem scHall : FnScope ["house", "first", "second", "pair", "x", "y", "before", "after", "room"] ["house", "first", "second", "pair"] (defScope sHall) := ⟨rfl, rfl, rfl, by decide +kernel, rfl, by decide +kernel, by decide +kernel⟩
def placeI (L : List Cl) (r : Int) : Int := match placeF L r with
  | some i => (i : Int)
  | none => -1
theorem place_getD {kv : List (Key × V)} {L : List Cl} (g : ∀ r : Int, valV kv (Sum.inl r : Key) = (placeF L r).map fun i : Nat => V.int i) (z : Int) : (valV kv (Sum.inl z : Key)).getD (V.int (-1)) = V.int (placeI L z) := by
  rw [g]
  unfold placeI
  cases placeF L z <;> rfl
theorem place_some {kv : List (Key × V)} {L : List Cl} (g : ∀ r : Int, valV kv (Sum.inl r : Key) = (placeF L r).map fun i : Nat => V.int i) {x : Int} (h : (placeF L x).isSome) : valV kv (Sum.inl x : Key) = some (V.int (placeI L x)) := by
  rw [g]
  unfold placeI
  cases e : placeF L x with
  | none => rw [e] at h; cases h
  | some i => rfl
/-- the hall of a pair -/
def hallF (r : Nat) (A B : List Cl) (x y : Int) : List Int := (rg r).filter fun z => decide (placeI A z ≤ placeI A x) && decide (placeI B z ≤ placeI B y)
def spHall (C : Addr) : Sp := fun vs H Q _ => ∃ (p a b t : Addr) (x y : Int) (us ws : List V) (A B : List Cl) (r : Nat) (D : List Pr) (own : List Addr), vs = [.ref p, .ref a, .ref b, .ref t] ∧ HouseAt C H p r D own ∧ H a = some (.lst us) ∧ LG H us A ∧ A.length ≤ 1000 ∧ H b = some (.lst ws) ∧ LG H ws B ∧ B.length ≤ 1000 ∧ H t = some (.tup [.int x, .int y]) ∧ (placeF A x).isSome ∧ (placeF B y).isSome ∧ ∀ o H', Same H H' → H o = none → H' o = some (.lst ((hallF r A B x y).map V.int)) → Q (.ref o) H'
theorem ok_hall {f C fL : Addr} {fd fdL : FuncData} (F : Fun K "hall" "hall" sHall f fd) (T : Bi mg) (U : Hs K mg C) (d_last_places : Df P w K mg base "last_places" ["log"] 1 spLp fL fdL) : FnOk P w K mg base CX0 2 f fd ["house", "first", "second", "pair"] (spHall C) := by
  refine F.ok scHall (fun vs H Q E h => ?_) (fun cdv A0 outer s H vs Q E hr h => ?_)
  · obtain ⟨p, a, b, t, x, y, us, ws, A, B, r, D, own, rfl, _⟩ := h
    rfl
  · obtain ⟨p, a, b, t, x, y, us, ws, A, B, r, D, own, rfl, hh, ha, la, al, hb, lb, bl, ht, px, py, ret⟩ := h
    refine ⟨_, (pss_cons (ps_asg (pv 3) (pg_tup rfl (pgs_cons (pg_name (i := 4) scHall.nd rfl (Or.inr rfl)) (pgs_cons (pg_name (i := 5) scHall.nd rfl (Or.inr rfl)) pgs_nil))))
      (pss_cons (ps_set (i := 6) scHall.nd rfl (Or.inr rfl) (pe_call d_last_places.ok (hr.mono (by decide)) (by rfl) d_last_places.at_ d_last_places.kp d_last_places.b .nil pass0 (pa_cons (pv 1) pa_nil)))
      (pss_cons (ps_set (i := 7) scHall.nd rfl (Or.inr rfl) (pe_call d_last_places.ok (hr.mono (by decide)) (by rfl) d_last_places.at_ d_last_places.kp d_last_places.b .nil pass0 (pa_cons (pv 2) pa_nil)))
      (pss_one (ps_ret (pe_lc (own := [("room", 8)]) (by rfl) scHall.nd (pi_range1 (by rfl) T.range (pa_cons (pe_fld (pv 0) rfl) pa_nil)) (blkOk_by (N := ["house", "first", "second", "pair", "x", "y", "before", "after", "room"]) (sc := defScope sHall) (by decide +kernel)) (fun _ _ _ _ _ => pg_name (i := 8) scHall.nd rfl (Or.inl rfl)) (fun _ _ _ _ _ => (pts_one (PW.pt (pw_and (pt_cmpR op_le (pe_dget2 (u1 hr.units) (pv 6) (pv 8) (pe_un un_neg pe_int) ⟨by rfl, by rfl, by rfl, by rfl⟩) (pe_dget (u1 hr.units) (pv 6) (pv 4) (fun _ _ => rfl)) (nomark _)) (pw_and1 (pt_cmpR op_le (pe_dget2 (u1 hr.units) (pv 7) (pv 8) (pe_un un_neg pe_int) ⟨by rfl, by rfl, by rfl, by rfl⟩) (pe_dget (u1 hr.units) (pv 7) (pv 5) (fun _ _ => rfl)) (nomark _))))))) (fun _ _ _ _ _ => (pv 8)))))))), ?_⟩
    walk_at "rd"
    refine ⟨_, SqT.of ht, rfl, .int x, [.int y], rfl, .int y, [], rfl, rfl, ?_⟩
    refine ⟨a, us, A, rfl, ha, la, al, fun d1 H1 s1 n1 pd1 => ?_⟩
    refine ⟨b, ws, B, rfl, s1 _ _ hb, lb.kt (KT.same s1), bl, fun d2 H2 s2 n2 pd2 => ?_⟩
    obtain ⟨kv1, hd1, g1⟩ := pd1
    obtain ⟨kv2, hd2, g2⟩ := pd2
    have hd1 := s2 _ _ hd1
    have s12 := s1.trans s2
    have hh2 := hh.same s12
    obtain ⟨dx, l0, m0, ls, nss, h1, _⟩ := hh2.ex
    have r12 := hh.r12
    refine lcW ?_
    walk_at "rd"
    refine ⟨C, dx, _, h1, U.cl, U.nR, .int r, hf_rooms _ _ _, r, rfl, by omega, by omega, fun c nc => ?_⟩
    obtain ⟨Pv, hPv⟩ : ∃ Pv : Nat → Hp → Prop, Pv = (fun j Hx => Same H2 Hx ∧ Hx c = some (.lst ((((List.range j).map fun i : Nat => (i : Int)).filter fun z => decide (placeI A z ≤ placeI A x) && decide (placeI B z ≤ placeI B y)).map V.int))) := ⟨_, rfl⟩
    refine lc_range (lo := 0) (n := (r : Int).toNat) Pv (by rw [hPv]; exact ⟨same_upd nc, upd_same⟩) (fun j Hx hj pv => ?_) (fun Hx pv => ?_)
    · rw [hPv] at pv
      obtain ⟨sx, hc⟩ := pv
      simp only [wipe]
      unfold tDGet2 tDGet
      walk_at "rd"
      have dl : ((((List.range j).map fun i : Nat => (i : Int)).filter fun z => decide (placeI A z ≤ placeI A x) && decide (placeI B z ≤ placeI B y)).map V.int).length < sizeLine := len_big (by
        rw [List.length_map]
        have := List.length_filter_le (fun z => decide (placeI A z ≤ placeI A x) && decide (placeI B z ≤ placeI B y)) ((List.range j).map fun i : Nat => (i : Int))
        rw [List.length_map, List.length_range] at this
        omega)
      have step : (((List.range (j + 1)).map fun i : Nat => (i : Int)).filter fun z => decide (placeI A z ≤ placeI A x) && decide (placeI B z ≤ placeI B y)) = (((List.range j).map fun i : Nat => (i : Int)).filter fun z => decide (placeI A z ≤ placeI A x) && decide (placeI B z ≤ placeI B y)) ++ (if placeI A (j : Int) ≤ placeI A x ∧ placeI B (j : Int) ≤ placeI B y then [(j : Int)] else []) := by
        rw [List.range_succ, List.map_append, List.filter_append]
        congr 1
        show List.filter _ [(j : Int)] = _
        by_cases h : placeI A (j : Int) ≤ placeI A x ∧ placeI B (j : Int) ≤ placeI B y
        · rw [if_pos h, List.filter_cons_of_pos (by simp [h.1, h.2]), List.filter_nil]
        · rw [if_neg h, List.filter_cons_of_neg (by simpa using h), List.filter_nil]
      have no : ¬ (placeI A (j : Int) ≤ placeI A x ∧ placeI B (j : Int) ≤ placeI B y) → Pv (j + 1) Hx := fun h => by
        rw [hPv]
        refine ⟨sx, ?_⟩
        rw [step, if_neg h, List.append_nil]
        exact hc
      rw [Int.zero_add]
      refine ⟨.inl ⟨kv1, .inl (sx _ _ hd1)⟩, _, DGet.k (k := Sum.inl (j : Int)) (sx _ _ hd1), .int (placeI A x), (by rw [← place_some g1 px]; exact DGet.k (k := Sum.inl x) (sx _ _ hd1)), placeI A (j : Int), place_getD g1 _, placeI A x, rfl, ?_⟩
      by_cases c1 : placeI A (j : Int) ≤ placeI A x
      rotate_left
      · rw [if_neg c1, if_neg (show ¬ False from id)]
        exact no fun z => c1 z.1
      rw [if_pos c1]
      refine ⟨.inl ⟨kv2, .inl (sx _ _ hd2)⟩, _, DGet.k (k := Sum.inl (j : Int)) (sx _ _ hd2), .int (placeI B y), (by rw [← place_some g2 py]; exact DGet.k (k := Sum.inl y) (sx _ _ hd2)), placeI B (j : Int), place_getD g2 _, placeI B y, rfl, ?_⟩
      by_cases c2 : placeI B (j : Int) ≤ placeI B y
      rotate_left
      · rw [if_neg c2]
        exact no fun z => c2 z.2
      rw [if_pos c2]
      refine ⟨_, hc, dl, ?_⟩
      rw [hPv]
      refine ⟨same_ch sx nc, ?_⟩
      rw [upd_same, step, if_pos ⟨c1, c2⟩, List.map_append]
      rfl
    · rw [hPv] at pv
      obtain ⟨sx, hc⟩ := pv
      refine ret c Hx (s12.trans sx) (s12.free nc) ?_
      rw [show (r : Int).toNat = r by omega] at hc
      exact hc
end

abbrev sCrp : Stmt := topS 23
/-- the word of the last call in a room -/
def wordL (L : List Cl) (r : Int) : Option Str := (lastIn [r] L).map (·.2)
def crossB (A B : List Cl) (x y : Int) : Bool := decide (wordL A x ≠ wordL A y) && (decide (placeI A y < placeI A x) && decide (placeI B x < placeI B y))
def crossR (A B : List Cl) (rs : List Int) (x : Int) : List Pr := (rs.filter fun y => crossB A B x y).map fun y => (x, y)
def crossF (A B : List Cl) (rs : List Int) : List Pr := rs.flatMap (crossR A B rs)
theorem wordL_cons (c : Cl) (S : List Cl) (x : Int) : wordL (c :: S) x = match wordL S x with
    | some w => some w
    | none => if c.1 = x then some c.2 else none := by
  unfold wordL lastIn
  rw [List.reverse_cons, List.find?_append]
  cases e : S.reverse.find? (fun c => decide (c.1 ∈ [x])) with
  | some w => rfl
  | none =>
    show Option.map (fun x : Cl => x.2) (List.find? (fun c : Cl => decide (c.1 ∈ [x])) [c]) = if c.1 = x then some c.2 else none
    by_cases h : c.1 = x
    · rw [List.find?_cons_of_pos (by simp [h])]
      simp [h]
    · rw [List.find?_cons_of_neg (by simp [h])]
      simp [h]
theorem wordL_none {L : List Cl} {x : Int} : wordL L x = none ↔ x ∉ L.map (·.1) := by
  induction L with
  | nil => simp [wordL, lastIn]
  | cons c S ih =>
    rw [wordL_cons]
    cases e : wordL S x with
    | some w =>
      have : ¬ wordL S x = none := by rw [e]; simp
      have h := fun z => this (ih.mpr z)
      simp only [reduceCtorEq, List.map_cons, List.mem_cons, not_or, false_iff, not_and]
      exact fun _ => h
    | none =>
      have h := ih.mp e
      by_cases c1 : c.1 = x
      · simp [c1]
      · have c2 : ¬ x = c.1 := fun z => c1 z.symm
        simp only [if_neg c1, List.map_cons, List.mem_cons, not_or, true_iff]
        exact ⟨c2, h⟩
theorem lastF_mem (L : List Cl) (x : Int) : x ∈ (lastF L).map (·.1) ↔ x ∈ L.map (·.1) := by
  induction L with
  | nil => exact Iff.rfl
  | cons c S ih =>
    show x ∈ (if c.1 ∈ S.map (·.1) then lastF S else c :: lastF S).map (·.1) ↔ _
    by_cases h : c.1 ∈ S.map (·.1)
    · rw [if_pos h, ih, List.map_cons, List.mem_cons]
      exact ⟨.inr, fun z => z.elim (fun e => by rw [e]; exact h) id⟩
    · rw [if_neg h, List.map_cons, List.map_cons, List.mem_cons, List.mem_cons, ih]
theorem lastF_nd (L : List Cl) : ((lastF L).map (·.1)).Nodup := by
  induction L with
  | nil => exact List.nodup_nil
  | cons c S ih =>
    show ((if c.1 ∈ S.map (·.1) then lastF S else c :: lastF S).map (·.1)).Nodup
    by_cases h : c.1 ∈ S.map (·.1)
    · rw [if_pos h]; exact ih
    · rw [if_neg h, List.map_cons]
      exact List.nodup_cons.mpr ⟨fun z => h ((lastF_mem S c.1).mp z), ih⟩
abbrev kvOf (c : Cl) : Key × V := (Sum.inl c.1, V.str c.2)
theorem lastF_val (L : List Cl) (x : Int) : valV ((lastF L).map kvOf) (Sum.inl x : Key) = (wordL L x).map V.str := by
  induction L with
  | nil => rfl
  | cons c S ih =>
    show valV ((if c.1 ∈ S.map (·.1) then lastF S else c :: lastF S).map kvOf) _ = _
    rw [wordL_cons]
    by_cases h : c.1 ∈ S.map (·.1)
    · rw [if_pos h, ih]
      cases e : wordL S x with
      | some w => rfl
      | none =>
        have c1 : ¬ c.1 = x := fun z => wordL_none.mp e (by rw [← z]; exact h)
        simp only [if_neg c1]
    · rw [if_neg h, List.map_cons]
      by_cases c1 : c.1 = x
      · have e : wordL S x = none := wordL_none.mpr (by rw [← c1]; exact h)
        rw [valV_pos (by show (Sum.inl c.1 : Key) = Sum.inl x; rw [c1]), e]
        simp only [if_pos c1]
        rfl
      · rw [valV_neg (by show ¬ (Sum.inl c.1 : Key) = Sum.inl x; exact fun z => c1 (Sum.inl.inj z)), ih]
        cases e : wordL S x with
        | some w => rfl
        | none => simp only [if_neg c1]
theorem merge_nd : ∀ (more acc : List (Key × V)), (more.map (·.1)).Nodup → (∀ k ∈ more.map (·.1), k ∉ acc.map (·.1)) → mergeK acc more = acc ++ more
  | [], acc, _, _ => (List.append_nil acc).symm
  | kv :: more, acc, nd, dis => by
    show mergeK (putK acc kv.1 kv.2) more = _
    have hk := dis kv.1 List.mem_cons_self
    have e : putK acc kv.1 kv.2 = acc ++ [kv] := by
      unfold putK
      rw [if_neg]
      intro z
      obtain ⟨q, hq, hq2⟩ := List.any_eq_true.mp z
      exact hk (List.mem_map.mpr ⟨q, hq, of_decide_eq_true hq2⟩)
    have nd2 := List.nodup_cons.mp nd
    rw [e, merge_nd more (acc ++ [kv]) nd2.2 fun k hk2 z => ?_, List.append_assoc]
    · rfl
    · rw [List.map_append] at z
      rcases List.mem_append.mp z with z | z
      · exact dis k (List.mem_cons_of_mem _ hk2) z
      · have : k = kv.1 := by simpa using z
        rw [this] at hk2
        exact nd2.1 hk2
theorem lg_refs {K : PySem.W.Frag} {H : Hp} : ∀ {zs : List V} {D : List Cl}, LG H zs D → ∃ ps : List Addr, zs = ps.map V.ref ∧ Paired (fun p (kv : Key × V) => SqT K H p [kV kv.1, kv.2]) ps (D.map kvOf)
  | _, _, Paired.nil => ⟨[], rfl, .nil⟩
  | _, _, Paired.cons r t => by
    obtain ⟨tc, rfl, h⟩ := r
    obtain ⟨ps, e, pr⟩ := lg_refs (K := K) t
    exact ⟨tc :: ps, by rw [e]; rfl, .cons (SqT.of h) pr⟩
theorem in_list {K : PySem.W.Frag} {a : Addr} {xs : List V} {g : TG} {tt : TT} {te : TE} {vs : List Nat} {σ : L2.St} {H : Hp} {D : Addr} {Nx : Hp → Prop} (Pv : Nat → Hp → Prop) (h0 : Pv 0 H) (hl : ∀ i H, i ≤ xs.length → Pv i H → SqL K H a xs)
    (hs : ∀ i x H, xs[i]? = some x → Pv i H → g x (wipe σ vs) H fun σ2 H2 => wipe σ2 vs = wipe σ vs ∧ tt σ2 H2 fun b H3 => if b = true then te σ2 H3 fun y H4 => ∃ acc, H4 D = some (.lst acc) ∧ acc.length < sizeLine ∧ Pv (i + 1) (upd H4 D (.lst (acc ++ [y]))) else Pv (i + 1) H3)
    (hd : ∀ H, Pv xs.length H → Nx H) :
    ∃ W : Nat → Nat → Hp → Prop, (∃ m, W 0 m H) ∧ ∀ j k H, W j k H → ((Itl K a).stop j H ∧ Nx H) ∨ ((Itl K a).go j H ∧ ∃ N1 : Hp → Prop, (∀ H', N1 H' → ∃ k', k' < k ∧ W (j + 1) k' H') ∧ ∀ x H', (Itl K a).yld j H x H' → g x (wipe σ vs) H' fun σ3 H5 => wipe σ3 vs = wipe σ vs ∧ tt σ3 H5 fun b H6 =>
      if b = true then te σ3 H6 fun y H7 => ∃ acc, H7 D = some (.lst acc) ∧ acc.length < sizeLine ∧ N1 (upd H7 D (.lst (acc ++ [y]))) else N1 H6) := by
  refine ⟨fun i m H => m = xs.length - i ∧ i ≤ xs.length ∧ Pv i H, ⟨xs.length, rfl, Nat.zero_le _, h0⟩, ?_⟩
  rintro i m H ⟨rfl, hi, p⟩
  have q := hl i H hi p
  by_cases lt : i < xs.length
  · refine .inr ⟨⟨xs, xs[i], q, by simp [lt]⟩, Pv (i + 1), fun H' q => ⟨xs.length - (i + 1), by omega, rfl, lt, q⟩, ?_⟩
    rintro v H' ⟨rfl, ev⟩
    exact hs i v _ (ev xs q) p
  · have e : i = xs.length := by omega
    subst e
    exact .inl ⟨⟨xs, q, Nat.le_refl _⟩, hd H p⟩
theorem place_in {L : List Cl} {x : Int} (h : x ∈ L.map (·.1)) : (placeF L x).isSome := by
  obtain ⟨c, hc, e⟩ := List.mem_map.mp h
  obtain ⟨i, gi⟩ := List.getElem?_of_mem hc
  unfold placeF
  rw [List.find?_isSome]
  refine ⟨i, by simpa using (List.getElem?_eq_some_iff.mp gi).1, ?_⟩
  rw [gi, ← e]
  simp
theorem cross_len (A B : List Cl) (rs : List Int) : ∀ l : List Int, (l.flatMap (crossR A B rs)).length ≤ l.length * rs.length
  | [] => Nat.zero_le _
  | x :: l => by
    have ih := cross_len A B rs l
    have h : (crossR A B rs x).length ≤ rs.length := by
      unfold crossR
      rw [List.length_map]
      exact List.length_filter_le _ _
    rw [List.flatMap_cons, List.length_append, List.length_cons, Nat.succ_mul]
    omega
section
variable {P : Program} {w : World} {K : PySem.W.Frag} {mg : Str → Option Value} {base : Heap}
theorem scCrp : FnScope ["first", "second", "words", "before", "after", "rooms", "x", "y"] ["first", "second"] (defScope sCrp) := ⟨rfl, rfl, rfl, by decide +kernel, rfl, by decide +kernel, by decide +kernel⟩
def spCrp : Sp := fun vs H Q _ => ∃ (a b : Addr) (us ws : List V) (A B : List Cl) (r : Nat), vs = [.ref a, .ref b] ∧ H a = some (.lst us) ∧ LG H us A ∧ A.length ≤ 1000 ∧ H b = some (.lst ws) ∧ LG H ws B ∧ B.length ≤ 1000 ∧ InR r A ∧ r ≤ 12 ∧ (∀ c ∈ A, (placeF B c.1).isSome) ∧
  ∀ (rs : List Int) (zs : List V) (t : Addr) (H' : Hp), rs.Pairwise (· < ·) → (∀ x, x ∈ rs ↔ x ∈ A.map (·.1)) → Same H H' → H t = none → H' t = some (.lst zs) → PL H' zs (crossF A B rs) → Q (.ref t) H'
theorem ok_crp {f fL fA : Addr} {fd fdL fdA : FuncData} (F : Fun K "crossed_pairs" "crossed_pairs" sCrp f fd) (T : Bi mg) (nd : mg "dict" = none) (d_last_calls : Df P w K mg base "last_calls" ["log"] 1 spLast fA fdA) (d_last_places : Df P w K mg base "last_places" ["log"] 1 spLp fL fdL) : FnOk P w K mg base CX0 2 f fd ["first", "second"] spCrp := by
  refine F.ok scCrp (fun vs H Q E h => ?_) (fun cdv A0 outer s H vs Q E hr h => ?_)
  · obtain ⟨a, b, us, ws, A, B, r, rfl, _⟩ := h
    rfl
  · obtain ⟨a, b, us, ws, A, B, r, rfl, ha, la, al, hb, lb, bl, inr, r12, calls, ret⟩ := h
    refine ⟨_, (pss_cons (ps_set (i := 2) scCrp.nd rfl (Or.inr rfl) (pe_callTy (call_dictP rfl) (by rfl) nd (by decide +kernel) (pa_cons (pe_call d_last_calls.ok (hr.mono (by decide)) (by rfl) d_last_calls.at_ d_last_calls.kp d_last_calls.b .nil pass0 (pa_cons (pv 0) pa_nil)) pa_nil)))
      (pss_cons (ps_set (i := 3) scCrp.nd rfl (Or.inr rfl) (pe_call d_last_places.ok (hr.mono (by decide)) (by rfl) d_last_places.at_ d_last_places.kp d_last_places.b .nil pass0 (pa_cons (pv 0) pa_nil)))
      (pss_cons (ps_set (i := 4) scCrp.nd rfl (Or.inr rfl) (pe_call d_last_places.ok (hr.mono (by decide)) (by rfl) d_last_places.at_ d_last_places.kp d_last_places.b .nil pass0 (pa_cons (pv 1) pa_nil)))
      (pss_cons (ps_set (i := 5) scCrp.nd rfl (Or.inr rfl) (pe_callB (call_sortedDI rfl) (by rfl) T.sorted (by decide +kernel) (pa_cons (pv 2) pa_nil)))
      (pss_one (ps_ret (pe_lc2 (own := [("x", 6), ("y", 7)]) (vs1 := [7]) (wi1 := iList K (tVar 5)) (te := tTup (tCons (tVar 6) (tCons (tVar 7) tNil))) (tt1 := tAnd (tTest (tOp rNe (tDGet (tVar 2) (tVar 6)) (tDGet (tVar 2) (tVar 7)))) (tAnd (tTest (tOp (rI0 fun i j => .bl (decide (j < i))) (tDGet (tVar 3) (tVar 6)) (tDGet (tVar 3) (tVar 7)))) (tTest (tOp (rI0 fun i j => .bl (decide (i < j))) (tDGet (tVar 4) (tVar 6)) (tDGet (tVar 4) (tVar 7)))))) (by rfl) scCrp.nd (pi_list (pv 5)) (blkOk_by (N := ["first", "second", "words", "before", "after", "rooms", "x", "y"]) (sc := defScope sCrp) (by decide +kernel)) (by decide) (fun _ _ _ _ _ => pg_name (i := 6) scCrp.nd rfl (Or.inl rfl)) (fun _ _ _ _ _ => pts_nil) (fun _ _ _ _ _ => (pi_list (pv 5))) (fun _ _ _ _ _ => pg_name (i := 7) scCrp.nd rfl (Or.inl rfl)) (fun _ _ _ _ _ => (pts_one (PW.pt (pw_and (pt_cmpR op_ne (pe_dget (u1 hr.units) (pv 2) (pv 6) (fun _ _ => rfl)) (pe_dget (u1 hr.units) (pv 2) (pv 7) (fun _ _ => rfl)) (nomark _)) (pw_and (pt_cmpR op_gt (pe_dget (u1 hr.units) (pv 3) (pv 6) (fun _ _ => rfl)) (pe_dget (u1 hr.units) (pv 3) (pv 7) (fun _ _ => rfl)) (nomark _)) (pw_and1 (pt_cmpR op_lt (pe_dget (u1 hr.units) (pv 4) (pv 6) (fun _ _ => rfl)) (pe_dget (u1 hr.units) (pv 4) (pv 7) (fun _ _ => rfl)) (nomark _)))))))) (fun _ _ _ _ _ => (pe_tup (pa_cons (pv 6) (pa_cons (pv 7) pa_nil))))))))))), ?_⟩
    walk_at "rd"
    refine ⟨a, us, A, rfl, ha, la, al, fun zs t H1 s1 nt ht lz => ?_⟩
    obtain ⟨ps, rfl, pr⟩ := lg_refs (K := K) lz
    have ndk : (((lastF A).map kvOf).map (·.1)).Nodup := by
      rw [List.map_map]
      show ((lastF A).map fun c => (Sum.inl c.1 : Key)).Nodup
      have := lastF_nd A
      refine List.pairwise_map.mpr (List.Pairwise.imp (fun {x y} h z => h ?_) (List.pairwise_map.mp this))
      exact Sum.inl.inj z
    have em : mergeK [] ((lastF A).map kvOf) = (lastF A).map kvOf := (merge_nd _ [] ndk fun k _ => List.not_mem_nil).trans (List.nil_append _)
    refine ⟨t, rfl, ps, SqL.of ht, _, pr, fun p np => ?_⟩
    rw [em]
    have s2 := s1.trans (same_upd (o := HO.dK ((lastF A).map kvOf)) np)
    have hp := upd_same (H := H1) (a := p) (o := HO.dK ((lastF A).map kvOf))
    generalize upd H1 p (HO.dK ((lastF A).map kvOf)) = H2 at s2 hp ⊢
    refine ⟨a, us, A, rfl, s2 _ _ ha, la.kt (KT.same s2), al, fun d1 H3 s3 n3 pd1 => ?_⟩
    have s23 := s2.trans s3
    refine ⟨b, ws, B, rfl, s23 _ _ hb, lb.kt (KT.same s23), bl, fun d2 H4 s4 n4 pd2 => ?_⟩
    have s24 := s23.trans s4
    have hp4 := s4 _ _ (s3 _ _ hp)
    obtain ⟨kv1, hd1, g1⟩ := pd1
    obtain ⟨kv2, hd2, g2⟩ := pd2
    have hd1 := s4 _ _ hd1
    have nks : ((lastF A).map (·.1)).length ≤ 12 := by
      have := ints_len (r := r) (lastF_nd A) fun x hx => by
        obtain ⟨c, hc, rfl⟩ := List.mem_map.mp ((lastF_mem A x).mp hx)
        exact inr c hc
      omega
    refine ⟨_, .inl hp4, (lastF A).map (·.1), by rw [List.map_map, List.map_map]; rfl, by omega, fun rs o pmr sor no => ?_⟩
    have memr : ∀ x, x ∈ rs ↔ x ∈ A.map (·.1) := fun x => pmr.mem_iff.trans (lastF_mem A x)
    have ndr : rs.Nodup := pmr.nodup_iff.mpr (lastF_nd A)
    have rl : rs.length ≤ 12 := by rw [pmr.length_eq]; exact nks
    have up : rs.Pairwise (· < ·) := List.Pairwise.imp₂ (fun x y h1 h2 => by have h1 : x ≤ y := h1; have h2 : x ≠ y := h2; omega) sor ndr
    have s25 := s24.trans (same_upd (o := HO.lst (rs.map V.int)) no)
    have s45 := same_upd (H := H4) (o := HO.lst (rs.map V.int)) no
    have ho := upd_same (H := H4) (a := o) (o := HO.lst (rs.map V.int))
    generalize upd H4 o (HO.lst (rs.map V.int)) = H5 at s25 s45 ho ⊢
    have hp5 := s45 _ _ hp4
    have hd1 := s45 _ _ hd1
    have hd2 := s45 _ _ hd2
    refine ⟨_, rfl, o, rfl, ⟨_, SqL.of ho⟩, fun c nc => ?_⟩
    have lm : (rs.map V.int).length = rs.length := List.length_map _
    have wS : ∀ x ∈ rs, ∃ z, wordL A x = some z := fun x hx => by
      cases e : wordL A x with
      | some z => exact ⟨z, rfl⟩
      | none => exact absurd ((memr x).mp hx) (wordL_none.mp e)
    have pA : ∀ x ∈ rs, (placeF A x).isSome := fun x hx => place_in ((memr x).mp hx)
    have pB : ∀ x ∈ rs, (placeF B x).isSome := fun x hx => by
      obtain ⟨c, hc, rfl⟩ := List.mem_map.mp ((memr x).mp hx)
      exact calls c hc
    obtain ⟨Pv, hPv⟩ : ∃ Pv : Nat → Hp → Prop, Pv = (fun i Hx => Same H5 Hx ∧ ∃ zs, Hx c = some (.lst zs) ∧ PL Hx zs ((rs.take i).flatMap (crossR A B rs))) := ⟨_, rfl⟩
    refine ⟨fun j m Hx => m = rs.length - j ∧ j ≤ rs.length ∧ Pv j Hx, ⟨_, rfl, Nat.zero_le _, by rw [hPv]; exact ⟨same_upd nc, [], upd_same, PL.nil0 _⟩⟩, ?_⟩
    rintro j mm Hx ⟨rfl, hj, pv⟩
    have pv0 := pv
    rw [hPv] at pv
    obtain ⟨sx, zs, hc, pz⟩ := pv
    by_cases lt : j < rs.length
    · refine .inr ⟨⟨rs.map V.int, .int rs[j], SqL.of (sx _ _ ho), by rw [List.getElem?_map, List.getElem?_eq_getElem lt]; rfl⟩, Pv (j + 1), fun H' q => ⟨_, by omega, rfl, lt, q⟩, ?_⟩
      rintro v H' ⟨rfl, ev⟩
      have e2 := ev _ (SqL.of (sx _ _ ho))
      rw [List.getElem?_map, List.getElem?_eq_getElem lt] at e2
      have e3 := Option.some.inj e2
      subst e3
      have mx : rs[j] ∈ rs := List.getElem_mem lt
      have tk : (rs.take (j + 1)).flatMap (crossR A B rs) = (rs.take j).flatMap (crossR A B rs) ++ crossR A B rs rs[j] := by
        rw [List.take_add_one, List.getElem?_eq_getElem lt, List.flatMap_append]
        congr 1
        show crossR A B rs rs[j] ++ [] = _
        rw [List.append_nil]
      have nxt : ∀ Hx zs, Same H5 Hx → Hx c = some (.lst zs) → PL Hx zs ((rs.take j).flatMap (crossR A B rs) ++ crossR A B rs rs[j]) → Pv (j + 1) Hx := fun Hx zs h1 h2 h3 => by
        rw [hPv]
        exact ⟨h1, zs, h2, by rw [tk]; exact h3⟩
      have dlen : ((rs.take j).flatMap (crossR A B rs)).length ≤ 144 := by
        have h1 := cross_len A B rs (rs.take j)
        have h2 : (rs.take j).length ≤ 12 := by rw [List.length_take]; omega
        exact Nat.le_trans h1 (Nat.mul_le_mul h2 rl)
      generalize rs[j] = x at mx nxt ⊢
      generalize (rs.take j).flatMap (crossR A B rs) = done at pz nxt dlen
      clear tk ev e2
      obtain ⟨Pw, hPw⟩ : ∃ Pw : Nat → Hp → Prop, Pw = (fun k Hy => Same H5 Hy ∧ ∃ zs, Hy c = some (.lst zs) ∧ PL Hy zs (done ++ ((rs.take k).filter fun y => crossB A B x y).map fun y => (x, y))) := ⟨_, rfl⟩
      refine ⟨rfl, iteT (B := True) ?_⟩
      refine ⟨_, rfl, o, rfl, ⟨_, SqL.of (sx _ _ ho)⟩, in_list (K := K) (a := o) (xs := rs.map V.int) Pw (by rw [hPw]; exact ⟨sx, zs, hc, by rw [List.take_zero]; simpa using pz⟩) (fun k Hy _ pw => by rw [hPw] at pw; exact SqL.of (pw.1 _ _ ho)) (fun k v Hy gv pw => ?_) (fun Hy pw => ?_)⟩
      · rw [hPw] at pw
        obtain ⟨sy, ws', hc2, pz2⟩ := pw
        rw [List.getElem?_map] at gv
        obtain ⟨y, gy, rfl⟩ : ∃ y, rs[k]? = some y ∧ v = V.int y := by
          cases e : rs[k]? with
          | none => rw [e] at gv; cases gv
          | some y => rw [e] at gv; exact ⟨y, rfl, (Option.some.inj gv).symm⟩
        have my : y ∈ rs := List.mem_of_getElem? gy
        simp only [wipe]
        unfold tDGet
        walk_at "rd"
        obtain ⟨wx, ewx⟩ := wS x mx
        obtain ⟨wy, ewy⟩ := wS y my
        have dW : ∀ (z : Int) (q : Str), wordL A z = some q → DGet Hy p (.int z) (some (.str q)) := fun z q e => by
          have h := DGet.k (k := Sum.inl z) (sy _ _ hp5)
          rw [lastF_val, e] at h
          exact h
        have dA : ∀ z ∈ rs, DGet Hy d1 (.int z) (some (.int (placeI A z))) := fun z hz => by
          rw [← place_some g1 (pA z hz)]
          exact DGet.k (k := Sum.inl z) (sy _ _ hd1)
        have dB : ∀ z ∈ rs, DGet Hy d2 (.int z) (some (.int (placeI B z))) := fun z hz => by
          rw [← place_some g2 (pB z hz)]
          exact DGet.k (k := Sum.inl z) (sy _ _ hd2)
        have step : (rs.take (k + 1)).filter (fun y => crossB A B x y) = (rs.take k).filter (fun y => crossB A B x y) ++ (if crossB A B x y = true then [y] else []) := by
          rw [List.take_add_one, gy, List.filter_append]
          congr 1
          show List.filter _ [y] = _
          by_cases h : crossB A B x y = true
          · rw [if_pos h, List.filter_cons_of_pos h, List.filter_nil]
          · rw [if_neg h, List.filter_cons_of_neg h, List.filter_nil]
        have skip : ¬ crossB A B x y = true → Pw (k + 1) Hy := fun h => by
          rw [hPw]
          refine ⟨sy, ws', hc2, ?_⟩
          rw [step, if_neg h, List.append_nil]
          exact pz2
        have cb : crossB A B x y = (decide (wx ≠ wy) && (decide (placeI A y < placeI A x) && decide (placeI B x < placeI B y))) := by
          unfold crossB
          rw [ewx, ewy]
          congr 1
          by_cases h : wx = wy
          · simp [h]
          · simp [h]
        refine ⟨_, dW x wx ewx, _, dW y wy ewy, rfl, _, rfl, ?_⟩
        by_cases cw : wx = wy
        · rw [decide_eq_true (show V.str wx = V.str wy by rw [cw]), if_neg (by decide), if_neg (show ¬ False from id)]
          exact skip (by rw [cb, decide_eq_false (fun z => z cw)]; simp)
        rw [decide_eq_false (show ¬ V.str wx = V.str wy from fun z => cw (V.str.inj z)), if_pos (show (!false) = true from rfl)]
        refine ⟨_, dA x mx, _, dA y my, _, rfl, _, rfl, ?_⟩
        by_cases ca : placeI A y < placeI A x
        rotate_left
        · rw [if_neg ca, if_neg (show ¬ False from id)]
          exact skip (by rw [cb, decide_eq_false ca]; simp)
        rw [if_pos ca]
        refine ⟨_, dB x mx, _, dB y my, _, rfl, _, rfl, ?_⟩
        by_cases cc : placeI B x < placeI B y
        rotate_left
        · rw [if_neg cc]
          exact skip (by rw [cb, decide_eq_false cc]; simp)
        rw [if_pos cc]
        have yes : crossB A B x y = true := by rw [cb, decide_eq_true (show wx ≠ wy from cw), decide_eq_true ca, decide_eq_true cc]; rfl
        refine ⟨by decide, fun t nt => ?_⟩
        have nct : c ≠ t := ne_of_none hc2 nt
        have wl : ws'.length ≤ 1000 := by
          rw [pz2.len, List.length_append, List.length_map]
          have h1 := List.length_filter_le (fun y => crossB A B x y) (rs.take k)
          rw [List.length_take] at h1
          omega
        refine ⟨ws', by rw [upd_ne nct]; exact hc2, len_big (by omega), ?_⟩
        rw [hPw]
        refine ⟨same_ch (sy.trans (same_upd nt)) nc, ws' ++ [.ref t], upd_same, ?_⟩
        rw [step, if_pos yes, List.map_append, ← List.append_assoc]
        refine PL.snoc ((pz2.kt (KT.new nt)).kt (KT.lst (by rw [upd_ne nct]; exact hc2))) ⟨t, rfl, ?_⟩
        rw [upd_ne nct.symm, upd_same]
      · rw [hPw] at pw
        obtain ⟨sy, ws', hc2, pz2⟩ := pw
        rw [lm, List.take_length] at pz2
        exact nxt Hy ws' sy hc2 pz2
    · have e : j = rs.length := by omega
      subst e
      rw [List.take_length] at pz
      refine .inl ⟨⟨_, SqL.of (sx _ _ ho), by rw [lm]; exact Nat.le_refl _⟩, ?_⟩
      exact ret rs zs c Hx up memr (s25.trans sx) (s25.free nc) hc pz
end

abbrev sUr : Stmt := topS 27
def optS (o : Option Str) : V := match o with
  | some z => .str z
  | none => .non
theorem optS_scal (o o' : Option Str) : scal (optS o) (optS o') = true := by cases o <;> cases o' <;> rfl
theorem optS_inj {o o' : Option Str} (h : optS o = optS o') : o = o' := by
  cases o with
  | none =>
    cases o' with
    | none => rfl
    | some z => cases h
  | some y =>
    cases o' with
    | none => cases h
    | some z => exact congrArg some (V.str.inj h)
theorem wordL_snoc (S : List Cl) (c : Cl) (x : Int) : wordL (S ++ [c]) x = if c.1 = x then some c.2 else wordL S x := by
  unfold wordL lastIn
  rw [List.reverse_append]
  show Option.map _ (List.find? _ (c :: S.reverse)) = _
  by_cases h : c.1 = x
  · rw [List.find?_cons_of_pos (by simp [h]), if_pos h]
    rfl
  · rw [List.find?_cons_of_neg (by simp [h]), if_neg h]
theorem wordsF_get {r : Nat} {L : List Cl} (inr : InR r L) {k : Nat} (hk : k < r) : (wordsF r L)[k]? = some (optS (wordL L k)) := by
  have key : ∀ j, j ≤ L.length → (wordsF r (L.take j))[k]? = some (optS (wordL (L.take j) k)) := by
    intro j
    induction j with
    | zero =>
      intro _
      show (List.replicate r V.non)[k]? = _
      rw [List.getElem?_replicate, if_pos hk]
      rfl
    | succ j ih =>
      intro hj
      have gc : L[j]? = some L[j] := List.getElem?_eq_getElem (by omega)
      have ic := inr L[j] (List.getElem_mem _)
      rw [wordsF_step gc, List.take_add_one, gc]
      show _ = some (optS (wordL (L.take j ++ [L[j]]) k))
      rw [wordL_snoc]
      have ih := ih (by omega)
      generalize L[j] = c at ic
      by_cases h : c.1 = (k : Int)
      · rw [if_pos h, show c.1.toNat = k by omega, List.getElem?_set_self (by rw [wordsF_len]; exact hk)]
        rfl
      · rw [if_neg h, List.getElem?_set_ne (by omega)]
        exact ih
  have := key L.length (Nat.le_refl _)
  rw [List.take_length] at this
  exact this
section
variable {P : Program} {w : World} {K : PySem.W.Frag} {mg : Str → Option Value} {base : Heap}
theorem scUr : FnScope ["house", "first", "second", "words", "others", "room"] ["house", "first", "second"] (defScope sUr) := ⟨rfl, rfl, rfl, by decide +kernel, rfl, by decide +kernel, by decide +kernel⟩
def spUr (C : Addr) : Sp := fun vs H Q _ => ∃ (p a b : Addr) (us ws : List V) (A B : List Cl) (r : Nat) (D : List Pr) (own : List Addr), vs = [.ref p, .ref a, .ref b] ∧ HouseAt C H p r D own ∧ H a = some (.lst us) ∧ LG H us A ∧ InR r A ∧ H b = some (.lst ws) ∧ LG H ws B ∧ InR r B ∧
  (∀ k : Nat, k < r → wordL A k ≠ wordL B k → (∀ j : Nat, j < k → wordL A j = wordL B j) → ∀ H', Same H H' → Q (.int k) H') ∧ ((∀ k : Nat, k < r → wordL A k = wordL B k) → ∀ H', Same H H' → Q .non H')
theorem ok_ur {f C fW : Addr} {fd fdW : FuncData} (F : Fun K "unlike_room" "unlike_room" sUr f fd) (T : Bi mg) (U : Hs K mg C) (d_words_of : Df P w K mg base "words_of" ["house", "log"] 1 (spWds C) fW fdW) : FnOk P w K mg base CX0 2 f fd ["house", "first", "second"] (spUr C) := by
  refine F.ok scUr (fun vs H Q E h => ?_) (fun cdv A0 outer s H vs Q E hr h => ?_)
  · obtain ⟨p, a, b, us, ws, A, B, r, D, own, rfl, _⟩ := h
    rfl
  · obtain ⟨p, a, b, us, ws, A, B, r, D, own, rfl, hh, ha, la, ia, hb, lb, ib, hN, hS⟩ := h
    refine ⟨_, (pss_cons (ps_set (i := 3) scUr.nd rfl (Or.inl rfl) (pe_call d_words_of.ok (hr.mono (by decide)) (by rfl) d_words_of.at_ d_words_of.kp d_words_of.b .nil pass0 (pa_cons (pv 0) (pa_cons (pv 1) pa_nil))))
      (pss_cons (ps_set (i := 4) scUr.nd rfl (Or.inl rfl) (pe_call d_words_of.ok (hr.mono (by decide)) (by rfl) d_words_of.at_ d_words_of.kp d_words_of.b .nil pass0 (pa_cons (pv 0) (pa_cons (pv 2) pa_nil))))
      (pss_cons (ps_for PassesOwn.never rfl (pi_range1 (by rfl) T.range (pa_cons (pe_fld (pv 0) rfl) pa_nil)) (pg_name (i := 5) scUr.nd rfl (Or.inl rfl))
      (pss_one (ps_if (pt_cmpR op_ne (pe_ix ix_list (pv 3) (pv 5) (fun _ _ => rfl)) (pe_ix ix_list (pv 4) (pv 5) (fun _ _ => rfl)) (nomark _))
        (pss_one (ps_ret (pv 5)))
        pss_nil)))
      (pss_one (ps_ret pe_non))))), ?_⟩
    walk_at "rd"
    refine ⟨p, a, us, A, r, D, own, rfl, hh, ha, la, ia, fun q1 H1 s1 nq1 hq1 => ?_⟩
    refine ⟨p, b, ws, B, r, D, own, rfl, hh.same s1, s1 _ _ hb, lb.kt (KT.same s1), ib, fun q2 H2 s2 nq2 hq2 => ?_⟩
    have s12 := s1.trans s2
    have hq1 := s2 _ _ hq1
    obtain ⟨dx, l0, m0, ls, nss, h1, _⟩ := (hh.same s12).ex
    have r12 := hh.r12
    refine for_iterW ?_
    walk_at "rd"
    refine ⟨C, dx, _, h1, U.cl, U.nR, .int r, hf_rooms _ _ _, r, rfl, by omega, by omega, ?_⟩
    obtain ⟨Pv, hPv⟩ : ∃ Pv : Nat → L2.St → Hp → Prop, Pv = (fun i σ H' => ∃ v5, σ = [some (.ref p), some (.ref a), some (.ref b), some (.ref q1), some (.ref q2), v5] ∧ H2 = H' ∧ ∀ j : Nat, j < i → wordL A j = wordL B j) := ⟨_, rfl⟩
    refine for_range (lo := 0) (n := (r : Int).toNat) Pv (by rw [hPv]; exact ⟨none, rfl, rfl, fun j hj => absurd hj (by omega)⟩) (fun i σ H' hi pv => ?_) (fun σ H' pv => ?_)
    · rw [hPv] at pv
      obtain ⟨v5, rfl, rfl, all⟩ := pv
      have hir : i < r := by omega
      walk_at "rd"
      refine ⟨_, SqL.of hq1, optS (wordL A i), at_of (j := i) (by omega) (wordsF_get ia hir), _, SqL.of hq2, optS (wordL B i), at_of (j := i) (by omega) (wordsF_get ib hir), ?_⟩
      refine ⟨optS_scal _ _, _, rfl, ?_⟩
      by_cases h : wordL A i = wordL B i
      · rw [decide_eq_true (show optS (wordL A i) = optS (wordL B i) by rw [h]), if_neg (by decide), hPv]
        exact ⟨_, rfl, rfl, fun j hj => (Nat.lt_succ_iff_lt_or_eq.mp hj).elim (all j) (fun e => by rw [e]; exact h)⟩
      · rw [decide_eq_false (fun z => h (optS_inj z)), if_pos (show (!false) = true from rfl), Int.zero_add]
        exact hN i hir h all _ s12
    · rw [hPv] at pv
      obtain ⟨v5, rfl, rfl, all⟩ := pv
      walk_at "rd"
      exact hS (fun k hk => all k (by omega)) _ s12
end

abbrev sPp : Stmt := topS 26
/-! ### (len(path), path), compared -/
def lenD (p : List Int) : PyData := .tuple [.int p.length, .tuple (p.map PyData.int)]
theorem toks_lt : ∀ (p q : List Int) (x y : List (Int ⊕ List Nat)), p.length = q.length → x = y → (PyProof.Rows.lexLt itemOrd (PySem.W.keyToksAll (p.map PyData.int) ++ x) (PySem.W.keyToksAll (q.map PyData.int) ++ y) = true ↔ ltL p q)
  | [], [], x, y, _, e => by
    subst e
    rw [PyProof.Rows.lex_irrefl]
    simp [ltL]
  | [], _ :: _, _, _, h, _ => by cases h
  | _ :: _, [], _, _, h, _ => by cases h
  | a :: s, b :: t, x, y, h, e => by
    show PyProof.Rows.lexLt itemOrd (Sum.inl 1 :: Sum.inl a :: (PySem.W.keyToksAll (s.map PyData.int) ++ x)) (Sum.inl 1 :: Sum.inl b :: (PySem.W.keyToksAll (t.map PyData.int) ++ y)) = true ↔ _
    rw [PyProof.Rows.lex_self]
    by_cases c : a = b
    · subst c
      rw [PyProof.Rows.lex_self, toks_lt s t x y (Nat.succ.inj h) e]
      show _ ↔ (a < a ∨ (a = a ∧ ltL s t))
      exact ⟨fun z => .inr ⟨rfl, z⟩, fun z => z.elim (fun w => absurd w (by omega)) (·.2)⟩
    · rw [PyProof.Rows.lex_diff (fun z => c (Sum.inl.inj z))]
      show decide (a < b) = true ↔ (a < b ∨ (a = b ∧ ltL s t))
      rw [decide_eq_true_iff]
      exact ⟨.inl, fun z => z.elim id fun w => absurd w.1 c⟩
theorem dataLt_len (p q : List Int) : PySem.W.dataLt (lenD p) (lenD q) = true ↔ slt p q := by
  unfold PySem.W.dataLt lenD
  show PyProof.Rows.lexLt itemOrd (Sum.inl 1 :: Sum.inl (p.length : Int) :: Sum.inl 1 :: (PySem.W.keyToksAll (p.map PyData.int) ++ [Sum.inl 0])) (Sum.inl 1 :: Sum.inl (q.length : Int) :: Sum.inl 1 :: (PySem.W.keyToksAll (q.map PyData.int) ++ [Sum.inl 0])) = true ↔ _
  rw [PyProof.Rows.lex_self]
  by_cases c : p.length = q.length
  · rw [c, PyProof.Rows.lex_self, PyProof.Rows.lex_self, toks_lt p q _ _ c rfl]
    exact ⟨fun z => .inr ⟨c, z⟩, fun z => z.elim (fun w => absurd w (by omega)) (·.2)⟩
  · rw [PyProof.Rows.lex_diff (fun z => c (by have := Sum.inl.inj z; omega))]
    show decide ((p.length : Int) < q.length) = true ↔ _
    rw [decide_eq_true_iff]
    exact ⟨fun z => .inl (by omega), fun z => z.elim (fun w => by omega) fun w => absurd w.1 c⟩
theorem alike_ints : ∀ p q : List Int, PySem.W.alikeAll (p.map PyData.int) (q.map PyData.int) = true
  | [], [] => rfl
  | [], _ :: _ => rfl
  | _ :: _, [] => rfl
  | _ :: s, _ :: t => by
    show (true && PySem.W.alikeAll (s.map PyData.int) (t.map PyData.int)) = true
    rw [alike_ints s t]
    rfl
theorem alike_len (p q : List Int) : PySem.W.alike (lenD p) (lenD q) = true := by
  show (true && (PySem.W.alikeAll (p.map PyData.int) (q.map PyData.int) && true)) = true
  rw [alike_ints]
  rfl
theorem dep_ints : ∀ p : List Int, PyData.depthAll (p.map PyData.int) = 0
  | [] => rfl
  | _ :: s => by
    show max 0 (PyData.depthAll (s.map PyData.int)) = 0
    rw [dep_ints s]
    rfl
theorem dep_len (p : List Int) : (lenD p).depth ≤ 2 := by
  show max 0 (max (PyData.depthAll (p.map PyData.int) + 1) 0) + 1 ≤ 2
  rw [dep_ints]
  decide
theorem dp_ints {K : PySem.W.Frag} {H : Hp} : ∀ p : List Int, DpAll K H (p.map V.int) (p.map PyData.int)
  | [] => .nil
  | _ :: s => .cons (.int _) (dp_ints s)
theorem dp_len {K : PySem.W.Frag} {H : Hp} {u t : Addr} {p : List Int} (hu : H u = some (.tup [.int p.length, .ref t])) (ht : H t = some (.tup (p.map V.int))) : Dp K H (.ref u) (lenD p) :=
  .tup (SqT.of hu) (.cons (.int _) (.cons (.tup (SqT.of ht) (dp_ints p)) .nil))
theorem Room.u2 {k : Nat} {A : Around} (r : Room k A) : A.units + 2 < cLine := by
  have := r.un
  omega
/-! ### the best of a set of paths -/
def BestOf (H : Hp) (S : List Int → Prop) (v : V) : Prop := (∃ q t, v = .ref t ∧ H t = some (.tup (q.map V.int)) ∧ S q ∧ ∀ q', S q' → sle q q') ∨ (v = .non ∧ ∀ q, ¬ S q)
theorem BestOf.same {H H' : Hp} {S : List Int → Prop} {v : V} (h : BestOf H S v) (s : Same H H') : BestOf H' S v := by
  rcases h with ⟨q, t, e, ht, h1, h2⟩ | h
  · exact .inl ⟨q, t, e, s _ _ ht, h1, h2⟩
  · exact .inr h
theorem BestOf.congr {H : Hp} {S S' : List Int → Prop} {v : V} (h : BestOf H S v) (e : ∀ q, S q ↔ S' q) : BestOf H S' v := by
  rcases h with ⟨q, t, ev, ht, h1, h2⟩ | ⟨ev, h⟩
  · exact .inl ⟨q, t, ev, ht, (e q).mp h1, fun q' hq => h2 q' ((e q').mpr hq)⟩
  · exact .inr ⟨ev, fun q hq => h q ((e q).mpr hq)⟩
theorem best_add {H : Hp} {S N : List Int → Prop} {bv v : V} {D : List Pr} {R : List Int} {x y : Int} (hN : ∀ q, N q ↔ Lst D R x y q) (hb : BestOf H S bv) (hv : (∃ q t, v = V.ref t ∧ H t = some (.tup (q.map V.int)) ∧ Lst D R x y q) ∨ (v = .non ∧ ∀ q, ¬ Pth D R x y q)) :
    (v = .non → BestOf H (fun q => S q ∨ N q) bv) ∧ (v ≠ .non → bv = .non → BestOf H (fun q => S q ∨ N q) v) ∧ (∀ q t qb tb, v = V.ref t → H t = some (.tup (q.map V.int)) → Lst D R x y q → bv = V.ref tb → H tb = some (.tup (qb.map V.int)) → S qb → (∀ q', S q' → sle qb q') → (slt q qb → BestOf H (fun q => S q ∨ N q) v) ∧ (¬ slt q qb → BestOf H (fun q => S q ∨ N q) bv)) := by
  refine ⟨fun e => ?_, fun ne eb => ?_, fun q t qb tb ev ht hl eb htb sb mb => ⟨fun lt => ?_, fun nl => ?_⟩⟩
  · rcases hv with ⟨q, t, ev, _⟩ | ⟨_, no⟩
    · rw [ev] at e; cases e
    · exact hb.congr fun q => ⟨.inl, fun z => z.elim id fun n => absurd ((hN q).mp n).1 (no q)⟩
  · rcases hv with ⟨q, t, ev, ht, hl⟩ | ⟨e, _⟩
    · rcases hb with ⟨qb, tb, e2, _⟩ | ⟨_, nb⟩
      · rw [e2] at eb; cases eb
      · refine .inl ⟨q, t, ev, ht, .inr ((hN q).mpr hl), fun q' hq => ?_⟩
        rcases hq with hq | hq
        · exact absurd hq (nb q')
        · exact .inl (Lst.uniq hl ((hN q').mp hq))
    · exact absurd e ne
  · refine .inl ⟨q, t, ev, ht, .inr ((hN q).mpr hl), fun q' hq => ?_⟩
    rcases hq with hq | hq
    · exact sle_trans (.inr lt) (mb q' hq)
    · exact .inl (Lst.uniq hl ((hN q').mp hq))
  · refine .inl ⟨qb, tb, eb, htb, .inl sb, fun q' hq => ?_⟩
    rcases hq with hq | hq
    · exact mb q' hq
    · rw [← Lst.uniq hl ((hN q').mp hq)]
      rcases slt_tri qb q with e | e | e
      · exact .inl e
      · exact .inr e
      · exact absurd e nl
section
variable {P : Program} {w : World} {K : PySem.W.Frag} {mg : Str → Option Value} {base : Heap}
theorem scPp : FnScope ["house", "first", "second", "room", "best", "x", "y", "inside", "path"] ["house", "first", "second"] (defScope sPp) := ⟨rfl, rfl, rfl, by decide +kernel, rfl, by decide +kernel, by decide +kernel⟩
/-- a first path between the two rooms of a crossed pair, inside its hall -/
def Cnd (A B : List Cl) (r : Nat) (D : List Pr) (d : Pr) (q : List Int) : Prop := Lst D (hallF r A B d.1 d.2) d.1 d.2 q ∨ Lst D (hallF r A B d.1 d.2) d.2 d.1 q
def spPp (C : Addr) : Sp := fun vs H Q _ => ∃ (p a b : Addr) (us ws : List V) (A B : List Cl) (r : Nat) (D : List Pr) (own : List Addr), vs = [.ref p, .ref a, .ref b] ∧ HouseAt C H p r D own ∧ H a = some (.lst us) ∧ LG H us A ∧ A.length ≤ 1000 ∧ InR r A ∧ H b = some (.lst ws) ∧ LG H ws B ∧ B.length ≤ 1000 ∧ InR r B ∧
  (∀ k : Nat, k < r → wordL A k ≠ wordL B k → (∀ j : Nat, j < k → wordL A j = wordL B j) → ∀ t H', Same H H' → H' t = some (.tup [.int k]) → Q (.ref t) H') ∧
  ((∀ k : Nat, k < r → wordL A k = wordL B k) → ∀ (rs : List Int) (v : V) (H' : Hp), rs.Pairwise (· < ·) → (∀ x, x ∈ rs ↔ x ∈ A.map (·.1)) → Same H H' → BestOf H' (fun q => ∃ d ∈ crossF A B rs, Cnd A B r D d q) v → Q v H')
theorem ok_pp {f C g fU fX fH fF : Addr} {fd fdU fdX fdH fdF : FuncData} (F : Fun K "parting_path" "parting_path" sPp f fd) (T : Bi mg) (U : Hs K mg C) (d_unlike_room : Df P w K mg base "unlike_room" ["house", "first", "second"] 2 (spUr C) fU fdU) (d_crossed_pairs : Df P w K mg base "crossed_pairs" ["first", "second"] 2 spCrp fX fdX) (d_hall : Df P w K mg base "hall" ["house", "first", "second", "pair"] 2 (spHall C) fH fdH) (d_first_path : Df P w K mg base "first_path" ["house", "start", "goal", "inside"] 3 (spFst K C) fF fdF) : FnOk P w K mg base CX0 4 f fd ["house", "first", "second"] (spPp C) := by
  refine F.ok scPp (fun vs H Q E h => ?_) (fun cdv A0 outer s H vs Q E hr h => ?_)
  · obtain ⟨p, a, b, us, ws, A, B, r, D, own, rfl, _⟩ := h
    rfl
  · obtain ⟨p, a, b, us, ws, A, B, r, D, own, rfl, hh, ha, la, al, ia, hb, lb, bl, ib, hN, hS⟩ := h
    refine ⟨_, (pss_cons (ps_set (i := 3) scPp.nd rfl (Or.inl rfl) (pe_call d_unlike_room.ok (hr.mono (by decide)) (by rfl) d_unlike_room.at_ d_unlike_room.kp d_unlike_room.b .nil pass0 (pa_cons (pv 0) (pa_cons (pv 1) (pa_cons (pv 2) pa_nil)))))
      (pss_cons (ps_if (pt_cmpR op_notN (pv 3) pe_non (nomark _))
      (pss_one (ps_ret (pe_tup (pa_cons (pv 3) pa_nil))))
      pss_nil)
      (pss_cons (ps_set (i := 4) scPp.nd rfl (Or.inl rfl) pe_non)
      (pss_cons (ps_for PassesOwn.never rfl (pi_list (pe_call d_crossed_pairs.ok (hr.mono (by decide)) (by rfl) d_crossed_pairs.at_ d_crossed_pairs.kp d_crossed_pairs.b .nil pass0 (pa_cons (pv 1) (pa_cons (pv 2) pa_nil)))) (pg_tup rfl (pgs_cons (pg_name (i := 5) scPp.nd rfl (Or.inl rfl)) (pgs_cons (pg_name (i := 6) scPp.nd rfl (Or.inl rfl)) pgs_nil)))
      (pss_cons (ps_set (i := 7) scPp.nd rfl (Or.inl rfl) (pe_call d_hall.ok (hr.mono (by decide)) (by rfl) d_hall.at_ d_hall.kp d_hall.b .nil pass0 (pa_cons (pv 0) (pa_cons (pv 1) (pa_cons (pv 2) (pa_cons (pe_tup (pa_cons (pv 5) (pa_cons (pv 6) pa_nil))) pa_nil))))))
        (pss_one (ps_for PassesOwn.never rfl (pi_tup (pe_tup (pa_cons (pe_call d_first_path.ok (hr.mono (by decide)) (by rfl) d_first_path.at_ d_first_path.kp d_first_path.b .nil pass0 (pa_cons (pv 0) (pa_cons (pv 5) (pa_cons (pv 6) (pa_cons (pv 7) pa_nil))))) (pa_cons (pe_call d_first_path.ok (hr.mono (by decide)) (by rfl) d_first_path.at_ d_first_path.kp d_first_path.b .nil pass0 (pa_cons (pv 0) (pa_cons (pv 6) (pa_cons (pv 5) (pa_cons (pv 7) pa_nil))))) pa_nil)))) (pg_name (i := 8) scPp.nd rfl (Or.inl rfl))
        (pss_one (ps_if (PW.pt (pw_and (pt_cmpR op_notN (pv 8) pe_non (nomark _)) (pw_and1 (PW.pt (pw_or (pt_cmpR op_isN (pv 4) pe_non (nomark _)) (pw_or1 (pt_cmpR (op_ltD (n := 2) (Room.u2 hr)) (pe_tup (pa_cons (pe_callB call_len_seq (by rfl) T.len (by decide +kernel) (pa_cons (pv 8) pa_nil)) (pa_cons (pv 8) pa_nil))) (pe_tup (pa_cons (pe_callB call_len_seq (by rfl) T.len (by decide +kernel) (pa_cons (pv 4) pa_nil)) (pa_cons (pv 4) pa_nil))) (nomark _))))))))
          (pss_one (ps_set (i := 4) scPp.nd rfl (Or.inl rfl) (pv 8)))
          pss_nil))))))
      (pss_one (ps_ret (pv 4))))))), ?_⟩
    walk_at "rd"
    have r12 := hh.r12
    refine ⟨p, a, b, us, ws, A, B, r, D, own, rfl, hh, ha, la, ia, hb, lb, ib, fun k hk ne least H1 s1 => ?_, fun eq H1 s1 => ?_⟩
    · dsimp only
      rw [if_pos (show (!decide (V.int (k : Int) = V.non)) = true by simp)]
      exact ⟨by decide, fun t nt => hN k hk ne least t _ (s1.trans (same_upd nt)) upd_same⟩
    dsimp only
    rw [if_neg (show ¬ (!decide (V.non = V.non)) = true by simp)]
    have calls : ∀ c ∈ A, (placeF B c.1).isSome := fun c hc => by
      have i := ia c hc
      have e := eq c.1.toNat (by omega)
      rw [show ((c.1.toNat : Nat) : Int) = c.1 by omega] at e
      by_cases m : c.1 ∈ B.map (·.1)
      · exact place_in m
      · rw [wordL_none.mpr m] at e
        exact absurd (List.mem_map.mpr ⟨c, hc, rfl⟩) (wordL_none.mp e)
    refine for_iterW ?_
    walk_at "rd"
    refine ⟨a, b, us, ws, A, B, r, rfl, s1 _ _ ha, la.kt (KT.same s1), al, s1 _ _ hb, lb.kt (KT.same s1), bl, ia, r12, calls, fun rs zs tl H2 up memr s2 ntl htl pz => ?_⟩
    have s12 := s1.trans s2
    have hS := hS eq rs
    have mem : ∀ d ∈ crossF A B rs, d.1 ∈ A.map (·.1) ∧ d.2 ∈ A.map (·.1) := fun d hd => by
      obtain ⟨x, hx, hd⟩ := List.mem_flatMap.mp hd
      obtain ⟨y, hy, rfl⟩ := List.mem_map.mp hd
      exact ⟨(memr x).mp hx, (memr y).mp (List.mem_filter.mp hy).1⟩
    have zl : zs.length = (crossF A B rs).length := pz.len
    obtain ⟨Pv, hPv⟩ : ∃ Pv : Nat → L2.St → Hp → Prop, Pv = (fun i σ H' => ∃ (bv : V) (v5 v6 v7 v8 : Option V), σ = [some (.ref p), some (.ref a), some (.ref b), some .non, some bv, v5, v6, v7, v8] ∧ Same H2 H' ∧ BestOf H' (fun q => ∃ d ∈ (crossF A B rs).take i, Cnd A B r D d q) bv) := ⟨_, rfl⟩
    refine ⟨tl, rfl, ⟨_, SqL.of htl⟩, for_list (K := K) (a := tl) (xs := zs) Pv (by rw [hPv]; exact ⟨_, _, _, _, _, rfl, Same.refl _, .inr ⟨rfl, fun q ⟨d, hd, _⟩ => by cases hd⟩⟩) (fun i σ H' _ pv => by rw [hPv] at pv; obtain ⟨_, _, _, _, _, _, sm, _⟩ := pv; exact SqL.of (sm _ _ htl)) (fun i v σ H3 gv pv => ?_) (fun σ H3 pv => ?_)⟩
    · rw [hPv] at pv
      obtain ⟨bv, v5, v6, v7, v8, rfl, sm, bo⟩ := pv
      obtain ⟨d, gd, td, rfl, htd⟩ := pz.get gv
      have md := mem d (List.mem_of_getElem? gd)
      have s13 := s12.trans sm
      walk_at "rd"
      refine ⟨_, SqT.of (sm _ _ htd), rfl, .int d.1, [.int d.2], rfl, .int d.2, [], rfl, rfl, ?_⟩
      walk_at "rd"
      refine ⟨by decide, fun t1 nt1 => ?_⟩
      have s34 := same_upd (o := HO.tup [V.int d.1, V.int d.2]) nt1
      have s14 := s13.trans s34
      have pA := place_in md.1
      have pB : (placeF B d.2).isSome := by
        obtain ⟨c, hc, e⟩ := List.mem_map.mp md.2
        rw [← e]
        exact calls c hc
      refine ⟨p, a, b, t1, d.1, d.2, us, ws, A, B, r, D, own, rfl, hh.same s14, s14 _ _ ha, la.kt (KT.same s14), al, s14 _ _ hb, lb.kt (KT.same s14), bl, upd_same, pA, pB, fun o H5 s45 no ho => ?_⟩
      have s15 := s14.trans s45
      have s35 := s34.trans s45
      have inH : ∀ x ∈ hallF r A B d.1 d.2, 0 ≤ x ∧ x < r := fun x hx => rg_mem (List.mem_filter.mp hx).1
      refine for_iterW ?_
      unfold iTup
      walk_at "rd"
      refine ⟨p, o, d.1, d.2, hallF r A B d.1 d.2, r, D, own, rfl, hh.same s15, .inl (SqL.of ho), inH, fun v1 H6 s56 r1 => ?_⟩
      refine ⟨p, o, d.2, d.1, hallF r A B d.1 d.2, r, D, own, rfl, hh.same (s15.trans s56), .inl (SqL.of (s56 _ _ ho)), inH, fun v2 H7 s67 r2 => ⟨by decide, fun tt ntt => ?_⟩⟩
      have s78 := same_upd (o := HO.tup [v1, v2]) ntt
      have htt := upd_same (H := H7) (a := tt) (o := HO.tup [v1, v2])
      generalize upd H7 tt (HO.tup [v1, v2]) = H8 at s78 htt ⊢
      have s68 := s67.trans s78
      have s38 := s35.trans (s56.trans s68)
      have bo8 := bo.same s38
      obtain ⟨Sj, hSj⟩ : ∃ Sj : Nat → List Int → Prop, Sj = (fun j q => ((∃ e ∈ (crossF A B rs).take i, Cnd A B r D e q) ∨ (1 ≤ j ∧ Lst D (hallF r A B d.1 d.2) d.1 d.2 q)) ∨ (2 ≤ j ∧ Lst D (hallF r A B d.1 d.2) d.2 d.1 q)) := ⟨_, rfl⟩
      have hv1 : ∀ H9, Same H8 H9 → (∃ q t, v1 = V.ref t ∧ H9 t = some (.tup (q.map V.int)) ∧ Lst D (hallF r A B d.1 d.2) d.1 d.2 q) ∨ (v1 = .non ∧ ∀ q, ¬ Pth D (hallF r A B d.1 d.2) d.1 d.2 q) := fun H9 s9 => by
        rcases r1 with ⟨q, t, e, ht, hl⟩ | h
        · exact .inl ⟨q, t, e, s9 _ _ (s68 _ _ ht), hl⟩
        · exact .inr h
      have hv2 : ∀ H9, Same H8 H9 → (∃ q t, v2 = V.ref t ∧ H9 t = some (.tup (q.map V.int)) ∧ Lst D (hallF r A B d.1 d.2) d.2 d.1 q) ∨ (v2 = .non ∧ ∀ q, ¬ Pth D (hallF r A B d.1 d.2) d.2 d.1 q) := fun H9 s9 => by
        rcases r2 with ⟨q, t, e, ht, hl⟩ | h
        · exact .inl ⟨q, t, e, s9 _ _ (s78 _ _ ht), hl⟩
        · exact .inr h
      obtain ⟨Pw, hPw⟩ : ∃ Pw : Nat → L2.St → Hp → Prop, Pw = (fun j σ H' => ∃ (bv : V) (v8 : Option V), σ = [some (.ref p), some (.ref a), some (.ref b), some .non, some bv, some (.int d.1), some (.int d.2), some (.ref o), v8] ∧ Same H8 H' ∧ BestOf H' (Sj j) bv) := ⟨_, rfl⟩
      refine ⟨⟨_, SqT.of htt⟩, for_tup (K := K) (a := tt) (xs := [v1, v2]) Pw (by rw [hPw]; exact ⟨_, _, rfl, Same.refl _, bo8.congr fun q => by rw [hSj]; simp⟩) (fun j σ H' _ pw => by rw [hPw] at pw; obtain ⟨_, _, _, sw, _⟩ := pw; exact SqT.of (sw _ _ htt)) (fun j v σ H9 gv pw => ?_) (fun σ H9 pw => ?_)⟩
      · rw [hPw] at pw
        obtain ⟨bw, v8', rfl, s89, bow⟩ := pw
        have nxt : ∀ (bw : V) (v8 : Option V) H', Same H9 H' → BestOf H' (Sj (j + 1)) bw → Pw (j + 1) [some (.ref p), some (.ref a), some (.ref b), some .non, some bw, some (.int d.1), some (.int d.2), some (.ref o), v8] H' := fun bw v8 H' h1 h2 => by
          rw [hPw]
          exact ⟨bw, v8, rfl, s89.trans h1, h2⟩
        obtain ⟨x, y, hv, hs⟩ : ∃ x y, ((∃ q t, v = V.ref t ∧ H9 t = some (.tup (q.map V.int)) ∧ Lst D (hallF r A B d.1 d.2) x y q) ∨ (v = .non ∧ ∀ q, ¬ Pth D (hallF r A B d.1 d.2) x y q)) ∧ ∀ q, (Sj j q ∨ Lst D (hallF r A B d.1 d.2) x y q) ↔ Sj (j + 1) q := by
          match j, gv with
          | 0, gv =>
            cases gv
            exact ⟨d.1, d.2, hv1 H9 s89, fun q => by rw [hSj]; simp⟩
          | 1, gv =>
            cases gv
            exact ⟨d.2, d.1, hv2 H9 s89, fun q => by rw [hSj]; simp⟩
        obtain ⟨b1, b2, b3⟩ := best_add (N := fun q => Lst D (hallF r A B d.1 d.2) x y q) (fun q => Iff.rfl) bow hv
        walk_at "rd"
        rcases hv with ⟨q, t, rfl, ht, hl⟩ | ⟨rfl, no⟩
        rotate_left
        · rw [if_neg (show ¬ (!decide (V.non = V.non)) = true by simp), if_neg (show ¬ False from id)]
          exact nxt bw _ _ (Same.refl _) ((b1 rfl).congr hs)
        rw [if_pos (show (!decide (V.ref t = V.non)) = true by simp)]
        rcases bow with ⟨qb, tb, rfl, htb, sb, mb⟩ | ⟨rfl, nob⟩
        rotate_left
        · rw [if_pos (show V.non = V.non from rfl), if_pos trivial]
          exact nxt _ _ _ (Same.refl _) ((b2 (fun z => by cases z) rfl).congr hs)
        rw [if_neg (show ¬ V.ref tb = V.non from fun z => by cases z)]
        obtain ⟨c1, c2⟩ := b3 q t qb tb rfl ht hl rfl htb sb mb
        refine ⟨t, rfl, _, .inr (SqT.of ht), by decide, fun u1 nu1 => ?_⟩
        have t1 := same_upd (o := HO.tup [V.int ((q.map V.int).length : Nat), V.ref t]) nu1
        refine ⟨tb, rfl, _, .inr (SqT.of (t1 _ _ htb)), by decide, fun u2 nu2 => ?_⟩
        have t2 := same_upd (o := HO.tup [V.int ((qb.map V.int).length : Nat), V.ref tb]) nu2
        have t12 := t1.trans t2
        have hu1 := t2 _ _ (upd_same (H := H9) (a := u1) (o := HO.tup [V.int ((q.map V.int).length : Nat), V.ref t]))
        have hu2 := upd_same (H := upd H9 u1 (HO.tup [V.int ((q.map V.int).length : Nat), V.ref t])) (a := u2) (o := HO.tup [V.int ((qb.map V.int).length : Nat), V.ref tb])
        generalize upd (upd H9 u1 (HO.tup [V.int ((q.map V.int).length : Nat), V.ref t])) u2 (HO.tup [V.int ((qb.map V.int).length : Nat), V.ref tb]) = Hz at t12 hu1 hu2 ⊢
        rw [List.length_map] at hu1 hu2
        refine ⟨lenD q, lenD qb, dp_len hu1 (t12 _ _ ht), dp_len hu2 (t12 _ _ htb), alike_len _ _, (fun z => by unfold lenD at z; cases z), dep_len _, _, rfl, ?_⟩
        by_cases lt : slt q qb
        · rw [(dataLt_len q qb).mpr lt, if_pos rfl]
          exact nxt _ _ _ t12 (((c1 lt).congr hs).same t12)
        · have e : PySem.W.dataLt (lenD q) (lenD qb) = false := by
            cases h : PySem.W.dataLt (lenD q) (lenD qb) with
            | false => rfl
            | true => exact absurd ((dataLt_len q qb).mp h) lt
          rw [e, if_neg (by decide)]
          exact nxt _ _ _ t12 (((c2 lt).congr hs).same t12)
      · rw [hPw] at pw
        obtain ⟨bw, v8', rfl, s89, bow⟩ := pw
        show Pv (i + 1) _ _
        rw [hPv]
        refine ⟨bw, _, _, _, _, rfl, sm.trans (s38.trans s89), bow.congr fun q => ?_⟩
        rw [List.take_add_one, gd, hSj]
        simp [Cnd, or_assoc]
    · rw [hPv] at pv
      obtain ⟨bv, v5, v6, v7, v8, rfl, sm, bo⟩ := pv
      rw [zl, List.take_length] at bo
      walk_at "rd"
      exact hS bv H3 up memr (s12.trans sm) bo
end

/-! ### what many laws need: the same data, a house made -/
theorem same_ok {n : Nat} {H : Hp} {x y : V} {Q : VK} {E : XK} (h : Sm H n x y) (q : Q (.bl true) H) : spSame n [x, y] H Q E := ⟨x, y, rfl, h, q⟩
theorem paired_flat {H : Hp} {n : Nat} {us : List V} (h : ∀ x ∈ us, flat4 x = true) : Paired (Sm H n) us us := by
  induction us with
  | nil => exact Paired.nil
  | cons a l ih => exact Paired.cons (Sm.flat (h a List.mem_cons_self)) (ih fun x hx => h x (List.mem_cons_of_mem _ hx))
theorem sm_flats {H : Hp} {x y : Addr} {us : List V} (hx : H x = some (.lst us)) (hy : H y = some (.lst us)) (h : ∀ x ∈ us, flat4 x = true) (hl : us.length ≤ 100000) (n : Nat) : Sm H (n + 1) (.ref x) (.ref y) :=
  .inr ⟨x, y, _, _, rfl, rfl, .inl ⟨hx, hy⟩, paired_flat h, hl⟩
theorem sm_flatsT {H : Hp} {x y : Addr} {us : List V} (hx : H x = some (.tup us)) (hy : H y = some (.tup us)) (h : ∀ x ∈ us, flat4 x = true) (hl : us.length ≤ 100000) (n : Nat) : Sm H (n + 1) (.ref x) (.ref y) :=
  .inr ⟨x, y, _, _, rfl, rfl, .inr ⟨hx, hy⟩, paired_flat h, hl⟩
theorem flat_intsV (l : List Int) : ∀ x ∈ l.map V.int, flat4 x = true := fun x hx => by
  obtain ⟨i, _, rfl⟩ := List.mem_map.mp hx
  rfl
theorem sm_call {H : Hp} {u v : V} {d : Cl} (hu : IsC H u d) (hv : IsC H v d) (n : Nat) : Sm H (n + 1) u v := by
  obtain ⟨t, rfl, e1⟩ := hu
  obtain ⟨t', rfl, e2⟩ := hv
  exact .inr ⟨t, t', _, _, rfl, rfl, .inr ⟨e1, e2⟩, Paired.cons (Sm.flat rfl) (Paired.cons (Sm.flat rfl) Paired.nil), by show 2 ≤ 100000; decide⟩
theorem sm_logs {H : Hp} {x y : Addr} {us vs : List V} {D : List Cl} (hx : H x = some (.lst us)) (hy : H y = some (.lst vs)) (pu : LG H us D) (pv : LG H vs D) (hl : D.length ≤ 100000) (n : Nat) : Sm H (n + 2) (.ref x) (.ref y) := by
  refine .inr ⟨x, y, _, _, rfl, rfl, .inl ⟨hx, hy⟩, ?_, by rw [pu.len]; exact hl⟩
  clear hx hy hl
  induction pu generalizing vs with
  | nil => cases pv; exact Paired.nil
  | cons r _ ih => cases pv with | cons r2 t2 => exact Paired.cons (sm_call r r2 n) (ih t2)
theorem sm_pair {H : Hp} {u v : V} {d : Pr} (hu : IsP H u d) (hv : IsP H v d) (n : Nat) : Sm H (n + 1) u v := by
  obtain ⟨t, rfl, e1⟩ := hu
  obtain ⟨t', rfl, e2⟩ := hv
  exact .inr ⟨t, t', _, _, rfl, rfl, .inr ⟨e1, e2⟩, Paired.cons (Sm.flat rfl) (Paired.cons (Sm.flat rfl) Paired.nil), by show 2 ≤ 100000; decide⟩
theorem sm_pairs {H : Hp} {x y : Addr} {us vs : List V} {D : List Pr} (hx : H x = some (.lst us)) (hy : H y = some (.lst vs)) (pu : PL H us D) (pv : PL H vs D) (hl : us.length ≤ 100000) (n : Nat) : Sm H (n + 2) (.ref x) (.ref y) := by
  refine .inr ⟨x, y, _, _, rfl, rfl, .inl ⟨hx, hy⟩, ?_, hl⟩
  clear hx hy hl
  induction pu generalizing vs with
  | nil => cases pv; exact Paired.nil
  | cons r _ ih => cases pv with | cons r2 t2 => exact Paired.cons (sm_pair r r2 n) (ih t2)
theorem mm2_same {r : Nat} {D : List Pr} (h : Drs r D) : D.map mm2 = D := by
  refine (List.map_congr_left fun d hd => ?_).trans (List.map_id _)
  have := (h.ok d hd).2.1
  unfold mm2
  rw [if_neg (by omega), if_pos (by omega)]
  rfl
theorem use_init {C x dx l : Addr} {r : Nat} {us : List V} {D G : List Pr} {H : Hp} {Q : VK} {E : XK} (nx : H x = none) (ndx : H dx = none) (hl : H l = some (.lst us)) (pl : PL H us D) (pm : (D.map mm2).Perm G) (drs : Drs r G) (r1 : 1 ≤ r) (r12 : r ≤ 12)
    (q : ∀ own H2, HouseAt C H2 x r G own → Same H H2 → (∀ b ∈ own, H b = none) → Q .non H2) : spHinit C [.ref x, .int r, .ref l] (upd (upd H dx (.own x)) x (.ins C dx [])) Q E := by
  have s0 : Same H (upd (upd H dx (.own x)) x (.ins C dx [])) := fun b o e => by
    rw [upd_ne (ne_of_none e nx), upd_ne (ne_of_none e ndx)]
    exact e
  refine ⟨x, dx, l, r, us, D, D.map mm2, rfl, upd_same, s0 _ _ hl, pl.kt (KT.same s0), rfl, pm.nodup_iff.mpr drs.asc.nodup, fun d hd => drs.ok d (pm.mem_iff.mp hd), r1, r12, fun D' own H' mem hh keep free => ?_⟩
  have e : D' = G := asc_uniq hh.ok.asc drs.asc fun d => (mem d).trans pm.mem_iff
  subst e
  refine q own H' hh (fun b o e => keep b o (s0 b o e) (ne_of_none e nx)) fun b hb => ?_
  by_cases e : b = x
  · rw [e]
    exact nx
  · exact s0.free (free b hb e)
/-- a method of the class at C that keeps a promise -/
structure Md (P : Program) (w : World) (K : PySem.W.Frag) (mg : Str → Option Value) (base : Heap) (C : Addr) (x : Str) (ps : List Str) (k : Nat) (sp : Sp) (f : Addr) (fd : FuncData) : Prop where
  m : Meth K C x f
  b : Binds K fd ps []
  ok : FnOk P w K mg base CX0 k f fd ps sp
theorem atI_neg {xs : List V} {j : Nat} {v : V} {z : Int} (e : z = -(1 + (j : Int))) (hj : j < xs.length) (g : xs[xs.length - 1 - j]? = some v) : atI xs z = some v := by
  unfold atI
  have e2 : ixN xs.length z = some (xs.length - 1 - j) := by
    unfold ixN
    rw [if_neg (by omega), if_pos (by omega)]
    congr 1
    omega
  rw [e2]
  exact g
theorem paired_append {α β : Type} {F : α → β → Prop} {a c : List α} {b d : List β} (h : Paired F a b) (k : Paired F c d) : Paired F (a ++ c) (b ++ d) := by
  induction h with
  | nil => exact k
  | cons r _ ih => exact Paired.cons r ih

abbrev sLwd : Stmt := topS 44
abbrev sLws : Stmt := topS 45
abbrev sLlg : Stmt := topS 50
section
variable {P : Program} {w : World} {K : PySem.W.Frag} {mg : Str → Option Value} {base : Heap}
theorem scLwd : FnScope ["a", "b", "letters", "word", "k"] ["a", "b"] (defScope sLwd) := ⟨rfl, rfl, rfl, by decide +kernel, rfl, by decide +kernel, by decide +kernel⟩
def spLwd : Sp := fun vs H Q _ => ∃ (x y : Int), vs = [.int x, .int y] ∧ ∀ z : Str, wk 8 z → 1 ≤ z.length → Q (.str z) H
theorem ok_lwd {f : Addr} {fd : FuncData} (F : Fun K "_law_word" "_law_word" sLwd f fd) (T : Bi mg) : FnOk P w K mg base CX0 1 f fd ["a", "b"] spLwd := by
  refine F.ok scLwd (fun vs H Q E h => ?_) (fun cdv A outer s H vs Q E hr h => ?_)
  · obtain ⟨x, y, rfl, _⟩ := h
    rfl
  · obtain ⟨x, y, rfl, q⟩ := h
    refine ⟨_, (pss_cons (ps_set (i := 2) scLwd.nd rfl (Or.inl rfl) pe_str)
      (pss_cons (ps_set (i := 3) scLwd.nd rfl (Or.inl rfl) pe_str)
      (pss_cons (ps_for PassesOwn.never rfl (pi_range1 (by rfl) T.range (pa_cons (pe_op op_add pe_int (pe_op op_mod (pe_callTy cr_intI (by rfl) T.int (by decide +kernel) (pa_cons (pv 0) pa_nil)) pe_int)) pa_nil)) (pg_name (i := 4) scLwd.nd rfl (Or.inl rfl))
      (pss_one (ps_set (i := 3) scLwd.nd rfl (Or.inl rfl) (pe_op op_add_str (pv 3) (pe_ix ix_str (pv 2) (pe_op op_mod (pe_callTy cr_intI (by rfl) T.int (by decide +kernel) (pa_cons (pe_op op_add (pv 1) (pe_op op_mul (pv 4) (pe_op op_fdiv (pv 0) pe_int))) pa_nil)) pe_int) (fun _ _ => rfl))))))
      (pss_one (ps_ret (pv 3)))))), ?_⟩
    walk_at "rd"
    have m0 := Int.emod_nonneg x (show (8 : Int) ≠ 0 by decide)
    have m1 := Int.emod_lt_of_pos x (show (0 : Int) < 8 by decide)
    obtain ⟨Pv, hPv⟩ : ∃ Pv : Nat → L2.St → Hp → Prop, Pv = (fun i σ H' => ∃ (z : Str) (v4 : Option V), σ = [some (.int x), some (.int y), some (.str (Str.ofString "abcdefghijklmnopqrstuvwxyz")), some (.str z), v4] ∧ H' = H ∧ z.length = i ∧ PyData.strOk z = true) := ⟨_, rfl⟩
    refine for_iterW ?_
    walk_at "rd"
    refine ⟨by decide, by omega, by omega, for_range (lo := 0) (n := (1 + x % 8).toNat) Pv (by rw [hPv]; exact ⟨_, none, rfl, rfl, by decide +kernel, by decide +kernel⟩) (fun i σ H' hi pv => ?_) (fun σ H' pv => ?_)⟩
    · have nxt : ∀ z v4, z.length = i + 1 → PyData.strOk z = true → Pv (i + 1) [some (.int x), some (.int y), some (.str (Str.ofString "abcdefghijklmnopqrstuvwxyz")), some (.str z), v4] H := fun z v4 h h2 => by
        rw [hPv]
        exact ⟨z, v4, rfl, rfl, h, h2⟩
      rw [hPv] at pv
      obtain ⟨z, v4, rfl, rfl, lz, oz⟩ := pv
      have k0 := Int.emod_nonneg (y + (0 + (i : Int)) * (x / 8)) (show (26 : Int) ≠ 0 by decide)
      have k1 := Int.emod_lt_of_pos (y + (0 + (i : Int)) * (x / 8)) (show (0 : Int) < 26 by decide)
      obtain ⟨j, ej⟩ : ∃ j : Nat, (y + (0 + (i : Int)) * (x / 8)) % 26 = j := ⟨((y + (0 + (i : Int)) * (x / 8)) % 26).toNat, by omega⟩
      obtain ⟨c, gc, c11⟩ := letters_at (j := j) (by omega)
      walk_at "rd"
      rw [ej]
      refine ⟨⟨by decide, by decide⟩, .inl (by constructor <;> omega), by decide, by decide +kernel, c, gc, ?_, nxt _ _ ?_ (strOk_app oz (strOk_one c11))⟩
      · have e1 : (Str.mk #[c]).length = 1 := rfl
        rw [e1]
        exact Nat.le_of_lt (len_big (by omega))
      · rw [Str.length_append, lz]
        rfl
    · rw [hPv] at pv
      obtain ⟨z, v4, rfl, rfl, lz, oz⟩ := pv
      walk_at "rd"
      exact q z ⟨by omega, oz⟩ (by omega)
theorem scLws : FnScope ["numbers", "at", "many", "k", "words", "place", "letter"] ["numbers", "at", "many"] (defScope sLws) := ⟨rfl, rfl, rfl, by decide +kernel, rfl, by decide +kernel, by decide +kernel⟩
/-- n words -/
def Words (n : Nat) (Z : List Str) : Prop := Z.length = n ∧ ∀ z ∈ Z, wk 17 z
def spLws (K : PySem.W.Frag) : Sp := fun vs H Q _ => ∃ (a : Addr) (ns : List Int) (at_ m : Nat), vs = [.ref a, .int at_, .int m] ∧ SqL K H a (ns.map V.int) ∧ at_ + 2 * m ≤ ns.length ∧ 1 ≤ m ∧ m ≤ 100 ∧ ∀ Z p H', Words m Z → Same H H' → H p = none → H' p = some (.lst (Z.map V.str)) → Q (.ref p) H'
theorem ok_lws {f fS : Addr} {fd fdS : FuncData} (F : Fun K "_law_words" "_law_words" sLws f fd) (T : Bi mg) (d__law_word : Df P w K mg base "_law_word" ["a", "b"] 1 spLwd fS fdS) : FnOk P w K mg base CX0 2 f fd ["numbers", "at", "many"] (spLws K) := by
  refine F.ok scLws (fun vs H Q E h => ?_) (fun cdv A outer s H vs Q E hr h => ?_)
  · obtain ⟨a, ns, at_, m, rfl, _⟩ := h
    rfl
  · obtain ⟨a, ns, at_, m, rfl, hS, hn, m1, m100, q⟩ := h
    refine ⟨_, (pss_cons (ps_setLc (i := 4) (own := [("k", 3)]) (te := tCall spLwd [] E0 (tCons (tOp (rIxL K) (tVar 0) (tOp (rI0 fun i j => V.int (i + j)) (tVar 1) (tOp (rI CMul fun i j => V.int (i * j)) (tC (V.int 2)) (tVar 3)))) (tCons (tOp (rIxL K) (tVar 0) (tOp (rI0 fun i j => V.int (i + j)) (tOp (rI0 fun i j => V.int (i + j)) (tVar 1) (tOp (rI CMul fun i j => V.int (i * j)) (tC (V.int 2)) (tVar 3))) (tC (V.int 1)))) tNil))) (by rfl) scLws.nd rfl rfl (sw_true rfl rfl rfl (by decide +kernel)) (pi_range1 (by rfl) T.range (pa_cons (pv 2) pa_nil)) (blkOk_by (N := ["numbers", "at", "many", "k", "words", "place", "letter"]) (sc := defScope sLws) (by decide +kernel)) (fun _ _ _ _ _ => pg_name (i := 3) scLws.nd rfl (Or.inl rfl)) (fun _ _ _ _ _ => pts_nil) (fun _ _ _ _ _ => (pe_call d__law_word.ok (hr.mono (by decide)) (by rfl) d__law_word.at_ d__law_word.kp d__law_word.b .nil pass0 (pa_cons (pe_ix ix_list (pv 0) (pe_op op_add (pv 1) (pe_op op_mul pe_int (pv 3))) (fun _ _ => rfl)) (pa_cons (pe_ix ix_list (pv 0) (pe_op op_add (pe_op op_add (pv 1) (pe_op op_mul pe_int (pv 3))) pe_int) (fun _ _ => rfl)) pa_nil)))))
      (pss_cons (ps_if (pt_cmpR op_eqI (pe_op op_mod (pe_op op_fdiv (pe_callTy cr_intI (by rfl) T.int (by decide +kernel) (pa_cons (pe_ix ix_list (pv 0) (pv 1) (fun _ _ => rfl)) pa_nil)) pe_int) pe_int) pe_int (nomark _))
      (pss_one (ps_for PassesOwn.never rfl (pi_range2 (by rfl) T.range (pa_cons pe_int (pa_cons (pv 2) pa_nil))) (pg_name (i := 3) scLws.nd rfl (Or.inl rfl))
        (pss_cons (ps_set (i := 5) scLws.nd rfl (Or.inl rfl) (pe_op op_mod (pe_callTy cr_intI (by rfl) T.int (by decide +kernel) (pa_cons (pe_ix ix_list (pv 0) (pe_op op_add (pv 1) (pe_op op_mul pe_int (pv 3))) (fun _ _ => rfl)) pa_nil)) (pe_callB call_len_str (by rfl) T.len (by decide +kernel) (pa_cons (pe_ix ix_list (pv 4) pe_int (fun _ _ => rfl)) pa_nil))))
          (pss_cons (ps_set (i := 6) scLws.nd rfl (Or.inl rfl) (pe_ix ix_str pe_str (pe_op op_mod (pe_callTy cr_intI (by rfl) T.int (by decide +kernel) (pa_cons (pe_ix ix_list (pv 0) (pe_op op_add (pe_op op_add (pv 1) (pe_op op_mul pe_int (pv 3))) pe_int) (fun _ _ => rfl)) pa_nil)) pe_int) (fun _ _ => rfl)))
          (pss_one (ps_asg (pe_op op_add_str (pe_op op_add_str (pe_slice sl_str (pe_ix ix_list (pv 4) pe_int (fun _ _ => rfl)) po_none (po_some (pv 5))) (pv 6)) (pe_slice sl_str (pe_ix ix_list (pv 4) pe_int (fun _ _ => rfl)) (po_some (pe_op op_add (pv 5) pe_int)) po_none)) (pg_sub (pv 4) (pv 3) set_list)))))))
      pss_nil)
      (pss_one (ps_ret (pv 4))))), ?_⟩
    walk_at "rd"
    have gn : ∀ (j : Nat), j < ns.length → ∃ x, (ns.map V.int)[j]? = some (.int x) := fun j hj => ⟨ns[j], by rw [List.getElem?_map, List.getElem?_eq_getElem hj]; rfl⟩
    refine ⟨_, rfl, m, rfl, by omega, by omega, fun p np => ?_⟩
    obtain ⟨Pw, hPw⟩ : ∃ Pw : Nat → Hp → Prop, Pw = (fun i Hx => ∃ Z : List Str, Same H Hx ∧ Hx p = some (.lst (Z.map V.str)) ∧ Z.length = i ∧ ∀ z ∈ Z, wk 8 z ∧ 1 ≤ z.length) := ⟨_, rfl⟩
    refine lc_range (lo := 0) (n := ((m : Nat) : Int).toNat) Pw (by rw [hPw]; exact ⟨[], same_upd np, upd_same, rfl, fun z hz => by cases hz⟩) (fun i Hx hi pv => ?_) (fun H1 pv => ?_)
    · rw [hPw] at pv
      obtain ⟨Z, sx, hp, lz, wz⟩ := pv
      obtain ⟨x0, g0⟩ := gn (at_ + 2 * i) (by omega)
      obtain ⟨x1, g1⟩ := gn (at_ + 2 * i + 1) (by omega)
      have hS' := sx.seq hS
      simp only [wipe]
      walk_at "rd"
      refine ⟨.inl (by decide), _, hS', _, at_of (j := at_ + 2 * i) (by omega) g0, .inl (by decide), _, hS', _, at_of (j := at_ + 2 * i + 1) (by omega) g1, x0, x1, rfl, fun z kz lz1 => ?_⟩
      refine ⟨_, hp, len_big (by rw [List.length_map]; omega), ?_⟩
      rw [hPw]
      refine ⟨Z ++ [z], same_ch sx np, by rw [upd_same, List.map_append]; rfl, by rw [List.length_append, lz]; rfl, fun y hy => ?_⟩
      rcases List.mem_append.mp hy with h | h
      · exact wz y h
      · rw [List.mem_singleton.mp h]
        exact ⟨kz, lz1⟩
    rw [hPw] at pv
    obtain ⟨Z, s1, hp, lz, wz⟩ := pv
    clear hPw Pw
    have lz : Z.length = m := by omega
    obtain ⟨xa, ga⟩ := gn at_ (by omega)
    refine ⟨_, s1.seq hS, _, at_of (j := at_) rfl ga, xa, rfl, ⟨by decide, by decide⟩, by decide, ?_⟩
    refine ite2 (fun _ => ?_) (fun _ => q Z p H1 ⟨lz, fun z hz => (wz z hz).1.mono (by decide)⟩ s1 np hp)
    obtain ⟨z0, gz0⟩ : ∃ z0, Z[0]? = some z0 := ⟨_, List.getElem?_eq_getElem (by omega)⟩
    have w0 := wz z0 (List.mem_of_getElem? gz0)
    obtain ⟨Pv, hPv⟩ : ∃ Pv : Nat → L2.St → Hp → Prop, Pv = (fun i σ Hx => ∃ (Y : List Str) (v3 v5 v6 : Option V), σ = [some (.ref a), some (.int at_), some (.int m), v3, some (.ref p), v5, v6] ∧ Same H Hx ∧ Hx p = some (.lst (Y.map V.str)) ∧ Y.length = m ∧ (∀ z ∈ Y, wk 17 z) ∧ Y[0]? = some z0) := ⟨_, rfl⟩
    refine for_iterW ?_
    walk_at "rd"
    refine ⟨by omega, by omega, by omega, by omega, for_range (lo := 1) (n := ((m : Int) - 1).toNat) Pv (by rw [hPv]; exact ⟨Z, none, none, none, rfl, s1, hp, lz, fun z hz => (wz z hz).1.mono (by decide), gz0⟩) (fun i σ Hx hi pv => ?_) (fun σ Hx pv => ?_)⟩
    rotate_left
    · rw [hPv] at pv
      obtain ⟨Y, v3, v5, v6, rfl, sm, hp, ly, wy, _⟩ := pv
      walk_at "rd"
      exact q Y p Hx ⟨ly, wy⟩ sm np hp
    have nxt : ∀ (Y : List Str) (v3 v5 v6 : Option V) (Hx : Hp), Same H Hx → Hx p = some (.lst (Y.map V.str)) → Y.length = m → (∀ z ∈ Y, wk 17 z) → Y[0]? = some z0 → Pv (i + 1) [some (.ref a), some (.int at_), some (.int m), v3, some (.ref p), v5, v6] Hx := fun Y v3 v5 v6 Hx h1 h2 h3 h4 h5 => by
      rw [hPv]
      exact ⟨Y, v3, v5, v6, rfl, h1, h2, h3, h4, h5⟩
    rw [hPv] at pv
    obtain ⟨Y, v3, v5, v6, rfl, sm, hp, ly, wy, gy0⟩ := pv
    have hS' := sm.seq hS
    have gy2 : (Y.map V.str)[0]? = some (.str z0) := by rw [List.getElem?_map, gy0]; rfl
    obtain ⟨x0, g0⟩ := gn (at_ + 2 * (1 + i)) (by omega)
    obtain ⟨x1, g1⟩ := gn (at_ + 2 * (1 + i) + 1) (by omega)
    have k0 := Int.emod_nonneg x1 (show (26 : Int) ≠ 0 by decide)
    have k1 := Int.emod_lt_of_pos x1 (show (0 : Int) < 26 by decide)
    obtain ⟨j, ej⟩ : ∃ j : Nat, x1 % 26 = j := ⟨(x1 % 26).toNat, by omega⟩
    obtain ⟨c, gc, c11⟩ := letters_at (j := j) (by omega)
    have big0 : z0.length ≤ sizeLine := Nat.le_of_lt (len_big (by have := w0.1.1; omega))
    have e1 : (Str.mk #[c]).length = 1 := rfl
    walk_at "rd"
    refine ⟨.inl (by decide), _, hS', _, at_of (j := at_ + 2 * (1 + i)) (by omega) g0, x0, rfl, _, SqL.of hp, _, at_of (j := 0) rfl gy2, z0, rfl, big0, by have := w0.2; omega, .inl (by decide), _, hS', _, at_of (j := at_ + 2 * (1 + i) + 1) (by omega) g1, x1, rfl, by decide, by decide +kernel, c, by rw [ej]; exact gc, _, SqL.of hp, _, at_of (j := 0) rfl gy2, ?_⟩
    generalize x0 % (z0.length : Int) = pl
    have c1 := wk_cut w0.1 none (some pl)
    have c2 := wk_cut w0.1 (some (pl + 1)) none
    have wc : wk 1 (Str.mk #[c]) := ⟨Nat.le_of_eq e1, strOk_one c11⟩
    have w9 : wk 9 (cutS z0 none (some pl) ++ Str.mk #[c]) := wk_app c1 wc (by decide)
    have w17 : wk 17 (cutS z0 none (some pl) ++ Str.mk #[c] ++ cutS z0 (some (pl + 1)) none) := wk_app w9 c2 (by decide)
    refine ⟨z0, rfl, big0, _, rfl, Nat.le_of_lt (len_big (by rw [e1]; have := c1.1; omega)), _, SqL.of hp, _, at_of (j := 0) rfl gy2, ?_⟩
    refine ⟨z0, rfl, big0, _, rfl, Nat.le_of_lt (len_big (by have := w9.1; have := c2.1; omega)), ?_⟩
    refine ⟨_, hp, 1 + i, ixn (by omega) (by rw [List.length_map]; omega), ?_⟩
    rw [set_map]
    refine nxt _ _ _ _ _ (same_ch sm np) upd_same (by rw [List.length_set]; exact ly) (fun z hz => ?_) (by rw [List.getElem?_set_ne (by omega)]; exact gy0)
    rcases List.mem_or_eq_of_mem_set hz with h | h
    · exact wy z h
    · rw [h]
      exact w17
theorem scLlg : FnScope ["numbers", "at", "many", "rooms", "words", "log", "k", "room"] ["numbers", "at", "many", "rooms", "words"] (defScope sLlg) := ⟨rfl, rfl, rfl, by decide +kernel, rfl, by decide +kernel, by decide +kernel⟩
def spLlg (K : PySem.W.Frag) : Sp := fun vs H Q _ => ∃ (a b : Addr) (ns : List Int) (at_ m r : Nat) (Z : List Str), vs = [.ref a, .int at_, .int m, .int r, .ref b] ∧ SqL K H a (ns.map V.int) ∧ at_ + 2 * m ≤ ns.length ∧ m ≤ 1000 ∧ 1 ≤ r ∧ H b = some (.lst (Z.map V.str)) ∧ 1 ≤ Z.length ∧ (∀ z ∈ Z, wk 17 z) ∧
  ∀ L ws p H', L.length = m → InR r L → (∀ c ∈ L, wk 17 c.2) → Same H H' → H p = none → H' p = some (.lst ws) → LG H' ws L → Q (.ref p) H'
theorem ok_llg {f : Addr} {fd : FuncData} (F : Fun K "_law_log" "_law_log" sLlg f fd) (T : Bi mg) : FnOk P w K mg base CX0 1 f fd ["numbers", "at", "many", "rooms", "words"] (spLlg K) := by
  refine F.ok scLlg (fun vs H Q E h => ?_) (fun cdv A outer s H vs Q E hr h => ?_)
  · obtain ⟨a, b, ns, at_, m, r, Z, rfl, _⟩ := h
    rfl
  · obtain ⟨a, b, ns, at_, m, r, Z, rfl, hS, hn, hm, r1, hb, z1, zw, q⟩ := h
    refine ⟨_, (pss_cons (ps_set (i := 5) scLlg.nd rfl (Or.inl rfl) (pe_lst pa_nil))
      (pss_cons (ps_for PassesOwn.never rfl (pi_range1 (by rfl) T.range (pa_cons (pv 2) pa_nil)) (pg_name (i := 6) scLlg.nd rfl (Or.inl rfl))
      (pss_cons (ps_set (i := 7) scLlg.nd rfl (Or.inl rfl) (pe_op op_mod (pe_callTy cr_intI (by rfl) T.int (by decide +kernel) (pa_cons (pe_ix ix_list (pv 0) (pe_op op_add (pv 1) (pe_op op_mul pe_int (pv 6))) (fun _ _ => rfl)) pa_nil)) (pv 3)))
        (pss_one (ps_expr (pe_bm PySem.F.plainAttrs_list PySem.F.slot_list_append PySem.F.type_list_append mt_append (pv 5) (pa_cons (pe_tup (pa_cons (pv 7) (pa_cons (pe_ix ix_list (pv 4) (pe_op op_mod (pe_callTy cr_intI (by rfl) T.int (by decide +kernel) (pa_cons (pe_ix ix_list (pv 0) (pe_op op_add (pe_op op_add (pv 1) (pe_op op_mul pe_int (pv 6))) pe_int) (fun _ _ => rfl)) pa_nil)) (pe_callB call_len_seq (by rfl) T.len (by decide +kernel) (pa_cons (pv 4) pa_nil))) (fun _ _ => rfl)) pa_nil))) pa_nil))))))
      (pss_one (ps_ret (pv 5))))), ?_⟩
    walk_at "rd"
    have gn : ∀ (j : Nat), j < ns.length → ∃ x, (ns.map V.int)[j]? = some (.int x) := fun j hj => ⟨ns[j], by rw [List.getElem?_map, List.getElem?_eq_getElem hj]; rfl⟩
    refine ⟨by decide, fun p np => ?_⟩
    refine for_iterW ?_
    walk_at "rd"
    obtain ⟨Pv, hPv⟩ : ∃ Pv : Nat → L2.St → Hp → Prop, Pv = (fun i σ H' => ∃ (ws : List V) (L : List Cl) (v5 v6 : Option V), σ = [some (.ref a), some (.int at_), some (.int m), some (.int r), some (.ref b), some (.ref p), v5, v6] ∧ Same H H' ∧ H' p = some (.lst ws) ∧ LG H' ws L ∧ L.length = i ∧ InR r L ∧ ∀ c ∈ L, wk 17 c.2) := ⟨_, rfl⟩
    refine ⟨by omega, by omega, for_range (lo := 0) (n := (m : Int).toNat) Pv (by rw [hPv]; exact ⟨[], [], none, none, rfl, same_upd np, upd_same, LG.nil0 _, rfl, (fun c hc => by cases hc), fun c hc => by cases hc⟩) (fun i σ H' hi pv => ?_) (fun σ H' pv => ?_)⟩
    rotate_left
    · rw [hPv] at pv
      obtain ⟨ws, L, v5, v6, rfl, sm, hp, lw, lL, inr, wks⟩ := pv
      walk_at "rd"
      exact q L ws p H' (by omega) inr wks sm np hp lw
    rw [hPv] at pv
    obtain ⟨ws, L, v5, v6, rfl, sm, hp, lw, lL, inr, wks⟩ := pv
    have hS' := sm.seq hS
    have hb' := sm _ _ hb
    obtain ⟨x0, g0⟩ := gn (at_ + 2 * i) (by omega)
    obtain ⟨x1, g1⟩ := gn (at_ + 2 * i + 1) (by omega)
    have r0 := Int.emod_nonneg x0 (show (r : Int) ≠ 0 by omega)
    have r2 := Int.emod_lt_of_pos x0 (show (0 : Int) < r by omega)
    have p0 := Int.emod_nonneg x1 (show (Z.length : Int) ≠ 0 by omega)
    have p1 := Int.emod_lt_of_pos x1 (show (0 : Int) < (Z.length : Int) by omega)
    obtain ⟨j, ej⟩ : ∃ j : Nat, x1 % (Z.length : Int) = j := ⟨(x1 % (Z.length : Int)).toNat, by omega⟩
    obtain ⟨z, gz, zk⟩ : ∃ z, (Z.map V.str)[j]? = some (.str z) ∧ wk 17 z := ⟨Z[j]'(by omega), by rw [List.getElem?_map, List.getElem?_eq_getElem (by omega)]; rfl, zw _ (List.getElem_mem _)⟩
    have wl : ws.length ≤ 1000 := by rw [lw.len]; omega
    walk_at "rd"
    refine ⟨.inl (by decide), _, hS', _, at_of (j := at_ + 2 * i) (by omega) g0, x0, rfl, by omega, .inl ⟨rfl, _, SqL.of hp⟩, .inl (by decide), _, hS', _, at_of (j := at_ + 2 * i + 1) (by omega) g1, x1, rfl, _, .inl (SqL.of hb'), by rw [List.length_map]; omega, _, SqL.of hb', .str z, by rw [List.length_map, ej]; exact atI_nat gz, by decide, fun t nt => ?_⟩
    have st := same_upd (o := HO.tup [V.int (x0 % (r : Int)), V.str z]) nt
    have ht := upd_same (H := H') (a := t) (o := HO.tup [V.int (x0 % (r : Int)), V.str z])
    generalize upd H' t (HO.tup [V.int (x0 % (r : Int)), V.str z]) = H2 at st ht ⊢
    have hp2 := st _ _ hp
    have kt : KT H2 (upd H2 p (HO.lst (ws ++ [V.ref t]))) := KT.lst hp2
    refine ⟨ws, hp2, len_big (by omega), ?_⟩
    rw [hPv]
    refine ⟨ws ++ [.ref t], L ++ [(x0 % (r : Int), z)], _, _, rfl, same_ch (sm.trans st) np, upd_same, LG.snoc ((lw.kt (KT.same st)).kt kt) ⟨t, rfl, kt _ _ ht⟩, by rw [List.length_append, lL]; rfl, fun c hc => ?_, fun c hc => ?_⟩
    · rcases List.mem_append.mp hc with h | h
      · exact inr c h
      · rw [List.mem_singleton.mp h]
        exact ⟨r0, r2⟩
    · rcases List.mem_append.mp hc with h | h
      · exact wks c h
      · rw [List.mem_singleton.mp h]
        exact zk
end

/-! ### a block cut into stretches -/
theorem sq1 {a1 b : TS} {D : Ends} {σ : L2.St} {H : Hp} (h : ∀ N : L2.St → Hp → Prop, (∀ σ' H', b D σ' H' → N σ' H') → a1 { D with nx := N } σ H) : (tSeq a1 b) D σ H := h (b D) fun _ _ z => z
theorem sq2 {a1 a2 b : TS} {D : Ends} {σ : L2.St} {H : Hp} (h : ∀ N : L2.St → Hp → Prop, (∀ σ' H', b D σ' H' → N σ' H') → (tSeq a1 a2) { D with nx := N } σ H) : (tSeq a1 (tSeq a2 b)) D σ H := h (b D) fun _ _ z => z
theorem sq3 {a1 a2 a3 b : TS} {D : Ends} {σ : L2.St} {H : Hp} (h : ∀ N : L2.St → Hp → Prop, (∀ σ' H', b D σ' H' → N σ' H') → (tSeq a1 (tSeq a2 a3)) { D with nx := N } σ H) : (tSeq a1 (tSeq a2 (tSeq a3 b))) D σ H := h (b D) fun _ _ z => z
theorem sq4 {a1 a2 a3 a4 b : TS} {D : Ends} {σ : L2.St} {H : Hp} (h : ∀ N : L2.St → Hp → Prop, (∀ σ' H', b D σ' H' → N σ' H') → (tSeq a1 (tSeq a2 (tSeq a3 a4))) { D with nx := N } σ H) : (tSeq a1 (tSeq a2 (tSeq a3 (tSeq a4 b)))) D σ H := h (b D) fun _ _ z => z
theorem sq5 {a1 a2 a3 a4 a5 b : TS} {D : Ends} {σ : L2.St} {H : Hp} (h : ∀ N : L2.St → Hp → Prop, (∀ σ' H', b D σ' H' → N σ' H') → (tSeq a1 (tSeq a2 (tSeq a3 (tSeq a4 a5)))) { D with nx := N } σ H) : (tSeq a1 (tSeq a2 (tSeq a3 (tSeq a4 (tSeq a5 b))))) D σ H := h (b D) fun _ _ z => z
theorem sq6 {a1 a2 a3 a4 a5 a6 b : TS} {D : Ends} {σ : L2.St} {H : Hp} (h : ∀ N : L2.St → Hp → Prop, (∀ σ' H', b D σ' H' → N σ' H') → (tSeq a1 (tSeq a2 (tSeq a3 (tSeq a4 (tSeq a5 a6))))) { D with nx := N } σ H) : (tSeq a1 (tSeq a2 (tSeq a3 (tSeq a4 (tSeq a5 (tSeq a6 b)))))) D σ H := h (b D) fun _ _ z => z
theorem sq7 {a1 a2 a3 a4 a5 a6 a7 b : TS} {D : Ends} {σ : L2.St} {H : Hp} (h : ∀ N : L2.St → Hp → Prop, (∀ σ' H', b D σ' H' → N σ' H') → (tSeq a1 (tSeq a2 (tSeq a3 (tSeq a4 (tSeq a5 (tSeq a6 a7)))))) { D with nx := N } σ H) : (tSeq a1 (tSeq a2 (tSeq a3 (tSeq a4 (tSeq a5 (tSeq a6 (tSeq a7 b))))))) D σ H := h (b D) fun _ _ z => z
theorem sq8 {a1 a2 a3 a4 a5 a6 a7 a8 b : TS} {D : Ends} {σ : L2.St} {H : Hp} (h : ∀ N : L2.St → Hp → Prop, (∀ σ' H', b D σ' H' → N σ' H') → (tSeq a1 (tSeq a2 (tSeq a3 (tSeq a4 (tSeq a5 (tSeq a6 (tSeq a7 a8))))))) { D with nx := N } σ H) : (tSeq a1 (tSeq a2 (tSeq a3 (tSeq a4 (tSeq a5 (tSeq a6 (tSeq a7 (tSeq a8 b)))))))) D σ H := h (b D) fun _ _ z => z
theorem sq9 {a1 a2 a3 a4 a5 a6 a7 a8 a9 b : TS} {D : Ends} {σ : L2.St} {H : Hp} (h : ∀ N : L2.St → Hp → Prop, (∀ σ' H', b D σ' H' → N σ' H') → (tSeq a1 (tSeq a2 (tSeq a3 (tSeq a4 (tSeq a5 (tSeq a6 (tSeq a7 (tSeq a8 a9)))))))) { D with nx := N } σ H) : (tSeq a1 (tSeq a2 (tSeq a3 (tSeq a4 (tSeq a5 (tSeq a6 (tSeq a7 (tSeq a8 (tSeq a9 b))))))))) D σ H := h (b D) fun _ _ z => z
theorem sq10 {a1 a2 a3 a4 a5 a6 a7 a8 a9 a10 b : TS} {D : Ends} {σ : L2.St} {H : Hp} (h : ∀ N : L2.St → Hp → Prop, (∀ σ' H', b D σ' H' → N σ' H') → (tSeq a1 (tSeq a2 (tSeq a3 (tSeq a4 (tSeq a5 (tSeq a6 (tSeq a7 (tSeq a8 (tSeq a9 a10))))))))) { D with nx := N } σ H) : (tSeq a1 (tSeq a2 (tSeq a3 (tSeq a4 (tSeq a5 (tSeq a6 (tSeq a7 (tSeq a8 (tSeq a9 (tSeq a10 b)))))))))) D σ H := h (b D) fun _ _ z => z
theorem sq11 {a1 a2 a3 a4 a5 a6 a7 a8 a9 a10 a11 b : TS} {D : Ends} {σ : L2.St} {H : Hp} (h : ∀ N : L2.St → Hp → Prop, (∀ σ' H', b D σ' H' → N σ' H') → (tSeq a1 (tSeq a2 (tSeq a3 (tSeq a4 (tSeq a5 (tSeq a6 (tSeq a7 (tSeq a8 (tSeq a9 (tSeq a10 a11)))))))))) { D with nx := N } σ H) : (tSeq a1 (tSeq a2 (tSeq a3 (tSeq a4 (tSeq a5 (tSeq a6 (tSeq a7 (tSeq a8 (tSeq a9 (tSeq a10 (tSeq a11 b))))))))))) D σ H := h (b D) fun _ _ z => z
theorem sq12 {a1 a2 a3 a4 a5 a6 a7 a8 a9 a10 a11 a12 b : TS} {D : Ends} {σ : L2.St} {H : Hp} (h : ∀ N : L2.St → Hp → Prop, (∀ σ' H', b D σ' H' → N σ' H') → (tSeq a1 (tSeq a2 (tSeq a3 (tSeq a4 (tSeq a5 (tSeq a6 (tSeq a7 (tSeq a8 (tSeq a9 (tSeq a10 (tSeq a11 a12))))))))))) { D with nx := N } σ H) : (tSeq a1 (tSeq a2 (tSeq a3 (tSeq a4 (tSeq a5 (tSeq a6 (tSeq a7 (tSeq a8 (tSeq a9 (tSeq a10 (tSeq a11 (tSeq a12 b)))))))))))) D σ H := h (b D) fun _ _ z => z
/-- sorted of a list of unlike pairs -/
theorem use_sortedP {K : PySem.W.Frag} {H : Hp} {l : Addr} {us : List V} {G : List Pr} {Q : VK} (hl : H l = some (.lst us)) (pl : PL H us G) (nd : G.Nodup) (q : ∀ (S : List Pr) (ys : List V) (p : Addr) (H' : Hp), Asc S → (∀ d, d ∈ S ↔ d ∈ G) → S.length = G.length → Same H H' → H p = none → H' p = some (.lst ys) → PL H' ys S → Q (.ref p) H') : rSortedPO K [.ref l] H Q := by
  obtain ⟨k1, k2⟩ := pl.toK
  refine ⟨l, us, kH H, rfl, SqL.of hl, k2, fun ys t so st nt => ?_⟩
  have pmy := st.perm
  have hy : ∀ v ∈ ys, IsP H v (kH H v) := fun v hv => k2 v (pmy.mem_iff.mp hv)
  have nd2 : (ys.map (kH H)).Nodup := by
    refine (pmy.map _).nodup_iff.mpr ?_
    rw [← k1]
    exact nd
  refine q (ys.map (kH H)) ys t _ (srtd_asc nd2 so) (fun d => ?_) ?_ (same_upd nt) nt upd_same ((PL.ofK hy).kt (KT.new nt))
  · rw [k1]
    exact (pmy.map _).mem_iff
  · rw [k1, List.length_map, List.length_map, pmy.length_eq]

/-! ### comprehensions with one name, over a list or a range -/
theorem fm_step {β : Type} (sel : Nat → Option β) (i : Nat) : (List.range (i + 1)).filterMap sel = (List.range i).filterMap sel ++ (match sel i with | some b => [b] | none => []) := by
  rw [List.range_succ, List.filterMap_append]
  congr 1
  rw [List.filterMap_cons, List.filterMap_nil]
  cases sel i <;> rfl
theorem fm_len {β : Type} (sel : Nat → Option β) (i : Nat) : ((List.range i).filterMap sel).length ≤ i := by
  have := List.length_filterMap_le sel (List.range i)
  rw [List.length_range] at this
  exact this
theorem gc_list {β : Type} {K : PySem.W.Frag} {a : Addr} {xs : List V} {i : Nat} {tt : TT} {te : TE} {σ : L2.St} {H1 : Hp} {Q : VK} (rel : Hp → V → β → Prop) (up : ∀ H H' v b, rel H v b → KT H H' → rel H' v b) (sel : Nat → Option β) (ha : H1 a = some (.lst xs)) (len : xs.length ≤ 100000)
    (step : ∀ (j : Nat) (x : V) (Hx : Hp) (A : VK) (B : Hp → Prop), xs[j]? = some x → Same H1 Hx → (∀ v b Hy, sel j = some b → Same Hx Hy → rel Hy v b → A v Hy) → (∀ Hy, sel j = none → Same Hx Hy → B Hy) → tt (σ.set i (some x)) Hx fun c H3 => if c = true then te (σ.set i (some x)) H3 A else B H3)
    (q : ∀ o ys H', Same H1 H' → H1 o = none → H' o = some (.lst ys) → Paired (rel H') ys ((List.range xs.length).filterMap sel) → Q (.ref o) H') :
    tLc (fun _ H R => R (Itl K a) H) (gName i) tt te [i] σ H1 Q := by
  intro D nD
  obtain ⟨Pv, hPv⟩ : ∃ Pv : Nat → Hp → Prop, Pv = (fun j Hx => ∃ ys, Same H1 Hx ∧ Hx D = some (.lst ys) ∧ Paired (rel Hx) ys ((List.range j).filterMap sel)) := ⟨_, rfl⟩
  refine lc_list (K := K) (a := a) (xs := xs) Pv (by rw [hPv]; exact ⟨[], same_upd nD, upd_same, Paired.nil⟩) (fun j H' _ pv => by rw [hPv] at pv; obtain ⟨_, sm, _⟩ := pv; exact SqL.of (sm _ _ ha)) (fun j x H' gx pv => ?_) (fun H' pv => ?_)
  · rw [hPv] at pv
    obtain ⟨ys, sm, hD, pr⟩ := pv
    have jl := (List.getElem?_eq_some_iff.mp gx).1
    have yl : ys.length ≤ j := by rw [pr.length]; exact fm_len sel j
    have ew : (wipe σ [i]).set i (some x) = σ.set i (some x) := by show (σ.set i none).set i (some x) = _; rw [List.set_set]
    show wipe ((wipe σ [i]).set i (some x)) [i] = wipe σ [i] ∧ tt ((wipe σ [i]).set i (some x)) H' fun c H3 => if c = true then te ((wipe σ [i]).set i (some x)) H3 _ else _
    rw [ew]
    refine ⟨by show (σ.set i (some x)).set i none = σ.set i none; rw [List.set_set], ?_⟩
    refine step j x H' _ _ gx sm (fun v b Hy es sy r => ?_) (fun Hy es sy => ?_)
    · have hD2 := sy _ _ hD
      refine ⟨ys, hD2, len_big (by omega), ?_⟩
      rw [hPv]
      refine ⟨ys ++ [v], same_ch (sm.trans sy) nD, upd_same, ?_⟩
      rw [fm_step, es]
      have kt : KT Hy (upd Hy D (HO.lst (ys ++ [v]))) := KT.lst hD2
      exact Paired.snoc (Paired.mapP pr fun v b h => up _ _ _ _ (up _ _ _ _ h (KT.same sy)) kt) (up _ _ _ _ r kt)
    · rw [hPv]
      refine ⟨ys, sm.trans sy, sy _ _ hD, ?_⟩
      rw [fm_step, es, List.append_nil]
      exact Paired.mapP pr fun v b h => up _ _ _ _ h (KT.same sy)
  · rw [hPv] at pv
    obtain ⟨ys, sm, hD, pr⟩ := pv
    exact q D ys H' sm nD hD pr
theorem gc_range {β : Type} {lo : Int} {n i : Nat} {tt : TT} {te : TE} {σ : L2.St} {H1 : Hp} {Q : VK} (rel : Hp → V → β → Prop) (up : ∀ H H' v b, rel H v b → KT H H' → rel H' v b) (sel : Nat → Option β) (len : n ≤ 100000)
    (step : ∀ (j : Nat) (Hx : Hp) (A : VK) (B : Hp → Prop), j < n → Same H1 Hx → (∀ v b Hy, sel j = some b → Same Hx Hy → rel Hy v b → A v Hy) → (∀ Hy, sel j = none → Same Hx Hy → B Hy) → tt (σ.set i (some (.int (lo + (j : Nat))))) Hx fun c H3 => if c = true then te (σ.set i (some (.int (lo + (j : Nat))))) H3 A else B H3)
    (q : ∀ o ys H', Same H1 H' → H1 o = none → H' o = some (.lst ys) → Paired (rel H') ys ((List.range n).filterMap sel) → Q (.ref o) H') :
    tLc (fun _ H R => R (Itr lo n) H) (gName i) tt te [i] σ H1 Q := by
  intro D nD
  obtain ⟨Pv, hPv⟩ : ∃ Pv : Nat → Hp → Prop, Pv = (fun j Hx => ∃ ys, Same H1 Hx ∧ Hx D = some (.lst ys) ∧ Paired (rel Hx) ys ((List.range j).filterMap sel)) := ⟨_, rfl⟩
  refine lc_range (lo := lo) (n := n) Pv (by rw [hPv]; exact ⟨[], same_upd nD, upd_same, Paired.nil⟩) (fun j H' jl pv => ?_) (fun H' pv => ?_)
  · rw [hPv] at pv
    obtain ⟨ys, sm, hD, pr⟩ := pv
    have yl : ys.length ≤ j := by rw [pr.length]; exact fm_len sel j
    have ew : (wipe σ [i]).set i (some (.int (lo + (j : Nat)))) = σ.set i (some (.int (lo + (j : Nat)))) := by show (σ.set i none).set i (some (.int (lo + (j : Nat)))) = _; rw [List.set_set]
    show wipe ((wipe σ [i]).set i (some (.int (lo + (j : Nat))))) [i] = wipe σ [i] ∧ tt ((wipe σ [i]).set i (some (.int (lo + (j : Nat))))) H' fun c H3 => if c = true then te ((wipe σ [i]).set i (some (.int (lo + (j : Nat))))) H3 _ else _
    rw [ew]
    refine ⟨by show (σ.set i (some (.int (lo + (j : Nat))))).set i none = σ.set i none; rw [List.set_set], ?_⟩
    refine step j H' _ _ jl sm (fun v b Hy es sy r => ?_) (fun Hy es sy => ?_)
    · have hD2 := sy _ _ hD
      refine ⟨ys, hD2, len_big (by omega), ?_⟩
      rw [hPv]
      refine ⟨ys ++ [v], same_ch (sm.trans sy) nD, upd_same, ?_⟩
      rw [fm_step, es]
      have kt : KT Hy (upd Hy D (HO.lst (ys ++ [v]))) := KT.lst hD2
      exact Paired.snoc (Paired.mapP pr fun v b h => up _ _ _ _ (up _ _ _ _ h (KT.same sy)) kt) (up _ _ _ _ r kt)
    · rw [hPv]
      refine ⟨ys, sm.trans sy, sy _ _ hD, ?_⟩
      rw [fm_step, es, List.append_nil]
      exact Paired.mapP pr fun v b h => up _ _ _ _ h (KT.same sy)
  · rw [hPv] at pv
    obtain ⟨ys, sm, hD, pr⟩ := pv
    exact q D ys H' sm nD hD pr
/-- values that are these ints -/
def IsI (_ : Hp) (v : V) (n : Int) : Prop := v = .int n
theorem isI_map {H : Hp} : ∀ {vs : List V} {ns : List Int}, Paired (IsI H) vs ns → vs = ns.map V.int
  | _, _, .nil => rfl
  | _, _, .cons r t => by
    rw [isI_map t, List.map_cons]
    exact congrArg (· :: _) r
theorem fmap_congr {α β : Type} {f g : α → Option β} : ∀ l : List α, (∀ a ∈ l, f a = g a) → l.filterMap f = l.filterMap g
  | [], _ => rfl
  | a :: l, h => by
    rw [List.filterMap_cons, List.filterMap_cons, h a List.mem_cons_self, fmap_congr l fun b hb => h b (List.mem_cons_of_mem _ hb)]
theorem snoc_indJ {α : Type} {M : List α → Prop} (h0 : M []) (hs : ∀ S c, M S → M (S ++ [c])) (L : List α) : M L := by
  have key : ∀ K : List α, M K.reverse := by
    intro K
    induction K with
    | nil => exact h0
    | cons c K ih => rw [List.reverse_cons]; exact hs _ _ ih
  have := key L.reverse
  rw [List.reverse_reverse] at this
  exact this
theorem fm_range {β : Type} {L : List β} {γ : Type} (f : β → Option γ) : (List.range L.length).filterMap (fun j => L[j]?.bind f) = L.filterMap f := by
  refine snoc_indJ (M := fun L => (List.range L.length).filterMap (fun j => L[j]?.bind f) = L.filterMap f) rfl (fun L b ih => ?_) L
  rw [List.length_append, List.length_singleton, fm_step, List.filterMap_append]
  have e : (List.range L.length).filterMap (fun j => (L ++ [b])[j]?.bind f) = (List.range L.length).filterMap (fun j => L[j]?.bind f) := fmap_congr _ fun j hj => by
    rw [List.getElem?_append_left (List.mem_range.mp hj)]
  rw [e, ih, List.getElem?_append_right (Nat.le_refl _), Nat.sub_self]
  congr 1
  show (match f b with | some b => [b] | none => []) = _
  rw [List.filterMap_cons, List.filterMap_nil]
  cases f b <;> rfl
theorem fm_rg {γ : Type} (n : Nat) (f : Int → Option γ) : (List.range n).filterMap (fun j : Nat => f (j : Int)) = (rg n).filterMap f := by
  unfold rg
  rw [List.filterMap_map]
  rfl
/-- [c[0] for c in calls] -/
theorem lc_fst {K : PySem.W.Frag} {a : Addr} {ws : List V} {L : List Cl} {i : Nat} {σ : L2.St} {H1 : Hp} {Q : VK} (ha : H1 a = some (.lst ws)) (lg : LG H1 ws L) (len : L.length ≤ 100000) (hi : i < σ.length)
    (q : ∀ o H', Same H1 H' → H1 o = none → H' o = some (.lst ((L.map (·.1)).map V.int)) → Q (.ref o) H') :
    tLc (fun _ H R => R (Itl K a) H) (gName i) tYes (tOp (rIxT K) (tVar i) (tC (V.int 0))) [i] σ H1 Q := by
  have wl := lg.len
  refine gc_list IsI (fun _ _ _ _ h _ => h) (fun j => L[j]?.bind fun c => some c.1) ha (by omega) (fun j x Hx A B gx sx hA hB => ?_) (fun o ys H' s no ho pr => ?_)
  · obtain ⟨c, gc, t, rfl, ht⟩ := pget lg gx
    refine (show (if true = true then tOp (rIxT K) (tVar i) (tC (V.int 0)) (σ.set i (some (.ref t))) Hx A else B Hx) from ?_)
    rw [if_pos rfl]
    refine ⟨.ref t, by rw [List.getElem?_set_self hi], ?_⟩
    refine ⟨t, _, 0, .int c.1, rfl, rfl, SqT.of (sx _ _ ht), rfl, ?_⟩
    exact hA _ c.1 Hx (by rw [gc]; rfl) (Same.refl _) rfl
  · refine q o H' s no ?_
    have e := isI_map pr
    rw [wl, fm_range (L := L) (fun c => some c.1), List.filterMap_eq_map'] at e
    rw [e] at ho
    exact ho
/-- [r for r in range(n) if r not in L] -/
theorem lc_notin {K : PySem.W.Frag} {m : Nat} {b : Addr} {R : List Int} {n i : Nat} {σ : L2.St} {H1 : Hp} {Q : VK} (hm : (σ.set i none)[m]? = some (some (.ref b))) (hb : SqL K H1 b (R.map V.int) ∨ SqT K H1 b (R.map V.int)) (len : n ≤ 100000) (hi : i < σ.length)
    (q : ∀ o H', Same H1 H' → H1 o = none → H' o = some (.lst (((rg n).filter fun z => decide (z ∉ R)).map V.int)) → Q (.ref o) H') :
    tLc (fun _ H R => R (Itr 0 n) H) (gName i) (tTest (tOp (rIn K true) (tVar i) (tVar m))) (tVar i) [i] σ H1 Q := by
  have nm : m ≠ i := fun z => by
    subst z
    rw [List.getElem?_set_self hi] at hm
    cases hm
  refine gc_range IsI (fun _ _ _ _ h _ => h) (fun j => if (j : Int) ∈ R then none else some (j : Int)) len (fun j Hx A B jl sx hA hB => ?_) (fun o ys H' s no ho pr => ?_)
  · rw [Int.zero_add]
    refine ⟨.int (j : Int), by rw [List.getElem?_set_self hi], .ref b, ?_, b, R.map V.int, rfl, ?_, rfl, flI _, ?_⟩
    · rw [List.getElem?_set_ne (fun z => nm z.symm)]
      rw [List.getElem?_set_ne (fun z => nm z.symm)] at hm
      exact hm
    · exact SeqI.same hb sx
    · rw [inI, if_pos rfl]
      refine ⟨_, rfl, ?_⟩
      by_cases c : (j : Int) ∈ R
      · rw [decide_eq_true c]
        exact hB Hx (if_pos c) (Same.refl _)
      · rw [decide_eq_false c]
        exact ⟨_, by rw [List.getElem?_set_self hi], hA _ (j : Int) Hx (if_neg c) (Same.refl _) rfl⟩
  · refine q o H' s no ?_
    have e := isI_map pr
    rw [fm_rg n (fun z => if z ∈ R then none else some z)] at e
    have e2 : ∀ l : List Int, l.filterMap (fun z => if z ∈ R then none else some z) = l.filter fun z => decide (z ∉ R) := fun l => by
      induction l with
      | nil => rfl
      | cons z l ih =>
        by_cases c : z ∈ R
        · rw [List.filterMap_cons, if_pos c, List.filter_cons_of_neg (by simpa using c)]
          exact ih
        · rw [List.filterMap_cons, if_neg c, List.filter_cons_of_pos (by simpa using c), ih]
    rw [e, e2] at ho
    exact ho
/-- the calls at these places -/
def pickC (C : List Cl) (xs : List Int) : List Cl := xs.filterMap fun x => C[x.toNat]?
theorem pickC_perm {C : List Cl} {xs : List Int} (h : xs.Perm (rg C.length)) : (pickC C xs).Perm C := by
  have e : pickC C (rg C.length) = C := by
    unfold pickC rg
    rw [List.filterMap_map]
    have := fm_range (L := C) (fun c => some c)
    rw [List.filterMap_some] at this
    refine Eq.trans (fmap_congr _ fun j _ => ?_) this
    show C[((j : Nat) : Int).toNat]? = _
    rw [Int.toNat_natCast]
    cases C[j]? <;> rfl
  have := h.filterMap (fun x => C[x.toNat]?)
  show (xs.filterMap _).Perm C
  refine this.trans ?_
  show (pickC C (rg C.length)).Perm C
  rw [e]
/-- [calls[k] for k in places] -/
theorem lc_pick {K : PySem.W.Frag} {a g : Addr} {ws : List V} {C : List Cl} {xs : List Int} {c i : Nat} {σ : L2.St} {H1 : Hp} {Q : VK} (hc : (σ.set i none)[c]? = some (some (.ref g))) (hg : H1 g = some (.lst ws)) (lg : LG H1 ws C) (ha : H1 a = some (.lst (xs.map V.int))) (pm : xs.Perm (rg C.length)) (len : C.length ≤ 100000) (hi : i < σ.length)
    (q : ∀ o vs H', Same H1 H' → H1 o = none → H' o = some (.lst vs) → LG H' vs (pickC C xs) → Q (.ref o) H') :
    tLc (fun _ H R => R (Itl K a) H) (gName i) tYes (tOp (rIxL K) (tVar c) (tVar i)) [i] σ H1 Q := by
  have nm : c ≠ i := fun z => by
    subst z
    rw [List.getElem?_set_self hi] at hc
    cases hc
  have xl : xs.length = C.length := by rw [pm.length_eq, rg_len]
  refine gc_list (fun H v b => IsC H v b) (fun _ _ _ _ h k => h.kt k) (fun j => xs[j]?.bind fun x => C[x.toNat]?) ha (by rw [List.length_map]; omega) (fun j x Hx A B gx sx hA hB => ?_) (fun o ys H' s no ho pr => ?_)
  · rw [List.getElem?_map] at gx
    cases e : xs[j]? with
    | none => rw [e] at gx; cases gx
    | some y =>
      rw [e] at gx hA
      have ex := Option.some.inj gx
      subst ex
      obtain ⟨n, hn, rfl⟩ := List.mem_map.mp (pm.mem_iff.mp (List.mem_of_getElem? e))
      have hn2 := List.mem_range.mp hn
      obtain ⟨d, gd⟩ : ∃ d, C[n]? = some d := ⟨_, List.getElem?_eq_getElem hn2⟩
      obtain ⟨v, gv, r⟩ := pget2 lg gd
      refine (show (if true = true then tOp (rIxL K) (tVar c) (tVar i) (σ.set i (some (.int (Int.ofNat n)))) Hx A else B Hx) from ?_)
      rw [if_pos rfl]
      refine ⟨.ref g, ?_, .int (Int.ofNat n), by rw [List.getElem?_set_self hi], g, ws, Int.ofNat n, v, rfl, rfl, SqL.of (sx _ _ hg), atI_nat gv, ?_⟩
      · rw [List.getElem?_set_ne (fun z => nm z.symm)]
        rw [List.getElem?_set_ne (fun z => nm z.symm)] at hc
        exact hc
      · exact hA _ d Hx gd (Same.refl _) (r.kt (KT.same sx))
  · refine q o ys H' s no ho ?_
    rw [List.length_map, fm_range (L := xs) (fun x => C[x.toNat]?)] at pr
    exact pr

/-! ### all(test for x in a list or tuple) -/
section
variable {X : Cx} {pins : List (Addr × Obj)} {σ : L2.St} {H : Hp} {s : Shared}
/-- the element: a test of the value v, among what stood when the walk began (but for the table at P) -/
def EltV (X : Cx) (pins : List (Addr × Obj)) (σ : L2.St) (H1 : Hp) (P : Addr) (scope : Scope) (x : Str) (elt : Expr) (xs : List V) (pb : V → Bool) : Prop :=
  ∀ (cenv : Env) (A' : Around) (E' : Value → Shared → Prop) (v : V) (u : Value) (sa s2 : Shared) (m2 : Str → Option Value), cenv.scope = scope → cenv.cells = cloFrom X.env.cells scope.names [] → v ∈ xs → L2.RelV v u → s2.heap.Ns cenv.locals m2 → m2 x = some u →
    Inv X pins σ H1 sa → (∀ b o, b ≠ P → sa.heap.get? b = some o → s2.heap.get? b = some o) → wpAny (model X.prog X.w) A' (eval elt cenv) (fun y s3 => y = .bool (pb v) ∧ Keeps s2 s3) E' s2
/-- the generator expression's own scope, by looks at the two scopes -/
structure GenS0 (esc scope : Scope) (x : Str) : Prop where
  kind : scope.kind = .function
  co : scope.isCoroutine = false
  cell : ∀ y ∈ scope.names, y.2 ≠ .cell
  dot : scope.names.lookup (".0" : Str) = some NameKind.local
  loc : scope.names.lookup x = some .local
  free : ∀ y ∈ scope.names, y.2 = .free → esc.names.lookup y.1 = some .cell ∨ esc.names.lookup y.1 = some .free
theorem GenS0.of {scope : Scope} {x : Str} (S : GenS0 X.env.scope scope x) (ok : X.Ok) : GxR.GenS X.env scope x :=
  ⟨S.kind, S.co, S.cell, S.dot, S.loc, fun y hy e => (S.free y hy e).elim (fun z => ok.has _ (.inl z)) fun z => ok.has _ (.inr z)⟩
def trV (pb : V → Bool) (l : List V) (q0 : Nat) : Bool := match l[q0]? with
  | some b => pb b
  | none => false
theorem trV_some {pb : V → Bool} {l : List V} {q0 : Nat} {b : V} (h : l[q0]? = some b) : trV pb l q0 = pb b := by
  unfold trV
  rw [h]
theorem all_trV (l : List V) (pb : V → Bool) : (List.range l.length).all (trV pb l) = l.all pb := by
  rw [Bool.eq_iff_iff, List.all_eq_true, List.all_eq_true]
  constructor
  · intro h b hb
    obtain ⟨q0, q0l, e⟩ := List.getElem_of_mem hb
    have q := h q0 (List.mem_range.mpr q0l)
    rw [trV_some (List.getElem?_eq_getElem q0l), e] at q
    exact q
  · intro h q0 q0l
    have hj' := List.mem_range.mp q0l
    rw [trV_some (List.getElem?_eq_getElem hj')]
    exact h _ (List.getElem_mem hj')
/-- a list's or a tuple's iterator -/
theorem iter_vals {K : PySem.W.Frag} {yl : Addr} {xs : List V} {Q' : Value → Shared → Prop} (I : Inv X pins σ H s) (h : SqL X.K H yl xs ∨ SqT X.K H yl xs)
    (q : ∀ (us : List Value) (o : Obj) (St : Nat → Heap → Prop), Vals xs us → yl < s.heap.objs.size → (∃ oy, s.heap.get? yl = some oy ∧ ∀ us, oy.data ≠ .fields us) → (∀ A' : Around, A'.handled = none → Walks X.prog X.w A' s.heap.objs.size [s.heap.objs.size, yl] [s.heap.objs.size] us.toArray.size (fun i v => us.toArray[i]? = some v) St) →
      St 0 (s.heap.push o) → Q' (.ref s.heap.objs.size) { s with heap := s.heap.push o }) : wpAny (model X.prog X.w) X.A (pyIter (.ref yl)) Q' X.xe s := by
  rcases h with h | h
  · obtain ⟨us, rv, hl, hz⟩ := I.list h
    have lst := hl.isList
    have lt : yl < s.heap.objs.size := by
      obtain ⟨_, e, _⟩ := _root_.id lst
      exact Heap.lt_size e
    refine wpAny_pyIter_list lst (q us _ _ rv lt ?_ (fun A' hand => Walks.list hand _ _ (Nat.ne_of_lt lt) _) ⟨⟨_, Heap.get?_push_size _ rfl, rfl, rfl⟩, ?_⟩)
    · obtain ⟨ob, e, _, _, hd⟩ := _root_.id lst
      exact ⟨ob, e, fun us z => by rw [hd] at z; cases z⟩
    · obtain ⟨ob, e, r⟩ := _root_.id lst
      exact ⟨ob, Heap.get?_push_of_some _ e, r⟩
  · obtain ⟨us, rv, hl, hz⟩ := I.tuple h
    have lt : yl < s.heap.objs.size := by
      obtain ⟨_, e, _⟩ := _root_.id hl
      exact Heap.lt_size e
    refine wpAny_pyIter_tuple hl (q us _ _ rv lt ?_ (fun A' hand => Walks.tuple hand _ _ (Nat.ne_of_lt lt) _) ⟨⟨_, Heap.get?_push_size _ rfl, rfl, rfl⟩, ?_⟩)
    · obtain ⟨ob, e, _, _, hd⟩ := _root_.id hl
      exact ⟨ob, e, fun us z => by rw [hd] at z; cases z⟩
    · obtain ⟨ob, e, r⟩ := _root_.id hl
      exact ⟨ob, Heap.get?_push_of_some _ e, r⟩
/-- the generator g over the values xs, ready to be walked, in the state s5; H1: what was held before -/
def ReadyV (X : Cx) (pins : List (Addr × Obj)) (σ : L2.St) (H1 : Hp) (P : Addr) (xs : List V) (pb : V → Bool) (g : Addr) (s5 : Shared) : Prop :=
  ∃ (ft wt : List Addr) (G : Array GenState → Array GenState → Prop) (F : Nat → Value → Prop) (St : Nat → Shared → Prop),
    WalksS X.prog X.w X.A.in1 g ft wt G xs.length F St ∧ St 0 s5 ∧ TruthOf X.prog X.w X.A.in1 F (trV pb xs) ∧ ∀ s', Moved wt G s5 s' → ∃ H2, GxR.Tabbed P H1 H2 ∧ Inv X pins σ H2 s'
theorem gen_vals {c P : Addr} {elt iter : Expr} {x : Str} {px gpos : Pos} {scope : Scope} {pb : Hp → V → Bool} {te : TE} {k : Nat} {Q' : Value → Shared → Prop} {R : List V → Hp → Prop}
    (hr : Room k X.A) (TB : GxR.TabB X.base X.mg c P) (hcode : X.env.code = .ref c) (S : GxR.GenS X.env scope x) (hi : PE X iter te) (hs : ∀ v, genFold iter X.env v = pure v) (I : Inv X pins σ H s)
    (h : te σ H fun v H1 => ∃ (yl : Addr) (xs : List V), v = .ref yl ∧ (SqL X.K H1 yl xs ∨ SqT X.K H1 yl xs) ∧ (∀ pins, EltV X pins σ H1 P scope x elt xs (pb H1)) ∧ GxR.TabG H1 P ∧ R xs H1)
    (hQ : ∀ xs H1 g s5, R xs H1 → ReadyV X pins σ H1 P xs (pb H1) g s5 → Q' (.ref g) s5) :
    wpAny (model X.prog X.w) X.A (eval (.GeneratorExp elt [⟨.Name x px, iter, [], 0⟩] scope gpos) X.env) Q' X.xe s := by
  refine wpAny_GeneratorExp_walksQ hr.hd S.co (closure_ok S.free) S.cell S.dot S.loc S.kind (by have := hr.dp; omega) ?_ hs
  refine thn (hi.run pins s σ H _ I h) fun uv sa ⟨v, H1, I1, r1, q1⟩ => ?_
  obtain ⟨yl, xs, rfl, hyl, hel, ⟨ps, hP, ht⟩, q1⟩ := q1
  obtain rfl : uv = Value.ref yl := r1
  refine iter_vals (K := X.K) I1 hyl fun us o St rv ylt hyo W hst => ?_
  obtain ⟨oy, hoy, hyd⟩ := hyo
  have vlen : us.length = xs.length := rv.length.symm
  have vat : ∀ (i : Nat) (u : Value), us.toArray[i]? = some u → ∃ b, xs[i]? = some b ∧ L2.RelV b u := fun i u hv => by
    have gv : us[i]? = some u := by simpa using hv
    have ilt : i < us.length := (List.getElem?_eq_some_iff.mp gv).1
    obtain ⟨b, hb⟩ : ∃ b, xs[i]? = some b := ⟨xs[i]'(by omega), List.getElem?_eq_getElem _⟩
    obtain ⟨u2, hu, ru⟩ := rv.get hb
    rw [gv] at hu
    cases hu
    exact ⟨b, hb, ru⟩
  have tbs : sa.heap.get? P = some { cls := .none, data := .fields ps } := I1.hok P _ hP
  have tlt : P < sa.heap.objs.size := Heap.lt_size tbs
  have tb2 : (sa.heap.push o).get? P = some { cls := .none, data := .fields ps } := Heap.get?_push_of_some _ tbs
  have cd : PySem.W.CodeHd (sa.heap.push o) c P := TB.code.keeps fun b u e => Heap.get?_push_of_some _ (I1.bk b u e)
  have nl2 : (sa.heap.push o).NoLimit := I1.nolimit.push o
  have goes : ∀ (code : Value) (hw : Heap) (tk : Nat) (ps' : Array Value), Heap.ExtBut P (sa.heap.push o) hw → (sa.heap.push o).objs.size ≤ hw.objs.size → hw.get? P = some { cls := .none, data := .fields ps' } → (∃ add, ps' = ps ++ add) → TriplesOk ps'.toList →
      wpAny (model X.prog X.w) X.A (builtinsFor X.env.globals X.env.builtins) (fun bi z4 =>
        ∃ Ia ft wt nn Pf St0 pz F, Value.ref sa.heap.objs.size = .ref Ia ∧ (∀ A' : Around, A'.handled = none → Walks X.prog X.w A' Ia ft wt nn Pf St0) ∧ St0 0 z4.heap ∧ (∀ b ∈ ft, b < z4.heap.objs.size) ∧ z4.heap.NoLimit ∧ cStatics ∉ wt ∧
          (∀ hrf : Heap, (∀ b o, z4.heap.get? b = some o → hrf.get? b = some o) →
            QuietGen X.prog X.w (genEnv scope (cloFrom X.env.cells scope.names []) z4.heap.objs.size code bi X.env) x [] elt (List.range z4.heap.objs.size) wt Pf pz F hrf) ∧
          (∀ a hn5_ tk gst, gst.bare = true → z4.heap.objs.size < a → hn5_.objs.size = a + 1 → (∀ b o, z4.heap.get? b = some o → hn5_.get? b = some o) →
            WalksS X.prog X.w X.A.in4 a (a :: z4.heap.objs.size :: List.range z4.heap.objs.size) (z4.heap.objs.size :: wt) (GenOnlyQ z4.gens.size) (passing pz nn 0).length
              (fun q0 y => ∃ i, (passing pz nn 0)[q0]? = some i ∧ F i y) (GenAt X.prog X.w X.A.in4 a z4.gens.size z4.heap.objs.size (List.range z4.heap.objs.size) wt pz nn F) →
            GenAt X.prog X.w X.A.in4 a z4.gens.size z4.heap.objs.size (List.range z4.heap.objs.size) wt pz nn F 0 { z4 with gens := z4.gens.push gst, toks := tk, heap := hn5_ } →
            Q' (.ref a) { z4 with gens := z4.gens.push gst, toks := tk, heap := hn5_ })) X.xe { sa with heap := hw, toks := tk } := by
    intro code hw tk ps' hx hsz tb3 mre tr3
    obtain ⟨bm, ob, e1, e2, e3, e4, e5, e6, e7, e8⟩ := TB.bm
    have cnP : cStatics ≠ P := fun e => by
      obtain ⟨_, hns, _⟩ := I1.nolimit
      obtain ⟨o', es, ep, ho, hd, _⟩ := hns
      rw [e, tbs] at ho
      cases ho
      cases hd
    have clt : cStatics < sa.heap.objs.size := let ⟨_, hns, _⟩ := I1.nolimit; hns.lt
    have sze : (sa.heap.push o).objs.size = sa.heap.objs.size + 1 := Heap.size_push ..
    have kp3 : ∀ b u, b ≠ P → sa.heap.get? b = some u → hw.get? b = some u := fun b u hb e => hx b u hb (Heap.get?_push_of_some _ e)
    refine wpAny_builtinsFor (m := X.mg) (by rw [I1.ok.glob]; exact ((I1.mod.glob.keeps I1.bk).push o).extBut hx TB.gP) e1 e2 (kp3 _ _ e4 (I1.bk _ _ e5)) e6 e7 e8 ?_
    have ynP : yl ≠ P := fun z => by
      rw [z, tbs] at hoy
      cases hoy
      exact hyd _ rfl
    refine ⟨sa.heap.objs.size, [sa.heap.objs.size, yl], [sa.heap.objs.size], us.toArray.size, (fun i v => us.toArray[i]? = some v), St, (fun _ => true),
      (fun i y => ∃ b, xs[i]? = some b ∧ y = .bool (pb H1 b)), rfl, W, ?_, ?_, nl2.extBut hx cnP, ?_, ?_, ?_⟩
    · refine (W X.A hr.hd).frame _ _ _ hst fun b hb u e => hx b u (fun z => ?_) e
      rcases List.mem_cons.mp hb with z2 | z2
      · exact Nat.ne_of_lt tlt (z.symm.trans z2)
      · rcases List.mem_cons.mp z2 with z3 | z3
        · exact ynP (z3.symm.trans z)
        · cases z3
    · intro b hb
      rcases List.mem_cons.mp hb with z | z
      · rw [z]
        show sa.heap.objs.size < hw.objs.size
        omega
      · rcases List.mem_cons.mp z with z | z
        · rw [z]
          have e9 : sa.heap.objs.size ≤ hw.objs.size := by omega
          exact Nat.lt_of_lt_of_le ylt e9
        · cases z
    · intro z
      rcases List.mem_cons.mp z with z | z
      · exact Nat.ne_of_lt clt z
      · cases z
    · intro hrf khr
      refine ⟨fun A' E' i v s2 mm hand vP hn mvd hk => ?_, fun A' E' i v s2 mm hand vP hp hn mvd hk => ?_⟩
      · simp only [List.forIn_nil]
        exact wpAny_pure ⟨rfl, GxR.keeps_refl _⟩
      · obtain ⟨b, hb, rb⟩ := vat i v vP
        refine wpAny_mono (hel pins _ A' E' b v sa s2 mm rfl rfl (List.mem_of_getElem? hb) rb hn mvd I1 fun d u nd e => ?_) (fun y s3 r => ⟨⟨b, hb, r.1⟩, r.2⟩) fun _ _ e => e
        have e3 := kp3 d u nd e
        refine hk d (List.mem_range.mpr (Heap.lt_size e3)) (fun z => ?_) u (khr d u e3)
        rcases List.mem_cons.mp z with z | z
        · exact Nat.ne_of_lt (Heap.lt_size e) z
        · cases z
    · intro g hg5 tkg gst gbr agt sz5 kg5 Wg gat
      simp only [GxR.passing_true, List.length_range] at Wg
      have hn5 : us.toArray.size = xs.length := by rw [List.size_toArray, vlen]
      rw [hn5] at Wg gat
      refine hQ xs H1 g _ q1 ⟨_, _, _, _, _, Wg.in4_1, gat, ?_, fun s' mvd => ?_⟩
      · intro q0 y sj Qj Ej hy hQj
        obtain ⟨i, hij, b, hb, rfl⟩ := hy
        obtain ⟨q0l, ej⟩ := List.getElem?_eq_some_iff.mp hij
        rw [List.getElem_range] at ej
        subst ej
        have hQ2 : Qj (trV (pb H1) xs q0) sj := hQj
        rw [trV_some hb] at hQ2
        exact wpAny_truthy_bool hQ2
      · obtain ⟨add, eadd⟩ := mre
        have notw : ∀ b u, sa.heap.get? b = some u → b ∉ hw.objs.size :: [sa.heap.objs.size] := fun b u e hb => by
          have hl := Heap.lt_size e
          rcases List.mem_cons.mp hb with z | z
          · rw [z] at hl
            have h9 : (hw.objs.size : Nat) < sa.heap.objs.size := hl
            omega
          · rcases List.mem_cons.mp z with z | z
            · rw [z] at hl
              exact Nat.lt_irrefl _ hl
            · cases z
        have J := GxR.inv_tab (more := add) (h' := s'.heap) (g' := s'.gens) (d' := s'.drawn) (t' := s'.toks) I1 hP (fun b u hb e => mvd.heap b u (notw b u e) (kg5 b u (kp3 b u hb e)))
          (by rw [← eadd]; exact mvd.heap P _ (notw P _ tbs) (kg5 P _ tb3)) (AllBare.movedS (I1.bare.push gbr) mvd)
        rw [GxR.sh_eta sa s' mvd.os] at J
        refine ⟨upd H1 P (.tbl (ps ++ add)), ⟨⟨ps ++ add, upd_same, by rw [← eadd]; exact tr3⟩, fun b hb => upd_ne hb⟩, J⟩
  refine ⟨nl2, ?_⟩
  cases hf : codeAmong gpos ps.toList with
  | none =>
    refine wpAny_genexprCodeX hcode (cd.code tb2 ht) (cd.tab tb2) hf fun c' h' tk hx hge hlt hco' _ htab' _ => ?_
    obtain ⟨o1, vs, f1, tf, fl, tg, inF, tx, tt, op, _, _, _, _, _, _, _, _, _, htr, _⟩ := hco'
    exact goes _ h' tk _ hx (Nat.le_trans hge (Nat.le_of_lt hlt)) htab'.2 ⟨_, rfl⟩ htr
  | some cv =>
    refine wpAny_genexprCode_hit hcode (cd.code tb2 ht) hf ?_
    exact goes cv (sa.heap.push o) sa.toks ps (Heap.ExtBut.refl _ _) (Nat.le_refl _) tb2 ⟨#[], by simp⟩ ht
/-- all(test for x in e), e a list or a tuple; behind it the def's table may have grown -/
def tAllV (X : Cx) (P : Addr) (scope : Scope) (x : Str) (elt : Expr) (pb : Hp → V → Bool) (te : TE) : TE := fun σ H Q => te σ H fun v H1 => ∃ (yl : Addr) (xs : List V), v = .ref yl ∧ (SqL X.K H1 yl xs ∨ SqT X.K H1 yl xs) ∧ (∀ pins, EltV X pins σ H1 P scope x elt xs (pb H1)) ∧ GxR.TabG H1 P ∧ ∀ H2, GxR.Tabbed P H1 H2 → Q (.bl (xs.all (pb H1))) H2
theorem pe_allV {c P : Addr} {elt iter : Expr} {x : Str} {px p pos gpos : Pos} {scope : Scope} {pb : Hp → V → Bool} {te : TE} {k : Nat}
    (hr : Room k X.A) (hg : Gl X "all") (mvd : X.mg "all" = none) (hb : bootBuiltins "all" = some (.builtin "all")) (TB : GxR.TabB X.base X.mg c P) (hcode : X.env.code = .ref c) (S : GenS0 X.env.scope scope x) (hi : PE X iter te)
    (hs : ∀ v, genFold iter X.env v = pure v)
    (he : starEach [.GeneratorExp elt [⟨.Name x px, iter, [], 0⟩] scope gpos] X.env = (false, eval (.GeneratorExp elt [⟨.Name x px, iter, [], 0⟩] scope gpos) X.env) :: starEach [] X.env := by rfl) :
    PE X (.Call (.Name "all" p) [.GeneratorExp elt [⟨.Name x px, iter, [], 0⟩] scope gpos] [] pos) (tAllV X P scope x elt pb te) := by
  refine ⟨fun pins s σ H Q I h => ?_⟩
  refine wpAny_Call_Name_kw (ld_blt I hg mvd hb ?_)
  refine PyProof.Rows.callWith_builtin1 ?_ he (by rfl)
  rw [he]
  show wpAny _ _ (spliced ((false, eval (.GeneratorExp elt [⟨.Name x px, iter, [], 0⟩] scope gpos) X.env) :: backTo pos (starEach [] X.env))) _ _ s
  refine Calls.spliced_cons (gen_vals (pb := pb) (R := fun xs H1 => ∀ H2, GxR.Tabbed P H1 H2 → Q (.bl (xs.all (pb H1))) H2) hr TB hcode (S.of I.ok) hi hs I h fun xs H1 g s5 hR hG => ?_)
  obtain ⟨ft, wt, G, F, St, W, hst, htr, hI⟩ := hG
  refine Calls.spliced_nil ?_
  refine call_all_walkS (W.self 0 _ _ _ hst ⟨g, ft, wt, G, _, F, St, _, rfl, W, hst, htr, fun s' hmv => ?_⟩)
  obtain ⟨H2, hT, J⟩ := hI s' hmv
  refine ⟨.bl _, H2, J, rfl, ?_⟩
  rw [all_trV]
  exact hR H2 hT
end
/-! ### a code object's table, told only as a table -/
def TbO (a : Addr) : HO := .ext fun h => ∃ ps : Array Value, h.get? a = some { cls := .none, data := .fields ps } ∧ TriplesOk ps.toList
theorem tbO_ne (a : Addr) : (∀ x, TbO a ≠ .own x) ∧ (∀ xs, TbO a ≠ .tup xs) ∧ (∀ o u, TbO a ≠ .frz o u) ∧ ∀ ps, TbO a ≠ .tbl ps := by
  unfold TbO
  refine ⟨?_, ?_, ?_, ?_⟩ <;> intros <;> intro z <;> cases z
theorem hok_swap {P : Program} {w : World} {H : Hp} {h : Heap} {a : Addr} {o1 o2 : HO} (x : HOk P w H h) (e : H a = some o1) (n1 : ∀ y, o1 ≠ .own y) (n2 : ∀ xs, o1 ≠ .tup xs) (new : ObjOk P w (upd H a o2) h a o2) : HOk P w (upd H a o2) h := fun b o q => by
  by_cases hb : b = a
  · rw [hb, upd_same] at q
    cases q
    rw [hb]
    exact new
  · rw [upd_ne hb] at q
    refine (x b o q).stay (fun _ _ _ z => z) (fun d z => ?_) fun d xs z => ?_
    · rw [upd_ne (ne_of z e fun z2 => n1 _ z2.symm)]
      exact z
    · rw [upd_ne (ne_of z e fun z2 => n2 _ z2.symm)]
      exact z
theorem un_swap {fs : List Addr} {H H' : Hp} {h h' : Heap} {a : Addr} {o1 o2 o4 : HO} (e1 : H a = some o1) (u : Un fs [] (upd H a o2) H' h h') (n : ∀ xs, o1 ≠ .tup xs) (n2 : ∀ o x, o1 ≠ .frz o x) (n3 : ∀ ps, o1 = .tbl ps → ∃ more, o4 = .tbl (ps ++ more)) : Un fs [] H (upd H' a o4) h h' := by
  have nn : ∀ b, H b = none → b ≠ a := fun b z q => by
    rw [q, e1] at z
    cases z
  refine ⟨fun b o q z hb hx => u.keep b o q (by rw [upd_ne (nn b z)]; exact z) hb hx, fun b o q z hb hx => u.slot b o q (by rw [upd_ne (nn b z)]; exact z) hb hx, fun b o q z hx => ?_, u.there, fun b xs z => ?_, fun b o x z => ?_, fun b ps z => ?_⟩
  · rw [upd_ne (nn b z)]
    exact u.free b o q (by rw [upd_ne (nn b z)]; exact z) hx
  · have hb := ne_of z e1 fun q => n _ q.symm
    rw [upd_ne hb]
    exact u.tups b xs (by rw [upd_ne hb]; exact z)
  · have hb := ne_of z e1 fun q => n2 _ _ q.symm
    rw [upd_ne hb]
    exact u.frzs b o x (by rw [upd_ne hb]; exact z)
  · by_cases hb : b = a
    · rw [hb, e1] at z
      obtain ⟨more, q⟩ := n3 ps (Option.some.inj z)
      exact ⟨more, by rw [hb, upd_same, q]⟩
    · rw [upd_ne hb]
      exact u.tbls b ps (by rw [upd_ne hb]; exact z)
section
variable {P : Program} {w : World} {K : PySem.W.Frag} {mg : Str → Option Value} {base : Heap} {k : Nat} {f : Addr} {fd : FuncData} {ps : List Str} {sp : Sp}
theorem env0_swap {A : Around} {outer : List Env} {s : Shared} {H : Hp} {a : Addr} {o1 o2 : HO} (e0 : Env0 P w K mg base A outer s H) (e : H a = some o1) (n1 : ∀ y, o1 ≠ .own y) (n2 : ∀ xs, o1 ≠ .tup xs) (new : ObjOk P w (upd H a o2) s.heap a o2) : Env0 P w K mg base A outer s (upd H a o2) := by
  have nn : ∀ b, H b = none → b ≠ a := fun b z q => by
    rw [q, e] at z
    cases z
  exact ⟨e0.frames, e0.mod, fun b o q => ⟨(e0.bs b o q).1, by rw [upd_ne (nn b (e0.bs b o q).2)]; exact (e0.bs b o q).2⟩, e0.bsz, e0.funs, fun b hb => by rw [upd_ne (nn b (e0.frf b hb))]; exact e0.frf b hb, hok_swap e0.hok e n1 n2 new, e0.bare⟩
/-- a def that works with its table: told of the table only that it is one -/
theorem FnOk.tb (a : Addr) (F : FnOk P w K mg base CX0 k f fd ps sp) : FnOk P w K mg base CX0 k f fd ps (fun vs H Q E => H a = some (TbO a) ∧ ∀ tb : Array Value, TriplesOk tb.toList → sp vs (upd H a (.tbl tb)) (fun v H' => ∃ tb' : Array Value, H' a = some (.tbl tb') ∧ TriplesOk tb'.toList ∧ Q v (upd H' a (TbO a))) E) := by
  refine ⟨fun vs H Q E h => F.len _ _ _ _ (h.2 #[] True.intro), fun A outer s H args us vs Q E hr e0 hb r h => ?_⟩
  obtain ⟨ha, h⟩ := h
  obtain ⟨⟨tb, hg, ht⟩, _, _⟩ := e0.hok a _ ha
  obtain ⟨t1, t2, t3, t4⟩ := tbO_ne a
  refine codeAny_mono (F.run A outer s (upd H a (.tbl tb)) args us vs _ E hr (env0_swap e0 ha t1 t2 hg) hb r (h tb ht)) fun q s' hq => ?_
  cases q with
  | error e => exact hq
  | ok fl =>
    cases fl with
    | next => exact False.elim hq
    | brk => exact False.elim hq
    | cont => exact False.elim hq
    | ret u =>
      obtain ⟨v, H', os, bare, un, hok, rv, tb', h', ht', q⟩ := hq
      have hg' : s'.heap.get? a = some { cls := .none, data := .fields tb' } := hok a _ h'
      exact ⟨v, _, os, bare, un_swap ha un t2 t3 (fun ps z => absurd z (t4 ps)), hok_swap (o2 := TbO a) hok h' (fun _ z => by cases z) (fun _ z => by cases z) ⟨⟨tb', hg', ht'⟩, ⟨_, hg'⟩, fun h1 h2 ⟨ps, z, t⟩ st => ⟨ps, st _ z, t⟩⟩, rv, q⟩
/-- .. and back, for a row's end: the table is empty at the start -/
theorem FnOk.untb (a : Addr) (F : FnOk P w K mg base CX0 k f fd ps sp) : FnOk P w K mg base CX0 k f fd ps (fun vs H Q E => H a = some (.tbl #[]) ∧ sp vs (upd H a (TbO a)) (fun v H' => H' a = some (TbO a) ∧ ∀ tb' : Array Value, Q v (upd H' a (.tbl tb'))) E) := by
  refine ⟨fun vs H Q E h => F.len _ _ _ _ h.2, fun A outer s H args us vs Q E hr e0 hb r h => ?_⟩
  obtain ⟨ha, h⟩ := h
  have hg : s.heap.get? a = some { cls := .none, data := .fields #[] } := e0.hok a _ ha
  obtain ⟨t1, t2, t3, t4⟩ := tbO_ne a
  refine codeAny_mono (F.run A outer s (upd H a (TbO a)) args us vs _ E hr (env0_swap e0 ha (fun _ z => by cases z) (fun _ z => by cases z) ⟨⟨#[], hg, True.intro⟩, ⟨_, hg⟩, fun h1 h2 ⟨ps, z, t⟩ st => ⟨ps, st _ z, t⟩⟩) hb r h) fun q s' hq => ?_
  cases q with
  | error e => exact hq
  | ok fl =>
    cases fl with
    | next => exact False.elim hq
    | brk => exact False.elim hq
    | cont => exact False.elim hq
    | ret u =>
      obtain ⟨v, H', os, bare, un, hok, rv, h', q⟩ := hq
      obtain ⟨⟨tb', hg', ht'⟩, _, _⟩ := hok a _ h'
      exact ⟨v, _, os, bare, un_swap ha un (fun _ z => by cases z) (fun _ _ z => by cases z) (fun ps z => ⟨tb', by cases z; rw [Array.empty_append]⟩), hok_swap (o2 := .tbl tb') hok h' t1 t2 hg', rv, q tb'⟩
end
/-- x in y, x the walk's name, y a name of the def -/
theorem elt_in {X : Cx} {pins : List (Addr × Obj)} {σ : L2.St} {H1 : Hp} {P b : Addr} {scope : Scope} {x y : Str} {j : Nat} {xs items : List V} {p1 p2 p3 : Pos} (S : GenS0 X.env.scope scope x) (hy : (y, NameKind.free) ∈ scope.names) (hy2 : scope.names.lookup y = some .free) (hc : X.env.scope.names.lookup y = some .cell)
    (hj : X.N[j]? = some y) (hs : σ[j]? = some (some (V.ref b))) (hb : H1 b = some (.lst items) ∨ H1 b = some (.tup items)) (tb : GxR.TabG H1 P) (fi : items.all flatV = true) (fx : ∀ v ∈ xs, flatV v = true)
    (hd : (x == ("__debug__" : Str)) = false := by decide) (hd2 : (y == ("__debug__" : Str)) = false := by decide) (hn : (y == ("__classdict__" : Str)) = false := by decide) :
    EltV X pins σ H1 P scope x (.Compare (.Name x p1) [.In] [.Name y p2] p3) xs (fun v => inV v items) := by
  intro cenv A' E' v u s1 s2 m2 ecs ecc hv ru hns hm I keep
  obtain ⟨ps, hP, _⟩ := tb
  have nP : b ≠ P := fun z => by
    rw [z, hP] at hb
    rcases hb with h | h <;> cases h
  obtain ⟨m, hnm, hl⟩ := I.loc
  obtain ⟨ub, rb, look⟩ := hl j y (.ref b) hj hs (.inr (.inl hc))
  obtain rfl : ub = Value.ref b := rb
  obtain ⟨c, hcl, hcell⟩ : ∃ c, X.env.cells.lookup y = some c ∧ s1.heap.IsCell c (some (Value.ref b)) := by
    rcases look with ⟨z, _⟩ | ⟨_, a', ha', hcell⟩
    · have z' : X.env.scope.names.lookup y = some .local := z
      rw [hc] at z'
      cases z'
    · exact ⟨a', ha', hcell⟩
  have ncP : c ≠ P := fun z => by
    have := I.freeC y c hcl
    rw [z, hP] at this
    cases this
  have hcell2 : s2.heap.IsCell c (some (Value.ref b)) := by
    obtain ⟨o, ho, hd⟩ := hcell
    exact ⟨o, keep _ _ ncP ho, hd⟩
  have hcl2 : cenv.cells.lookup y = some c := by
    rw [ecc]
    exact NdefX.clo_has (S.of I.ok).free hy hcl
  refine wpAny_Compare1 ?_
  refine wpAny_Name (wpAny_loadName_local (by rw [ecs]; exact S.kind) (show cenv.scope.names.lookup x = some .local by rw [ecs]; exact S.loc) hns hm ?_) hd
  refine wpAny_Name (wpAny_loadName_free (by rw [ecs]; exact S.kind) (show cenv.scope.names.lookup y = some .free by rw [ecs]; exact hy2) hcl2 hcell2 ?_ hn) hd2
  rcases hb with hb | hb
  · obtain ⟨its, r, pl, hz⟩ := I.list (SqL.of hb)
    have hIL : s2.heap.IsList b its.toArray := by
      obtain ⟨ob, e, q⟩ := _root_.id pl.isList
      exact ⟨ob, keep _ _ nP e, q⟩
    refine SeqAt.in_listAt (eqU v) hIL (fun w hw => mem_eqAt ru (fx v hv) r fi w (by simpa using hw)) ⟨?_, GxR.keeps_refl _⟩
    rw [show its.toArray.any (eqU v) = its.any (eqU v) by simp, any_eqU r fi]
    rfl
  · obtain ⟨its, r, pl, hz⟩ := I.tuple (SqT.of hb)
    have hIL : s2.heap.IsTuple b its.toArray := by
      obtain ⟨ob, e, q⟩ := _root_.id pl
      exact ⟨ob, keep _ _ nP e, q⟩
    refine SeqAt.in_tupleAt (eqU v) hIL (fun w hw => mem_eqAt ru (fx v hv) r fi w (by simpa using hw)) ⟨?_, GxR.keeps_refl _⟩
    rw [show its.toArray.any (eqU v) = its.any (eqU v) by simp, any_eqU r fi]
    rfl
/-- a def whose code object is known -/
structure FunC (K : PySem.W.Frag) (x qual : Str) (st : Stmt) (f : Addr) (fd : FuncData) (c : Addr) : Prop where
  ex : ∃ (oc : Value) (od : Option Addr) (kV doc pm : Value) (an : Option Addr) (ct : Value) (osl : Array (Option Value)),
    fd = PySem.W.fnOf x qual (defArgs st) (defBody st) (defScope st) .none kV doc pm an (.ref c) ct ∧ K.lookup f = some ⟨oc, od, .func fd, osl⟩ ∧ PySem.W.codeIn K (.ref c) qual = true
theorem FunC.ok {P : Program} {w : World} {K : PySem.W.Frag} {mg : Str → Option Value} {base : Heap} {x qual : Str} {st : Stmt} {f c : Addr} {fd : FuncData} {N ps : List Str} {k : Nat} {sp : Sp} (F : FunC K x qual st f fd c) (S : FnScope N ps (defScope st)) (len : ∀ vs H Q E, sp vs H Q E → vs.length = ps.length)
    (hb : ∀ (A : Around) (outer : List Env) (s : Shared) (H : Hp) (vs : List V) (Q : VK) (E : XK), Room k (A.deeper (envOfC qual (defScope st) s.heap.objs.size f (.ref c))) → sp vs H Q E →
      ∃ t, PSs (cxOf CX0 P w K mg base N qual (defScope st) f (.ref c) A outer s H E).nox (defBody st) t ∧ t { nx := fun _ H' => Q .non H', rt := Q } (L2.start N vs) H) : FnOk P w K mg base CX0 (k + 1) f fd ps sp := by
  obtain ⟨oc, od, kV, doc, pm, an, ct, osl, rfl, lk, hcd⟩ := F.ex
  refine fn_of lk hcd S len fun A outer s H vs Q E hr hsp => ?_
  obtain ⟨t, h, q⟩ := hb A outer s H vs Q E hr hsp
  exact ⟨t, h.nox, q⟩

/-! ### lies_in -/
abbrev sLi : Stmt := topS 20
/-- the generator expression of return all(..) -/
def genOf : Stmt → Expr
  | .Return (some (.Call _ [e] _ _)) _ => e
  | _ => .Constant .none 0 ⟨0, 0, 0, 0⟩
def genScope : Expr → Scope
  | .GeneratorExp _ _ sc _ => sc
  | _ => defScope (.Pass ⟨0, 0, 0, 0⟩)
abbrev gLi : Expr := genOf ((defBody sLi).headD (.Pass ⟨0, 0, 0, 0⟩))
section
variable {P : Program} {w : World} {K : PySem.W.Frag} {mg : Str → Option Value} {base : Heap}
theorem scLi : FnScope ["rooms", "others"] ["rooms", "others"] (defScope sLi) := ⟨rfl, rfl, rfl, by decide +kernel, rfl, by decide +kernel, by decide +kernel⟩
theorem gsLi : GenS0 (defScope sLi) (genScope gLi) "room" := ⟨by decide +kernel, by decide +kernel, by decide +kernel, by decide +kernel, by decide +kernel, by decide +kernel⟩
/-- the promise with the def's table -/
def spLi0 (t : Addr) : Sp := fun vs H Q _ => ∃ (a b : Addr) (xs ys : List Int), vs = [.ref a, .ref b] ∧ (H a = some (.lst (xs.map V.int)) ∨ H a = some (.tup (xs.map V.int))) ∧ (H b = some (.lst (ys.map V.int)) ∨ H b = some (.tup (ys.map V.int))) ∧ GxR.TabG H t ∧ ∀ H2, GxR.Tabbed t H H2 → Q (.bl (xs.all fun x => decide (x ∈ ys))) H2
theorem ok_li0 {f c t : Addr} {fd : FuncData} (F : FunC K "lies_in" "lies_in" sLi f fd c) (am : mg "all" = none) (TB : GxR.TabB base mg c t) : FnOk P w K mg base CX0 2 f fd ["rooms", "others"] (spLi0 t) := by
  refine F.ok scLi (fun vs H Q E h => ?_) (fun A0 outer s H vs Q E hr h => ?_)
  · obtain ⟨a, b, xs, ys, rfl, _⟩ := h
    rfl
  · obtain ⟨a, b, xs, ys, rfl, ha, hb, tb, ret⟩ := h
    refine ⟨_, pss_one (ps_ret (pe_allV (c := c) (P := t) (pb := fun _ v => inV v (ys.map V.int)) hr (by rfl) am (by rfl) TB rfl gsLi (pv 0) (fun _ => by rfl))), ?_⟩
    refine ⟨.ref a, rfl, a, xs.map V.int, rfl, ?_, fun pins => ?_, tb, fun H2 h2 => ?_⟩
    · rcases ha with ha | ha
      · exact .inl (SqL.of ha)
      · exact .inr (SqT.of ha)
    · exact elt_in (j := 1) gsLi (by decide +kernel) (by decide +kernel) (show (defScope sLi).names.lookup (Str.ofString "others") = some NameKind.cell by decide +kernel) rfl rfl hb tb (flI _) fun v hv => by
        obtain ⟨i, _, rfl⟩ := List.mem_map.mp hv
        rfl
    · have e : (xs.map V.int).all (fun v => inV v (ys.map V.int)) = xs.all fun x => decide (x ∈ ys) := by
        rw [List.all_map]
        congr 1
        funext x
        exact inI x ys
      refine (show Q (.bl ((xs.map V.int).all fun v => inV v (ys.map V.int))) H2 from ?_)
      rw [e]
      exact ret H2 h2
/-- lies_in, its table told as a table -/
def spLi (t : Addr) : Sp := fun vs H Q _ => ∃ (a b : Addr) (xs ys : List Int), vs = [.ref a, .ref b] ∧ (H a = some (.lst (xs.map V.int)) ∨ H a = some (.tup (xs.map V.int))) ∧ (H b = some (.lst (ys.map V.int)) ∨ H b = some (.tup (ys.map V.int))) ∧ H t = some (TbO t) ∧ Q (.bl (xs.all fun x => decide (x ∈ ys))) H
theorem seq_upd {H : Hp} {a t : Addr} {xs : List V} {o : HO} (h : H a = some (.lst xs) ∨ H a = some (.tup xs)) (ht : H t = some (TbO t)) : upd H t o a = some (.lst xs) ∨ upd H t o a = some (.tup xs) := by
  have ne : a ≠ t := fun z => by
    unfold TbO at ht
    rw [z, ht] at h
    rcases h with h | h <;> cases h
  rw [upd_ne ne]
  exact h
theorem tabbed_back {H H2 : Hp} {t : Addr} {o : HO} (ht : H t = some (TbO t)) (h : GxR.Tabbed t (upd H t o) H2) : upd H2 t (TbO t) = H := by
  funext b
  by_cases hb : b = t
  · rw [hb, upd_same, ht]
  · rw [upd_ne hb, h.2 b hb, upd_ne hb]
theorem ok_li {f co tb_lies_in : Addr} {fd : FuncData} (F : FunC K "lies_in" "lies_in" sLi f fd co) (am : mg "all" = none) (TB : GxR.TabB base mg co tb_lies_in) : FnOk P w K mg base CX0 2 f fd ["rooms", "others"] (spLi tb_lies_in) := by
  refine (FnOk.tb tb_lies_in (ok_li0 (P := P) (w := w) F am TB)).imp fun vs H Q E h => ?_
  obtain ⟨a, b, xs, ys, rfl, ha, hb, ht, q⟩ := h
  refine ⟨ht, fun tb htb => ⟨a, b, xs, ys, rfl, seq_upd ha ht, seq_upd hb ht, ⟨tb, upd_same, htb⟩, fun H2 h2 => ?_⟩⟩
  obtain ⟨ps, h3, h4⟩ := h2.1
  refine ⟨ps, h3, h4, ?_⟩
  rw [tabbed_back ht h2]
  exact q
end

/-! ### sets of rooms, last calls -/
def wordP (L : List Cl) (ps : List Int) : Option Str := (lastIn ps L).map (·.2)
theorem snoc_ind {α : Type} {M : List α → Prop} (h0 : M []) (hs : ∀ S c, M S → M (S ++ [c])) (L : List α) : M L := by
  have key : ∀ K : List α, M K.reverse := by
    intro K
    induction K with
    | nil => exact h0
    | cons c K ih => rw [List.reverse_cons]; exact hs _ _ ih
  have := key L.reverse
  rw [List.reverse_reverse] at this
  exact this
theorem lastIn_snoc (R : List Int) (S : List Cl) (c : Cl) : lastIn R (S ++ [c]) = if c.1 ∈ R then some c else lastIn R S := by
  unfold lastIn
  rw [List.reverse_append]
  show List.find? _ (c :: S.reverse) = _
  by_cases h : c.1 ∈ R
  · rw [List.find?_cons_of_pos (by simp [h]), if_pos h]
  · rw [List.find?_cons_of_neg (by simp [h]), if_neg h]
theorem lastIn_congr {R S : List Int} (h : ∀ x, x ∈ R ↔ x ∈ S) (L : List Cl) : lastIn R L = lastIn S L := by
  unfold lastIn
  refine find_ext _ fun c _ => ?_
  by_cases m : c.1 ∈ R
  · rw [decide_eq_true m, decide_eq_true ((h _).mp m)]
  · rw [decide_eq_false m, decide_eq_false fun z => m ((h _).mpr z)]
theorem wordP_snoc (S : List Cl) (c : Cl) (R : List Int) : wordP (S ++ [c]) R = if c.1 ∈ R then some c.2 else wordP S R := by
  unfold wordP
  rw [lastIn_snoc]
  by_cases h : c.1 ∈ R
  · rw [if_pos h, if_pos h]
    rfl
  · rw [if_neg h, if_neg h]
theorem wordP_congr {R S : List Int} (h : ∀ x, x ∈ R ↔ x ∈ S) (L : List Cl) : wordP L R = wordP L S := by
  unfold wordP
  rw [lastIn_congr h]
theorem lastIn_none {R : List Int} {L : List Cl} : lastIn R L = none ↔ ∀ c ∈ L, c.1 ∉ R := by
  unfold lastIn
  rw [List.find?_eq_none]
  constructor
  · intro h c hc z
    exact h c (List.mem_reverse.mpr hc) (decide_eq_true z)
  · intro h c hc z
    exact h c (List.mem_reverse.mp hc) (of_decide_eq_true z)
theorem int_sub_len2 {ys : List Int} : ∀ {R : List Int}, ys.Nodup → (∀ x ∈ ys, x ∈ R) → ys.length ≤ R.length := fun {R} nd h => by
  induction R generalizing ys with
  | nil =>
    cases ys with
    | nil => exact Nat.le_refl _
    | cons a l => exact absurd (h a List.mem_cons_self) (by simp)
  | cons a R ih =>
    have := ih (ys := ys.erase a) (nd.erase a) fun x hx => by
      have h2 := (List.Nodup.mem_erase_iff nd).mp hx
      rcases List.mem_cons.mp (h x h2.2) with e | e
      · exact absurd e h2.1
      · exact e
    have h3 : ys.length ≤ (ys.erase a).length + 1 := by
      by_cases m : a ∈ ys
      · rw [List.length_erase_of_mem m]
        omega
      · rw [List.erase_of_not_mem m]
        omega
    rw [List.length_cons]
    omega
theorem filter_lt {α : Type} {p : α → Bool} {x : α} : ∀ {l : List α}, x ∈ l → ¬ p x = true → (l.filter p).length < l.length
  | a :: l, h, n => by
    rcases List.mem_cons.mp h with e | m
    · rw [← e, List.filter_cons_of_neg n]
      exact Nat.lt_succ_of_le (List.length_filter_le _ _)
    · have ih := filter_lt m n
      by_cases c : p a = true
      · rw [List.filter_cons_of_pos c, List.length_cons, List.length_cons]
        omega
      · rw [List.filter_cons_of_neg c, List.length_cons]
        omega
theorem lastIn_in {R : List Int} {L : List Cl} {c : Cl} (h : lastIn R L = some c) : c.1 ∈ R := by
  have := List.find?_some h
  exact of_decide_eq_true this
/-- the last call of a set is the last one of each subset that holds its room -/
theorem lastIn_sub {R : List Int} {c : Cl} (L : List Cl) : ∀ {Q : List Int}, lastIn R L = some c → c.1 ∈ Q → (∀ z ∈ Q, z ∈ R) → lastIn Q L = some c := by
  refine snoc_ind (M := fun L => ∀ {Q : List Int}, lastIn R L = some c → c.1 ∈ Q → (∀ z ∈ Q, z ∈ R) → lastIn Q L = some c) (fun {Q} h => by cases h) (fun S d ih {Q} h hc sub => ?_) L
  rw [lastIn_snoc] at h ⊢
  by_cases m : d.1 ∈ R
  · rw [if_pos m] at h
    cases h
    rw [if_pos hc]
  · rw [if_neg m] at h
    rw [if_neg fun z => m (sub _ z)]
    exact ih h hc sub

/-! ### parting paths: theory (after FM0) -/
/-- the tuple is a path by the doors D -/
def Chn (D : List Pr) (ps : List Int) : Prop := ∀ i, i + 1 < ps.length → Adj D (ps.getD i 0) (ps.getD (i + 1) 0)
def IsP' (D : List Pr) (ps : List Int) : Prop := ps ≠ [] ∧ ps.Nodup ∧ Chn D ps
def bitsI (D : List Pr) (ps : List Int) (i : Nat) : List Bool := (List.range i).map fun k => decide (ps.getD (k + 1) 0 ∈ nearF (ps.getD k 0) D)
theorem bitsI_all {r : Nat} {D : List Pr} {ps : List Int} (drs : Drs r D) : (bitsI D ps (ps.length - 1)).all id = true ↔ Chn D ps := by
  unfold bitsI Chn
  rw [List.all_map, List.all_eq_true]
  constructor
  · intro h i hi
    have := h i (List.mem_range.mpr (by omega))
    exact (mem_nearF fun d hd => (drs.ok d hd).2.1).mp (of_decide_eq_true this)
  · intro h i hi
    have := List.mem_range.mp hi
    exact decide_eq_true ((mem_nearF fun d hd => (drs.ok d hd).2.1).mpr (h i (by omega)))

/-! ### crossed pairs: theory (after FM0) -/
theorem Pth.pre {D : List Pr} {R : List Int} {s x b : Int} {p : List Int} (h : Pth D R s x p) (m : b ∈ p) : ∃ q, Pth D R s b q ∧ q.Sublist p := by
  induction h with
  | base h =>
    rw [List.mem_singleton.mp m]
    exact ⟨[s], .base h, List.Sublist.refl _⟩
  | step k ab hb ih =>
    rcases List.mem_append.mp m with m | m
    · obtain ⟨q, h1, h2⟩ := ih m
      exact ⟨q, h1, h2.trans (List.sublist_append_left _ _)⟩
    · rw [List.mem_singleton.mp m]
      exact ⟨_, .step k ab hb, List.Sublist.refl _⟩
theorem Pth.short {D : List Pr} {R : List Int} {s x : Int} {p : List Int} (h : Pth D R s x p) : ∃ q, Pth D R s x q ∧ q.Nodup ∧ (q = p ∨ q.length < p.length) := by
  induction h with
  | base h => exact ⟨[s], .base h, by simp, .inl rfl⟩
  | step k ab hb ih =>
    rename_i a b p
    obtain ⟨q, h1, h2, h3⟩ := ih
    by_cases m : b ∈ q
    · obtain ⟨q2, k1, k2⟩ := h1.pre m
      refine ⟨q2, k1, h2.sublist k2, .inr ?_⟩
      have := k2.length_le
      rw [List.length_append, List.length_singleton]
      rcases h3 with e | e
      · rw [e] at this; omega
      · omega
    · refine ⟨q ++ [b], .step h1 ab hb, List.nodup_append.mpr ⟨h2, by simp, fun y hy z hz e => ?_⟩, ?_⟩
      · rw [List.mem_singleton.mp hz] at e
        rw [e] at hy
        exact m hy
      · rcases h3 with e | e
        · exact .inl (by rw [e])
        · refine .inr ?_
          rw [List.length_append, List.length_append]
          exact Nat.add_lt_add_right e _
theorem Lst.nodup {D : List Pr} {R : List Int} {s x : Int} {p : List Int} (h : Lst D R s x p) : p.Nodup := by
  obtain ⟨q, h1, h2, h3⟩ := h.1.short
  rcases h3 with e | e
  · rw [← e]; exact h2
  · have := sle_len (h.2 q h1)
    omega
theorem Pth.ends {D : List Pr} {R : List Int} {s x : Int} {p : List Int} (h : Pth D R s x p) : s ∈ p ∧ x ∈ p ∧ p.getD (p.length - 1) 0 = x := by
  induction h with
  | base h => exact ⟨List.mem_cons_self, List.mem_cons_self, rfl⟩
  | step k ab hb ih =>
    refine ⟨List.mem_append.mpr (.inl ih.1), List.mem_append.mpr (.inr List.mem_cons_self), ?_⟩
    rw [List.length_append, List.length_singleton, Nat.add_sub_cancel, List.getD_eq_getElem?_getD, List.getElem?_append_right (Nat.le_refl _), Nat.sub_self]
    rfl
theorem Pth.chn {D : List Pr} {R : List Int} {s x : Int} {p : List Int} (h : Pth D R s x p) : Chn D p := by
  induction h with
  | base h => intro i hi; exact absurd hi (by show ¬ i + 1 < 1; omega)
  | step k ab hb ih =>
    rename_i a b p
    intro i hi
    rw [List.length_append, List.length_singleton] at hi
    have g : ∀ j, j < p.length → (p ++ [b]).getD j 0 = p.getD j 0 := fun j hj => by
      rw [List.getD_eq_getElem?_getD, List.getElem?_append_left hj, List.getD_eq_getElem?_getD]
    by_cases e : i + 1 = p.length
    · have e2 : (p ++ [b]).getD (i + 1) 0 = b := by
        rw [List.getD_eq_getElem?_getD, e, List.getElem?_append_right (Nat.le_refl _), Nat.sub_self]
        rfl
      have e3 := k.ends.2.2
      rw [show p.length - 1 = i by omega] at e3
      rw [e2, g i (by omega), e3]
      exact ab
    · rw [g i (by omega), g (i + 1) (by omega)]
      exact ih i (by omega)
theorem place_lt {L : List Cl} {x : Int} {i : Nat} (h : placeF L x = some i) : i < L.length := by
  have := List.mem_of_find?_eq_some h
  simpa using this
theorem placeI_lt (L : List Cl) (x : Int) : placeI L x < L.length := by
  unfold placeI
  cases h : placeF L x with
  | none => show (-1 : Int) < _; omega
  | some i => have := place_lt h; show (i : Int) < _; omega
theorem placeI_snoc (S : List Cl) (c : Cl) (x : Int) : placeI (S ++ [c]) x = if c.1 = x then (S.length : Int) else placeI S x := by
  unfold placeI
  rw [placeF_snoc]
  by_cases h : c.1 = x
  · rw [if_pos h, if_pos h]
  · rw [if_neg h, if_neg h]
theorem last_top {ps : List Int} {x : Int} (hx : x ∈ ps) (L : List Cl) : (∀ z ∈ ps, placeI L z ≤ placeI L x) → lastIn ps L = lastIn [x] L := by
  refine snoc_ind (M := fun L => (∀ z ∈ ps, placeI L z ≤ placeI L x) → lastIn ps L = lastIn [x] L) (fun _ => rfl) (fun S c ih h => ?_) L
  rw [lastIn_snoc, lastIn_snoc]
  by_cases e : c.1 = x
  · rw [if_pos (by rw [e]; exact hx), if_pos (by rw [e]; exact List.mem_cons_self)]
  · rw [if_neg (show ¬ c.1 ∈ [x] from fun z => e (List.mem_singleton.mp z))]
    by_cases m : c.1 ∈ ps
    · have h1 := h c.1 m
      rw [placeI_snoc, placeI_snoc, if_pos rfl, if_neg e] at h1
      have := placeI_lt S x
      omega
    · rw [if_neg m]
      refine ih fun z hz => ?_
      have h1 := h z hz
      rw [placeI_snoc, placeI_snoc, if_neg (show ¬ c.1 = z from fun q => m (by rw [q]; exact hz)), if_neg e] at h1
      exact h1
theorem cross_of {A B : List Cl} {rs : List Int} {d : Pr} (h : d ∈ crossF A B rs) : d.1 ∈ rs ∧ d.2 ∈ rs ∧ crossB A B d.1 d.2 = true := by
  obtain ⟨x, hx, hd⟩ := List.mem_flatMap.mp h
  obtain ⟨y, hy, rfl⟩ := List.mem_map.mp hd
  obtain ⟨h1, h2⟩ := List.mem_filter.mp hy
  exact ⟨hx, h1, h2⟩
theorem part_of {A B : List Cl} {rs : List Int} {r : Nat} {D : List Pr} {d : Pr} {q : List Int} (hd : d ∈ crossF A B rs) (hr : ∀ x ∈ rs, 0 ≤ x ∧ x < r) (eq : ∀ k : Nat, k < r → wordL A k = wordL B k) (hc : Cnd A B r D d q) : IsP' D q ∧ wordP A q ≠ wordP B q := by
  obtain ⟨m1, m2, cb⟩ := cross_of hd
  have core : ∀ s x, Lst D (hallF r A B d.1 d.2) s x q → d.1 ∈ q → d.2 ∈ q → IsP' D q ∧ wordP A q ≠ wordP B q := fun s x hl i1 i2 => by
    have inH : ∀ z ∈ q, placeI A z ≤ placeI A d.1 ∧ placeI B z ≤ placeI B d.2 := fun z hz => by
      have h := (List.mem_filter.mp (hl.1.inR z hz)).2
      rw [Bool.and_eq_true, decide_eq_true_iff, decide_eq_true_iff] at h
      exact h
    refine ⟨⟨?_, hl.nodup, hl.1.chn⟩, ?_⟩
    · intro e
      rw [e] at i1
      cases i1
    · unfold wordP
      rw [last_top i1 A fun z hz => (inH z hz).1, last_top i2 B fun z hz => (inH z hz).2]
      show wordL A d.1 ≠ wordL B d.2
      have b2 := hr d.2 m2
      have e := eq d.2.toNat (by omega)
      rw [show ((d.2.toNat : Nat) : Int) = d.2 by omega] at e
      rw [← e]
      unfold crossB at cb
      rw [Bool.and_eq_true, decide_eq_true_iff] at cb
      exact cb.1
  rcases hc with h | h
  · exact core _ _ h h.1.ends.1 h.1.ends.2.1
  · exact core _ _ h h.1.ends.2.1 h.1.ends.1

/-! ### forms: the theory -/
/-- ascending, the same rooms -/
def insI (x : Int) : List Int → List Int
  | [] => [x]
  | y :: ys => if x < y then x :: y :: ys else if x = y then y :: ys else y :: insI x ys
theorem insI_mem (x : Int) : ∀ (ys : List Int) (z : Int), z ∈ insI x ys ↔ z = x ∨ z ∈ ys
  | [], z => by simp [insI]
  | y :: ys, z => by
    unfold insI
    split
    · rw [List.mem_cons]
    · split
      · rename_i h
        rw [h, List.mem_cons]
        exact ⟨fun q => .inr q, fun q => q.elim (fun e => .inl e) id⟩
      · rw [List.mem_cons, insI_mem x ys z, List.mem_cons]
        exact ⟨fun q => q.elim (fun e => .inr (.inl e)) fun q => q.elim .inl fun q => .inr (.inr q), fun q => q.elim (fun e => .inr (.inl e)) fun q => q.elim .inl fun q => .inr (.inr q)⟩
theorem insI_up (x : Int) : ∀ ys : List Int, Up ys → Up (insI x ys)
  | [], _ => List.pairwise_singleton _ _
  | y :: ys, h => by
    obtain ⟨h1, h2⟩ := List.pairwise_cons.mp h
    unfold insI
    split
    · rename_i c
      refine List.pairwise_cons.mpr ⟨fun z hz => ?_, h⟩
      rcases List.mem_cons.mp hz with e | m
      · omega
      · have := h1 z m
        omega
    · split
      · exact h
      · refine List.pairwise_cons.mpr ⟨fun z hz => ?_, insI_up x ys h2⟩
        rcases (insI_mem x ys z).mp hz with e | m
        · omega
        · exact h1 z m
def upF (R : List Int) : List Int := R.foldr insI []
theorem upF_mem (R : List Int) (x : Int) : x ∈ upF R ↔ x ∈ R := by
  induction R with
  | nil => exact Iff.rfl
  | cons y R ih =>
    show x ∈ insI y (upF R) ↔ _
    rw [insI_mem, ih, List.mem_cons]
theorem upF_up (R : List Int) : Up (upF R) := by
  induction R with
  | nil => exact List.Pairwise.nil
  | cons y R ih => exact insI_up y _ ih
theorem upF_eq {R ys : List Int} (h : Up ys) (m : ∀ x, x ∈ ys ↔ x ∈ R) : upF R = ys := up_uniq (upF_up R) h fun x => (upF_mem R x).trans (m x).symm
theorem up_nd {ys : List Int} (h : Up ys) : ys.Nodup := List.Pairwise.imp (fun {a b} (h : a < b) => by omega) h
open Classical in
theorem pc_ex (D : List Pr) (R : List Int) (s : Int) : ∃ ys, Pc D R s ys := by
  refine ⟨(upF R).filter fun x => decide (Rch D R s x), (upF_up R).filter _, fun x => ?_⟩
  rw [List.mem_filter, decide_eq_true_iff, upF_mem]
  exact ⟨fun h => h.2, fun h => ⟨h.mem, h⟩⟩
theorem pcs_go (D : List Pr) (R : List Int) : ∀ (n : Nat) (P : List (List Int)) (Lf : List Int), Lf.length ≤ n → PInv D R P Lf → ∃ L, Pcs D R L
  | _, P, [], _, h => ⟨P, h.done⟩
  | 0, _, _ :: _, h, _ => by cases h
  | n + 1, P, l0 :: Lf, hn, h => by
    obtain ⟨ys, hy⟩ := pc_ex D (l0 :: Lf) l0
    refine pcs_go D R n _ _ ?_ (h.step hy)
    have m : l0 ∈ ys := hy.self List.mem_cons_self
    rw [List.filter_cons_of_neg (by simpa using m)]
    exact Nat.le_trans (List.length_filter_le _ _) (Nat.le_of_succ_le_succ hn)
theorem pcs_ex (D : List Pr) (R : List Int) : ∃ L, Pcs D R L := pcs_go D R _ [] (upF R) (Nat.le_refl _) (.start (upF_mem R) (List.Pairwise.imp (fun {a b} (h : a < b) => Int.le_of_lt h) (upF_up R)))
open Classical in
noncomputable def pcsF (D : List Pr) (R : List Int) : List (List Int) := choose (pcs_ex D R)
theorem pcsF_spec (D : List Pr) (R : List Int) : Pcs D R (pcsF D R) := Classical.choose_spec (pcs_ex D R)
theorem pcsF_eq {D : List Pr} {R : List Int} {L : List (List Int)} (h : Pcs D R L) : pcsF D R = L := (pcsF_spec D R).uniq h fun _ => Iff.rfl
theorem pcsF_congr {D : List Pr} {R S : List Int} (h : ∀ x, x ∈ R ↔ x ∈ S) : pcsF D R = pcsF D S := (pcsF_spec D R).uniq (pcsF_spec D S) h
theorem pcsF_nil (D : List Pr) : pcsF D [] = [] := pcsF_eq (Pcs.nil D)
/-- a set of rooms that hangs together -/
def Part (D : List Pr) (Q : List Int) : Prop := Up Q ∧ ∃ s ∈ Q, ∀ x ∈ Q, Rch D Q s x
theorem Pc.part {D : List Pr} {R : List Int} {s : Int} {ys : List Int} (h : Pc D R s ys) (m : s ∈ R) : Part D ys := by
  refine ⟨h.1, s, h.self m, fun x hx => ?_⟩
  have key : ∀ x, Rch D R s x → Rch D ys s x := fun x k => by
    induction k with
    | base k => exact .base (h.self m)
    | step k a b ih => exact ih.step a ((h.2 _).mpr (k.step a b))
  exact key x ((h.2 x).mp hx)
theorem Pcs.part {D : List Pr} {R : List Int} {P : List (List Int)} (h : Pcs D R P) {ys : List Int} (m : ys ∈ P) : Part D ys := by
  obtain ⟨s, hs, hc⟩ := h.pc ys m
  exact hc.part hs
theorem Pcs.sub_of {D : List Pr} {R : List Int} {P : List (List Int)} (h : Pcs D R P) {ys : List Int} (m : ys ∈ P) : ∀ x ∈ ys, x ∈ R := fun x hx => by
  obtain ⟨s, hs, hc⟩ := h.pc ys m
  exact ((hc.2 x).mp hx).mem
theorem Pcs.ne {D : List Pr} {R : List Int} {P : List (List Int)} (h : Pcs D R P) {ys : List Int} (m : ys ∈ P) : ys ≠ [] := fun e => by
  obtain ⟨s, hs, hc⟩ := h.pc ys m
  have := hc.self hs
  rw [e] at this
  cases this
/-- a part lies in one piece -/
theorem Pcs.within {D : List Pr} {R : List Int} {P : List (List Int)} (h : Pcs D R P) {Q : List Int} (hQ : Part D Q) (sub : ∀ x ∈ Q, x ∈ R) {ys : List Int} (m : ys ∈ P) {x : Int} (hx : x ∈ Q) (hy : x ∈ ys) : ∀ z ∈ Q, z ∈ ys := fun z hz => by
  obtain ⟨_, s, hs, hr⟩ := hQ
  obtain ⟨t, ht, hc⟩ := h.pc ys m
  have r1 := (hr x hx).symm.trans (hr z hz)
  exact (hc.2 z).mpr (((hc.2 x).mp hy).trans (r1.mono sub))
theorem Pcs.apart {D : List Pr} {R : List Int} {P : List (List Int)} (h : Pcs D R P) {ys zs : List Int} (m : ys ∈ P) (k : zs ∈ P) {x : Int} (hy : x ∈ ys) (hz : x ∈ zs) : ys = zs := by
  obtain ⟨s, hs, hc⟩ := h.pc ys m
  obtain ⟨t, ht, hd⟩ := h.pc zs k
  exact (hc.of hy).uniq (hd.of hz)
theorem Pcs.len {D : List Pr} {R : List Int} {P : List (List Int)} (h : Pcs D R P) : P.length ≤ R.length := by
  have nd : (P.map hdI).Nodup := List.pairwise_map.mpr (List.Pairwise.imp (fun {a b} (q : hdI a < hdI b) => by omega) h.asc)
  have := int_sub_len2 nd fun x hx => by
    obtain ⟨ys, hy, rfl⟩ := List.mem_map.mp hx
    obtain ⟨s, hs, hc⟩ := h.pc ys hy
    exact ((hc.2 _).mp (hdI_mem (hc.self hs))).mem
  rw [List.length_map] at this
  exact this
/-- the keepers of a part with a word, the top room first -/
noncomputable def keepL (D : List Pr) (L : List Cl) : Nat → List Int → List Int
  | 0, _ => []
  | n + 1, P => match lastIn P L with
    | none => []
    | some c => c.1 :: (pcsF D (P.filter fun x => decide (x ≠ c.1))).flatMap fun Q => if wordP L Q = some c.2 then keepL D L n Q else []
theorem keepL_sub {D : List Pr} {L : List Cl} : ∀ (n : Nat) (P : List Int) (x : Int), x ∈ keepL D L n P → x ∈ P
  | 0, _, _, h => by cases h
  | n + 1, P, x, h => by
    unfold keepL at h
    split at h
    · cases h
    · rename_i c e
      rcases List.mem_cons.mp h with q | q
      · rw [q]
        exact (lastIn_in e)
      · obtain ⟨Q, hQ, hx⟩ := List.mem_flatMap.mp q
        split at hx
        · have := (pcsF_spec D _).sub_of hQ x (keepL_sub n Q x hx)
          exact (List.mem_filter.mp this).1
        · cases hx
/-- a keeper: each part within that holds the room has the word of the part -/
theorem keepL_iff {D : List Pr} {L : List Cl} : ∀ (n : Nat) (P : List Int) (w : Str), P.length ≤ n → Part D P → wordP L P = some w → ∀ x, x ∈ keepL D L n P ↔ x ∈ P ∧ ∀ Q, Part D Q → x ∈ Q → (∀ z ∈ Q, z ∈ P) → wordP L Q = some w
  | 0, P, w, hn, hp, _, x => by
    obtain ⟨_, s, hs, _⟩ := hp
    have : P = [] := List.length_eq_zero_iff.mp (Nat.le_zero.mp hn)
    rw [this] at hs
    cases hs
  | n + 1, P, w, hn, hp, hw, x => by
    obtain ⟨c, e, ec⟩ : ∃ c, lastIn P L = some c ∧ c.2 = w := by
      unfold wordP at hw
      cases e : lastIn P L with
      | none => rw [e] at hw; cases hw
      | some c => rw [e] at hw; exact ⟨c, rfl, Option.some.inj hw⟩
    subst ec
    have cP := lastIn_in e
    have hs := pcsF_spec D (P.filter fun x => decide (x ≠ c.1))
    have lt : ∀ Q ∈ pcsF D (P.filter fun x => decide (x ≠ c.1)), Q.length ≤ n := fun Q hQ => by
      have nd := up_nd (hs.part hQ).1
      have h1 := int_sub_len2 nd (hs.sub_of hQ)
      have h2 : (P.filter fun x => decide (x ≠ c.1)).length < P.length := filter_lt cP (by simp)
      omega
    have topIn : ∀ Q : List Int, c.1 ∈ Q → (∀ z ∈ Q, z ∈ P) → wordP L Q = some c.2 := fun Q hc sub => by
      unfold wordP
      rw [lastIn_sub L e hc sub]
      rfl
    unfold keepL
    rw [e]
    show x ∈ c.1 :: _ ↔ _
    rw [List.mem_cons]
    constructor
    · rintro (q | q)
      · rw [q]
        exact ⟨cP, fun Q _ hc sub => topIn Q hc sub⟩
      · obtain ⟨Q, hQ, hx⟩ := List.mem_flatMap.mp q
        split at hx
        · rename_i hwq
          obtain ⟨h1, h2⟩ := (keepL_iff n Q c.2 (lt Q hQ) (hs.part hQ) hwq x).mp hx
          refine ⟨(List.mem_filter.mp (hs.sub_of hQ x h1)).1, fun S hS xS sub => ?_⟩
          by_cases m : c.1 ∈ S
          · exact topIn S m sub
          · refine h2 S hS xS (hs.within hS (fun z hz => List.mem_filter.mpr ⟨sub z hz, decide_eq_true fun z' => m (by rw [← z']; exact hz)⟩) hQ xS h1)
        · cases hx
    · rintro ⟨h1, h2⟩
      by_cases q : x = c.1
      · exact .inl q
      · refine .inr ?_
        have xf : x ∈ P.filter fun x => decide (x ≠ c.1) := List.mem_filter.mpr ⟨h1, decide_eq_true q⟩
        obtain ⟨Q, hQ, xQ⟩ := hs.cov x xf
        have sub : ∀ z ∈ Q, z ∈ P := fun z hz => (List.mem_filter.mp (hs.sub_of hQ z hz)).1
        have hwq := h2 Q (hs.part hQ) xQ sub
        refine List.mem_flatMap.mpr ⟨Q, hQ, ?_⟩
        rw [if_pos hwq]
        exact (keepL_iff n Q c.2 (lt Q hQ) (hs.part hQ) hwq x).mpr ⟨xQ, fun S hS xS sb => h2 S hS xS fun z hz => sub z (sb z hz)⟩
/-- blocks -/
inductive Blk where
  | mk (w : Option Str) (t : List Int) (i : List Blk)
def Blk.w : Blk → Option Str
  | .mk w _ _ => w
def Blk.t : Blk → List Int
  | .mk _ t _ => t
def Blk.i : Blk → List Blk
  | .mk _ _ i => i
/-- the blocks of some rooms -/
noncomputable def blkF (D : List Pr) (L : List Cl) : Nat → List Int → List Blk
  | 0, _ => []
  | n + 1, R => (pcsF D R).map fun P => match wordP L P with
    | none => .mk none P []
    | some w => .mk (some w) (upF (keepL D L 12 P)) (blkF D L n (P.filter fun x => decide (x ∉ keepL D L 12 P)))
/-- two logs leave the same words in the parts of some rooms -/
def AlkP (D : List Pr) (R : List Int) (L M : List Cl) : Prop := ∀ Q, Part D Q → (∀ z ∈ Q, z ∈ R) → wordP L Q = wordP M Q
theorem keep_alk {D : List Pr} {L M : List Cl} {P : List Int} {w : Str} (hn : P.length ≤ 12) (hp : Part D P) (h : AlkP D P L M) (hw : wordP L P = some w) : ∀ x, x ∈ keepL D L 12 P ↔ x ∈ keepL D M 12 P := fun x => by
  have hm := (h P hp fun _ q => q).symm.trans hw
  rw [keepL_iff 12 P w hn hp hw x, keepL_iff 12 P w hn hp hm x]
  exact ⟨fun ⟨a, b⟩ => ⟨a, fun Q hQ xQ sub => (h Q hQ sub).symm.trans (b Q hQ xQ sub)⟩, fun ⟨a, b⟩ => ⟨a, fun Q hQ xQ sub => (h Q hQ sub).trans (b Q hQ xQ sub)⟩⟩
theorem blkF_alk {D : List Pr} {L M : List Cl} : ∀ (n : Nat) (R : List Int), R.length ≤ 12 → AlkP D R L M → blkF D L n R = blkF D M n R
  | 0, _, _, _ => rfl
  | n + 1, R, hR, h => by
    unfold blkF
    refine List.map_congr_left fun P hP => ?_
    have hs := pcsF_spec D R
    have sub := hs.sub_of hP
    have part := hs.part hP
    have pl : P.length ≤ 12 := Nat.le_trans (int_sub_len2 (up_nd part.1) sub) hR
    have hPa : AlkP D P L M := fun Q hQ sb => h Q hQ fun z hz => sub z (sb z hz)
    rw [← hPa P part fun _ q => q]
    cases e : wordP L P with
    | none => rfl
    | some w =>
      have km := keep_alk pl part hPa e
      have e1 : upF (keepL D L 12 P) = upF (keepL D M 12 P) := upF_eq (upF_up _) fun x => (upF_mem _ x).trans (km x).symm
      have e2 : (P.filter fun x => decide (x ∉ keepL D L 12 P)) = P.filter fun x => decide (x ∉ keepL D M 12 P) := List.filter_congr fun x _ => by
        rw [decide_eq_decide]
        exact not_congr (km x)
      show Blk.mk _ _ _ = Blk.mk _ _ _
      rw [e1, e2]
      rw [blkF_alk n _ (Nat.le_trans (List.length_filter_le _ _) pl) fun Q hQ sb => hPa Q hQ fun z hz => (List.mem_filter.mp (sb z hz)).1]

/-! ### the plain log of a form -/
theorem wordP_app (A B : List Cl) (Q : List Int) : wordP (A ++ B) Q = (wordP B Q).or (wordP A Q) := by
  refine snoc_ind (M := fun B => wordP (A ++ B) Q = (wordP B Q).or (wordP A Q)) ?_ (fun S c ih => ?_) B
  · rw [List.append_nil]
    rfl
  · rw [← List.append_assoc, wordP_snoc, wordP_snoc, ih]
    split <;> rfl
theorem lastIn_cons (R : List Int) (c : Cl) (S : List Cl) : lastIn R (c :: S) = match lastIn R S with
    | some d => some d
    | none => if c.1 ∈ R then some c else none := by
  unfold lastIn
  rw [List.reverse_cons, List.find?_append]
  cases e : S.reverse.find? (fun c => decide (c.1 ∈ R)) with
  | some d => rfl
  | none =>
    show List.find? (fun c : Cl => decide (c.1 ∈ R)) [c] = if c.1 ∈ R then some c else none
    by_cases h : c.1 ∈ R
    · rw [List.find?_cons_of_pos (by simp [h]), if_pos h]
    · rw [List.find?_cons_of_neg (by simp [h]), if_neg h]
      rfl
theorem lastIn_lastF (R : List Int) : ∀ S : List Cl, lastIn R (lastF S) = lastIn R S
  | [] => rfl
  | c :: S => by
    have ih := lastIn_lastF R S
    show lastIn R (if c.1 ∈ S.map (·.1) then lastF S else c :: lastF S) = _
    by_cases h : c.1 ∈ S.map (·.1)
    · rw [if_pos h, ih, lastIn_cons]
      cases e : lastIn R S with
      | some d => rfl
      | none =>
        obtain ⟨d, hd, ed⟩ := List.mem_map.mp h
        have n := lastIn_none.mp e d hd
        rw [ed] at n
        simp only [if_neg n]
    · rw [if_neg h, lastIn_cons, lastIn_cons, ih]
theorem wordP_last (L : List Cl) (ps : List Int) : wordP (lastF L) ps = wordP L ps := by
  unfold wordP
  rw [lastIn_lastF]
theorem wordP_out {A : List Cl} {Q : List Int} (h : ∀ c ∈ A, c.1 ∉ Q) : wordP A Q = none := by
  unfold wordP
  rw [lastIn_none.mpr h]
  rfl
theorem wordP_none {A : List Cl} {Q : List Int} (h : wordP A Q = none) : ∀ c ∈ A, c.1 ∉ Q := by
  unfold wordP at h
  cases e : lastIn Q A with
  | none => exact lastIn_none.mp e
  | some c => rw [e] at h; cases h
theorem wordP_sub {A : List Cl} {Q R : List Int} (h : wordP A R = none) (sub : ∀ z ∈ Q, z ∈ R) : wordP A Q = none := wordP_out fun c hc z => wordP_none h c hc (sub _ z)
theorem wordP_flat {α : Type} {g : α → List Cl} {Q : List Int} : ∀ {l : List α} {a : α}, a ∈ l → (∀ b ∈ l, b ≠ a → ∀ c ∈ g b, c.1 ∉ Q) → wordP (l.flatMap g) Q = wordP (g a) Q
  | b :: l, a, m, h => by
    rw [List.flatMap_cons, wordP_app]
    by_cases ml : a ∈ l
    · rw [wordP_flat ml fun b hb => h b (List.mem_cons_of_mem _ hb)]
      by_cases e : b = a
      · rw [e]
        cases wordP (g a) Q <;> rfl
      · rw [wordP_out (h b List.mem_cons_self e)]
        cases wordP (g a) Q <;> rfl
    · rcases List.mem_cons.mp m with e | m
      · subst e
        rw [wordP_out (A := l.flatMap g) fun c hc => ?_]
        · rfl
        · obtain ⟨d, hd, hc⟩ := List.mem_flatMap.mp hc
          exact h d (List.mem_cons_of_mem _ hd) (fun z => ml (by rw [← z]; exact hd)) c hc
      · exact absurd m ml
theorem wordP_const {T : List Int} {w : Str} {Q : List Int} {x : Int} (hx : x ∈ T) (hq : x ∈ Q) : wordP (T.map fun x => (x, w)) Q = some w := by
  cases e : wordP (T.map fun x => (x, w)) Q with
  | none => exact absurd hq (wordP_none e (x, w) (List.mem_map.mpr ⟨x, hx, rfl⟩))
  | some v =>
    unfold wordP at e
    cases e2 : lastIn Q (T.map fun x => (x, w)) with
    | none => rw [e2] at e; cases e
    | some c =>
      rw [e2] at e
      have hm := List.mem_reverse.mp (List.mem_of_find?_eq_some e2)
      obtain ⟨y, _, ey⟩ := List.mem_map.mp hm
      subst ey
      exact e.symm
def plainF : Nat → List Blk → List Cl
  | 0, _ => []
  | n + 1, bs => bs.flatMap fun b => match b.w with
    | none => []
    | some w => plainF n b.i ++ b.t.map fun x => (x, w)
/-- the block of a piece -/
noncomputable def blkP (D : List Pr) (L : List Cl) (n : Nat) (P : List Int) : Blk := match wordP L P with
  | none => .mk none P []
  | some w => .mk (some w) (upF (keepL D L 12 P)) (blkF D L n (P.filter fun x => decide (x ∉ keepL D L 12 P)))
theorem blkF_succ (D : List Pr) (L : List Cl) (n : Nat) (R : List Int) : blkF D L (n + 1) R = (pcsF D R).map (blkP D L n) := rfl
def plainB (n : Nat) (b : Blk) : List Cl := match b.w with
  | none => []
  | some w => plainF n b.i ++ b.t.map fun x => (x, w)
theorem plainF_succ (n : Nat) (bs : List Blk) : plainF (n + 1) bs = bs.flatMap (plainB n) := rfl
theorem keepL_ne {D : List Pr} {L : List Cl} {n : Nat} {P : List Int} {w : Str} (h : wordP L P = some w) : ∃ x ∈ P, x ∈ keepL D L (n + 1) P := by
  unfold wordP at h
  unfold keepL
  cases e : lastIn P L with
  | none => rw [e] at h; cases h
  | some c => exact ⟨c.1, lastIn_in e, List.mem_cons_self⟩
theorem plain_in {D : List Pr} {L : List Cl} : ∀ (n m : Nat) (R : List Int), ∀ c ∈ plainF n (blkF D L m R), c.1 ∈ R
  | 0, _, _, _, h => by cases h
  | n + 1, 0, R, c, h => by cases h
  | n + 1, m + 1, R, c, h => by
    rw [plainF_succ, blkF_succ] at h
    obtain ⟨b, hb, hc⟩ := List.mem_flatMap.mp h
    obtain ⟨P, hP, rfl⟩ := List.mem_map.mp hb
    refine (pcsF_spec D R).sub_of hP _ ?_
    unfold plainB blkP at hc
    cases e : wordP L P with
    | none =>
      rw [e] at hc
      cases hc
    | some w =>
      rw [e] at hc
      rcases List.mem_append.mp hc with q | q
      · exact (List.mem_filter.mp (plain_in n m _ c q)).1
      · obtain ⟨x, hx, rfl⟩ := List.mem_map.mp q
        exact keepL_sub _ _ _ ((upF_mem _ _).mp hx)
theorem plain_alk {D : List Pr} {L : List Cl} : ∀ (n m k : Nat) (R : List Int), R.length ≤ n → n ≤ m → n ≤ k → R.length ≤ 12 → AlkP D R (plainF m (blkF D L k R)) L
  | 0, _, _, R, hR, _, _, _, Q, hQ, sub => by
    obtain ⟨_, s, hs, _⟩ := hQ
    have := sub s hs
    rw [List.length_eq_zero_iff.mp (Nat.le_zero.mp hR)] at this
    cases this
  | n + 1, 0, _, _, _, h, _, _, _, _, _ => by cases h
  | n + 1, _ + 1, 0, _, _, _, h, _, _, _, _ => by cases h
  | n + 1, m + 1, k + 1, R, hR, hm, hk, h12, Q, hQ, sub => by
    have hs := pcsF_spec D R
    obtain ⟨_, s, sQ, hr⟩ := id hQ
    obtain ⟨P, hP, sP⟩ := hs.cov s (sub s sQ)
    have QP := hs.within hQ sub hP sQ sP
    have partP := hs.part hP
    have pl : P.length ≤ R.length := int_sub_len2 (up_nd partP.1) (hs.sub_of hP)
    have inP : ∀ P' : List Int, ∀ c ∈ plainB m (blkP D L k P'), c.1 ∈ P' := fun P' c hc => by
      unfold plainB blkP at hc
      cases e : wordP L P' with
      | none =>
        rw [e] at hc
        cases hc
      | some w =>
        rw [e] at hc
        rcases List.mem_append.mp hc with q | q
        · exact (List.mem_filter.mp (plain_in m k _ c q)).1
        · obtain ⟨x, hx, rfl⟩ := List.mem_map.mp q
          exact keepL_sub _ _ _ ((upF_mem _ _).mp hx)
    rw [plainF_succ, blkF_succ, List.flatMap_map, wordP_flat hP fun P' hP' ne c hc z => ne (hs.apart hP' hP (inP P' c hc) (QP _ z))]
    unfold plainB blkP
    cases e : wordP L P with
    | none => exact (wordP_sub e QP).symm
    | some w =>
      show wordP (plainF m (blkF D L k (P.filter fun x => decide (x ∉ keepL D L 12 P))) ++ (upF (keepL D L 12 P)).map fun x => (x, w)) Q = _
      rw [wordP_app]
      have ki := keepL_iff 12 P w (Nat.le_trans pl h12) partP e
      by_cases hx : ∃ x ∈ Q, x ∈ keepL D L 12 P
      · obtain ⟨x, xQ, xk⟩ := hx
        rw [wordP_const ((upF_mem _ _).mpr xk) xQ, ((ki x).mp xk).2 Q hQ xQ QP]
        rfl
      · have no : ∀ x ∈ Q, x ∉ keepL D L 12 P := fun x xQ xk => hx ⟨x, xQ, xk⟩
        rw [wordP_out (A := (upF (keepL D L 12 P)).map fun x => (x, w)) fun c hc z => by
          obtain ⟨y, hy, rfl⟩ := List.mem_map.mp hc
          exact no y z ((upF_mem _ _).mp hy)]
        obtain ⟨x, xP, xk⟩ := keepL_ne (D := D) (n := 11) e
        have lt : (P.filter fun x => decide (x ∉ keepL D L 12 P)).length < P.length := filter_lt xP (by simpa using xk)
        exact plain_alk n m k _ (by omega) (Nat.le_of_succ_le_succ hm) (Nat.le_of_succ_le_succ hk) (by omega) Q hQ fun z hz => List.mem_filter.mpr ⟨QP z hz, decide_eq_true (no z hz)⟩
theorem alk_app {D : List Pr} {R : List Int} {A B A' B' : List Cl} (h : AlkP D R A A') (k : AlkP D R B B') : AlkP D R (A ++ B) (A' ++ B') := fun Q hQ sub => by
  rw [wordP_app, wordP_app, h Q hQ sub, k Q hQ sub]
theorem alk_refl (D : List Pr) (R : List Int) (A : List Cl) : AlkP D R A A := fun _ _ _ => rfl
/-- the form of a house -/
noncomputable def formF (D : List Pr) (r : Nat) (L : List Cl) : List Blk := blkF D L 12 (rg r)
theorem form_alk {D : List Pr} {r : Nat} {L M : List Cl} (hr : r ≤ 12) (h : AlkP D (rg r) L M) : formF D r L = formF D r M := blkF_alk 12 _ (by rw [rg_len]; exact hr) h
theorem form_plain {D : List Pr} {r : Nat} {L : List Cl} (hr : r ≤ 12) : AlkP D (rg r) (plainF 12 (formF D r L)) L := plain_alk 12 12 12 _ (by rw [rg_len]; exact hr) (Nat.le_refl _) (Nat.le_refl _) (by rw [rg_len]; exact hr)
/-! ### forms in the heap -/
structure BlkV (H : Hp) (B : List V → List Blk → Prop) (v : V) (b : Blk) : Prop where
  ex : ∃ a t i xs, v = V.ref a ∧ H a = some (.tup [optS b.w, .ref t, .ref i]) ∧ H t = some (.tup (b.t.map V.int)) ∧ b.t.length ≤ 1000 ∧ H i = some (.tup xs) ∧ B xs b.i
def BlksAt (H : Hp) : Nat → List V → List Blk → Prop
  | 0, xs, bs => xs = [] ∧ bs = []
  | n + 1, xs, bs => xs.length ≤ 1000 ∧ Paired (BlkV H (BlksAt H n)) xs bs
theorem BlksAt.kt {H H' : Hp} (k : KT H H') : ∀ {n : Nat} {xs : List V} {bs : List Blk}, BlksAt H n xs bs → BlksAt H' n xs bs
  | 0, _, _, h => h
  | n + 1, xs, bs, h => ⟨h.1, Paired.mapP h.2 fun v b q => by
    obtain ⟨a, t, i, ys, e, h1, h2, h3, h4, h5⟩ := q.ex
    exact ⟨a, t, i, ys, e, k _ _ h1, k _ _ h2, h3, k _ _ h4, BlksAt.kt k h5⟩⟩
theorem BlksAt.len {H : Hp} : ∀ {n : Nat} {xs : List V} {bs : List Blk}, BlksAt H n xs bs → xs.length = bs.length
  | 0, _, _, h => by rw [h.1, h.2]; rfl
  | _ + 1, _, _, h => Paired.length h.2
/-- a form at a tuple -/
def FormAt (H : Hp) (n : Nat) (v : V) (bs : List Blk) : Prop := ∃ a xs, v = V.ref a ∧ H a = some (.tup xs) ∧ BlksAt H n xs bs
theorem FormAt.kt {H H' : Hp} {n : Nat} {v : V} {bs : List Blk} (h : FormAt H n v bs) (k : KT H H') : FormAt H' n v bs := by
  obtain ⟨a, xs, e, h1, h2⟩ := h
  exact ⟨a, xs, e, k _ _ h1, h2.kt k⟩
theorem blks_nil {H : Hp} {n : Nat} {a : Addr} (h : H a = some (.tup [])) : FormAt H n (.ref a) [] := by
  refine ⟨a, [], rfl, h, ?_⟩
  cases n with
  | zero => exact ⟨rfl, rfl⟩
  | succ n => exact ⟨Nat.zero_le _, Paired.nil⟩
theorem flat_optS (o : Option Str) : flat4 (optS o) = true := by cases o <;> rfl
theorem sm_ints {H : Hp} {n : Nat} {t u : Addr} {T : List Int} (h : H t = some (.tup (T.map V.int))) (k : H u = some (.tup (T.map V.int))) (l : T.length ≤ 1000) : Sm H (n + 1) (.ref t) (.ref u) := by
  refine .inr ⟨t, u, _, _, rfl, rfl, .inr ⟨h, k⟩, ?_, by rw [List.length_map]; omega⟩
  have : ∀ T : List Int, Paired (Sm H n) (T.map V.int) (T.map V.int) := fun T => by
    induction T with
    | nil => exact .nil
    | cons x T ih => exact .cons (Sm.flat rfl) ih
  exact this T
theorem sm_blks {H : Hp} : ∀ {n : Nat} {xs ys : List V} {bs : List Blk}, BlksAt H n xs bs → BlksAt H n ys bs → Paired (Sm H (2 * n)) xs ys
  | 0, _, _, _, h, k => by
    rw [h.1, k.1]
    exact .nil
  | n + 1, xs, ys, bs, h, k => by
    have go : ∀ {xs ys : List V} {bs : List Blk}, Paired (BlkV H (BlksAt H n)) xs bs → Paired (BlkV H (BlksAt H n)) ys bs → Paired (Sm H (2 * (n + 1))) xs ys := fun {xs ys bs} h k => by
      induction h generalizing ys with
      | nil =>
        cases k
        exact .nil
      | cons r _ ih =>
        cases k with
        | cons q t =>
          refine .cons ?_ (ih t)
          obtain ⟨a, t1, i, us, rfl, a1, a2, a3, a4, a5⟩ := r.ex
          obtain ⟨b, t2, j, vs, rfl, b1, b2, b3, b4, b5⟩ := q.ex
          refine .inr ⟨a, b, _, _, rfl, rfl, .inr ⟨a1, b1⟩, .cons (Sm.flat (flat_optS _)) (.cons (sm_ints a2 b2 a3) (.cons ?_ .nil)), by show 3 ≤ 100000; decide⟩
          refine .inr ⟨i, j, _, _, rfl, rfl, .inr ⟨a4, b4⟩, sm_blks a5 b5, ?_⟩
          cases n with
          | zero =>
            rw [a5.1]
            decide
          | succ n => exact Nat.le_trans a5.1 (by decide)
    exact go h.2 k.2
theorem sm_form {H : Hp} {v u : V} {bs : List Blk} (h : FormAt H 12 v bs) (k : FormAt H 12 u bs) : Sm H 25 v u := by
  obtain ⟨a, xs, rfl, h1, h2⟩ := h
  obtain ⟨b, ys, rfl, k1, k2⟩ := k
  exact .inr ⟨a, b, _, _, rfl, rfl, .inr ⟨h1, k1⟩, sm_blks h2 k2, Nat.le_trans h2.1 (by decide)⟩

/-! ### completeness: each parting path has a first path of a crossed pair that is no longer -/
theorem nat_least {P : Nat → Prop} (h : ∃ n, P n) : ∃ n, P n ∧ ∀ m, m < n → ¬ P m := by
  obtain ⟨n, hn⟩ := h
  induction n using Nat.strongRecOn with
  | _ n ih =>
    by_cases c : ∃ m, m < n ∧ P m
    · obtain ⟨m, hm, pm⟩ := c
      exact ih m hm pm
    · exact ⟨n, hn, fun m hm pm => c ⟨m, hm, pm⟩⟩
theorem lex_min : ∀ (n : Nat) (S : List Int → Prop), (∀ q, S q → q.length = n ∧ ∀ x ∈ q, 0 ≤ x) → (∃ q, S q) → ∃ q, S q ∧ ∀ q', S q' → q = q' ∨ ltL q q'
  | 0, S, h, ⟨q, hq⟩ => ⟨q, hq, fun q' hq' => .inl (by rw [List.length_eq_zero_iff.mp (h q hq).1, List.length_eq_zero_iff.mp (h q' hq').1])⟩
  | n + 1, S, h, ⟨q, hq⟩ => by
    have sp : ∀ q, S q → ∃ a t, q = a :: t ∧ 0 ≤ a := fun q hq => by
      obtain ⟨l, nn⟩ := h q hq
      cases q with
      | nil => cases l
      | cons a t => exact ⟨a, t, rfl, nn a List.mem_cons_self⟩
    obtain ⟨a0, t0, e0, _⟩ := sp q hq
    obtain ⟨m, ⟨a, t, hat, em⟩, mm⟩ := nat_least (P := fun m => ∃ (a : Int) (t : List Int), S (a :: t) ∧ a.toNat = m) ⟨a0.toNat, a0, t0, by rw [← e0]; exact hq, rfl⟩
    obtain ⟨t', ht', mt⟩ := lex_min n (fun t => S (a :: t)) (fun t ht => ⟨Nat.succ.inj (h _ ht).1, fun x hx => (h _ ht).2 x (List.mem_cons_of_mem _ hx)⟩) ⟨t, hat⟩
    refine ⟨a :: t', ht', fun q' hq' => ?_⟩
    obtain ⟨b, u, rfl, hb⟩ := sp q' hq'
    have ha : 0 ≤ a := (h _ hat).2 a List.mem_cons_self
    have nl : ¬ b.toNat < m := fun z => mm _ z ⟨b, u, hq', rfl⟩
    by_cases e : a = b
    · subst e
      rcases mt u hq' with e | e
      · exact .inl (by rw [e])
      · exact .inr (.inr ⟨rfl, e⟩)
    · exact .inr (.inl (by omega))
theorem slt_min (S : List Int → Prop) (nn : ∀ q, S q → ∀ x ∈ q, 0 ≤ x) (ex : ∃ q, S q) : ∃ q, S q ∧ ∀ q', S q' → sle q q' := by
  obtain ⟨q0, h0⟩ := ex
  obtain ⟨n, ⟨q1, h1, e1⟩, mn⟩ := nat_least (P := fun n => ∃ q, S q ∧ q.length = n) ⟨_, q0, h0, rfl⟩
  obtain ⟨q, ⟨hq, lq⟩, mq⟩ := lex_min n (fun q => S q ∧ q.length = n) (fun q h => ⟨h.2, nn q h.1⟩) ⟨q1, h1, e1⟩
  refine ⟨q, hq, fun q' hq' => ?_⟩
  have nl : ¬ q'.length < n := fun z => mn _ z ⟨q', hq', rfl⟩
  by_cases e : q'.length = n
  · rcases mq q' ⟨hq', e⟩ with z | z
    · exact .inl z
    · exact .inr (.inr ⟨by omega, z⟩)
  · exact .inr (.inl (by omega))
theorem Lst.ex {D : List Pr} {R : List Int} {s x : Int} {p : List Int} (nn : ∀ y ∈ R, 0 ≤ y) (h : Pth D R s x p) : ∃ q, Lst D R s x q ∧ sle q p := by
  obtain ⟨q, hq, mq⟩ := slt_min (Pth D R s x) (fun q hq y hy => nn y (hq.inR y hy)) ⟨p, h⟩
  exact ⟨q, ⟨hq, mq⟩, mq p h⟩
/-- a stretch of a walk is a path -/
theorem pth_cut {D : List Pr} {R ps : List Int} (ch : Chn D ps) (inR : ∀ x ∈ ps, x ∈ R) {i : Nat} : ∀ k, i + k < ps.length → Pth D R (ps.getD i 0) (ps.getD (i + k) 0) ((ps.drop i).take (k + 1))
  | 0, h => by
    have g : ps[i]? = some (ps.getD i 0) := by rw [List.getElem?_eq_getElem (by omega), List.getD_eq_getElem?_getD, List.getElem?_eq_getElem (by omega)]; rfl
    have e : (ps.drop i).take 1 = [ps.getD i 0] := by
      rw [List.take_add_one, List.take_zero, List.getElem?_drop, Nat.add_zero, g]
      rfl
    rw [Nat.add_zero, e]
    exact .base (inR _ (List.mem_of_getElem? g))
  | k + 1, h => by
    have ih := pth_cut ch inR (i := i) k (by omega)
    have g : ps[i + (k + 1)]? = some (ps.getD (i + (k + 1)) 0) := by rw [List.getElem?_eq_getElem (by omega), List.getD_eq_getElem?_getD, List.getElem?_eq_getElem (by omega)]; rfl
    rw [List.take_add_one, List.getElem?_drop, g]
    exact .step ih (ch (i + k) (by omega)) (inR _ (List.mem_of_getElem? g))
theorem cut_sle {ps : List Int} {i k : Nat} (h : i + k < ps.length) : sle ((ps.drop i).take (k + 1)) ps := by
  have l : ((ps.drop i).take (k + 1)).length = k + 1 := by rw [List.length_take, List.length_drop]; omega
  by_cases e : k + 1 = ps.length
  · left
    have : i = 0 := by omega
    rw [this, List.drop_zero, e, List.take_length]
  · exact .inr (.inl (by omega))
theorem mem_at {ps : List Int} {x : Int} (h : x ∈ ps) : ∃ i, i < ps.length ∧ ps.getD i 0 = x := by
  obtain ⟨i, hi, e⟩ := List.mem_iff_getElem.mp h
  exact ⟨i, hi, by rw [List.getD_eq_getElem?_getD, List.getElem?_eq_getElem hi]; exact e⟩
/-- the latest call of some rooms -/
theorem lastIn_top {ps : List Int} {c : Cl} (L : List Cl) : lastIn ps L = some c → c.1 ∈ ps ∧ c.1 ∈ L.map (·.1) ∧ lastIn [c.1] L = some c ∧ ∀ z ∈ ps, placeI L z ≤ placeI L c.1 := by
  refine snoc_ind (M := fun L => lastIn ps L = some c → c.1 ∈ ps ∧ c.1 ∈ L.map (·.1) ∧ lastIn [c.1] L = some c ∧ ∀ z ∈ ps, placeI L z ≤ placeI L c.1) (fun z => by cases z) (fun S d ih h => ?_) L
  rw [lastIn_snoc] at h
  by_cases m : d.1 ∈ ps
  · rw [if_pos m] at h
    cases h
    refine ⟨m, by simp, by rw [lastIn_snoc, if_pos List.mem_cons_self], fun z hz => ?_⟩
    rw [placeI_snoc, placeI_snoc, if_pos rfl]
    split
    · exact Int.le_refl _
    · have := placeI_lt S z
      omega
  · rw [if_neg m] at h
    obtain ⟨h1, h2, h3, h4⟩ := ih h
    have ne : ¬ d.1 = c.1 := fun e => m (by rw [e]; exact h1)
    refine ⟨h1, by rw [List.map_append]; exact List.mem_append_left _ h2, by rw [lastIn_snoc, if_neg (fun z => ne (List.mem_singleton.mp z))]; exact h3, fun z hz => ?_⟩
    rw [placeI_snoc, placeI_snoc, if_neg (fun e => m (by rw [e]; exact hz)), if_neg ne]
    exact h4 z hz
theorem placeI_inj {L : List Cl} {x y : Int} : x ∈ L.map (·.1) → placeI L x = placeI L y → x = y := by
  refine snoc_ind (M := fun L => x ∈ L.map (·.1) → placeI L x = placeI L y → x = y) (fun z => by cases z) (fun S d ih h e => ?_) L
  rw [placeI_snoc, placeI_snoc] at e
  have l1 := placeI_lt S x
  have l2 := placeI_lt S y
  by_cases c1 : d.1 = x
  · rw [if_pos c1] at e
    by_cases c2 : d.1 = y
    · rw [← c1, ← c2]
    · rw [if_neg c2] at e
      omega
  · rw [if_neg c1] at e
    by_cases c2 : d.1 = y
    · rw [if_pos c2] at e
      omega
    · rw [if_neg c2] at e
      refine ih ?_ e
      rw [List.map_append] at h
      rcases List.mem_append.mp h with h | h
      · exact h
      · exact absurd (List.mem_singleton.mp h).symm c1
/-- a parting path -/
def Prt (D : List Pr) (A B : List Cl) (q : List Int) : Prop := IsP' D q ∧ wordP A q ≠ wordP B q
theorem cross_in {A B : List Cl} {rs : List Int} {x y : Int} (hx : x ∈ rs) (hy : y ∈ rs) (h : crossB A B x y = true) : (x, y) ∈ crossF A B rs :=
  List.mem_flatMap.mpr ⟨x, hx, List.mem_map.mpr ⟨y, List.mem_filter.mpr ⟨hy, h⟩, rfl⟩⟩
theorem mem_rg {n : Nat} {x : Int} (h0 : 0 ≤ x) (h1 : x < n) : x ∈ rg n := List.mem_map.mpr ⟨x.toNat, List.mem_range.mpr (by omega), by show ((x.toNat : Nat) : Int) = x; omega⟩
theorem comp_cross {A B : List Cl} {rs : List Int} {r : Nat} {ps : List Int} (iA : InR r A) (iB : InR r B) (hrs : ∀ x, x ∈ rs ↔ x ∈ A.map (·.1)) (eq : ∀ k : Nat, k < r → wordL A k = wordL B k) (ne : wordP A ps ≠ wordP B ps) :
    ∃ x y, (x, y) ∈ crossF A B rs ∧ x ∈ ps ∧ y ∈ ps ∧ ∀ z ∈ ps, placeI A z ≤ placeI A x ∧ placeI B z ≤ placeI B y := by
  have eqz : ∀ z : Int, wordL A z = wordL B z := fun z => by
    by_cases c : 0 ≤ z ∧ z < r
    · have := eq z.toNat (by omega)
      rw [show ((z.toNat : Nat) : Int) = z by omega] at this
      exact this
    · rw [wordL_none.mpr fun m => ?_, wordL_none.mpr fun m => ?_]
      · obtain ⟨c', hc, e⟩ := List.mem_map.mp m
        have := iB c' hc
        rw [e] at this
        exact c this
      · obtain ⟨c', hc, e⟩ := List.mem_map.mp m
        have := iA c' hc
        rw [e] at this
        exact c this
  have memAB : ∀ z, z ∈ A.map (·.1) ↔ z ∈ B.map (·.1) := fun z => by
    have h1 := wordL_none (L := A) (x := z)
    have h2 := wordL_none (L := B) (x := z)
    rw [eqz z] at h1
    have h3 := h1.symm.trans h2
    exact ⟨fun m => Classical.byContradiction fun n => h3.mpr n m, fun m => Classical.byContradiction fun n => h3.mp n m⟩
  have nn : ∀ {L M : List Cl}, (∀ z, z ∈ L.map (·.1) ↔ z ∈ M.map (·.1)) → lastIn ps L = none → lastIn ps M = none := fun {L M} h e => by
    rw [lastIn_none] at e ⊢
    intro c hc m
    obtain ⟨d, hd, e2⟩ := List.mem_map.mp ((h c.1).mpr (List.mem_map.mpr ⟨c, hc, rfl⟩))
    exact e d hd (by rw [e2]; exact m)
  cases ea : lastIn ps A with
  | none => exact absurd (by unfold wordP; rw [ea, nn memAB ea]) ne
  | some cx =>
    cases eb : lastIn ps B with
    | none => exact absurd (by unfold wordP; rw [eb, nn (fun z => (memAB z).symm) eb]) ne
    | some cy =>
      obtain ⟨x1, x2, x3, x4⟩ := lastIn_top A ea
      obtain ⟨y1, y2, y3, y4⟩ := lastIn_top B eb
      have wa : wordP A ps = wordL A cx.1 := by unfold wordP wordL; rw [ea, x3]
      have wb : wordP B ps = wordL A cy.1 := by rw [eqz]; unfold wordP wordL; rw [eb, y3]
      rw [wa, wb] at ne
      have nxy : cx.1 ≠ cy.1 := fun e => ne (by rw [e])
      refine ⟨cx.1, cy.1, cross_in ((hrs _).mpr x2) ((hrs _).mpr ((memAB _).mpr y2)) ?_, x1, y1, fun z hz => ⟨x4 z hz, y4 z hz⟩⟩
      have a1 := x4 _ y1
      have b1 := y4 _ x1
      have a2 : placeI A cy.1 ≠ placeI A cx.1 := fun e => nxy (placeI_inj x2 e.symm)
      have b2 : placeI B cx.1 ≠ placeI B cy.1 := fun e => nxy (placeI_inj y2 e.symm).symm
      unfold crossB
      rw [Bool.and_eq_true, Bool.and_eq_true, decide_eq_true_iff, decide_eq_true_iff, decide_eq_true_iff]
      exact ⟨ne, by omega, by omega⟩
theorem comp_path {A B : List Cl} {rs : List Int} {r : Nat} {D : List Pr} {ps : List Int} (iA : InR r A) (iB : InR r B) (hrs : ∀ x, x ∈ rs ↔ x ∈ A.map (·.1)) (eq : ∀ k : Nat, k < r → wordL A k = wordL B k) (inr : ∀ x ∈ ps, 0 ≤ x ∧ x < r) (h : Prt D A B ps) :
    ∃ q, (∃ d ∈ crossF A B rs, Cnd A B r D d q) ∧ sle q ps := by
  obtain ⟨x, y, hc, hx, hy, top⟩ := comp_cross iA iB hrs eq h.2
  have inH : ∀ z ∈ ps, z ∈ hallF r A B x y := fun z hz => List.mem_filter.mpr ⟨mem_rg (inr z hz).1 (inr z hz).2, by
    rw [Bool.and_eq_true, decide_eq_true_iff, decide_eq_true_iff]
    exact top z hz⟩
  have nnH : ∀ z ∈ hallF r A B x y, 0 ≤ z := fun z hz => (rg_mem (List.mem_filter.mp hz).1).1
  obtain ⟨i, hi, ei⟩ := mem_at hx
  obtain ⟨j, hj, ej⟩ := mem_at hy
  rcases Nat.le_total i j with l | l
  · have p := pth_cut h.1.2.2 inH (i := i) (j - i) (by omega)
    rw [show i + (j - i) = j by omega, ei, ej] at p
    obtain ⟨q, hq, sq⟩ := Lst.ex nnH p
    exact ⟨q, ⟨(x, y), hc, .inl hq⟩, sle_trans sq (cut_sle (by omega))⟩
  · have p := pth_cut h.1.2.2 inH (i := j) (i - j) (by omega)
    rw [show j + (i - j) = i by omega, ei, ej] at p
    obtain ⟨q, hq, sq⟩ := Lst.ex nnH p
    exact ⟨q, ⟨(x, y), hc, .inr hq⟩, sle_trans sq (cut_sle (by omega))⟩
/-- what parting_path tells: the least parting path in the house, or None -/
theorem best_part {A B : List Cl} {rs : List Int} {r : Nat} {D : List Pr} {H : Hp} {v : V} (iA : InR r A) (iB : InR r B) (hrs : ∀ x, x ∈ rs ↔ x ∈ A.map (·.1)) (eq : ∀ k : Nat, k < r → wordL A k = wordL B k) (h : BestOf H (fun q => ∃ d ∈ crossF A B rs, Cnd A B r D d q) v) :
    BestOf H (fun q => Prt D A B q ∧ ∀ x ∈ q, 0 ≤ x ∧ x < r) v := by
  have hr2 : ∀ x ∈ rs, 0 ≤ x ∧ x < (r : Int) := fun x hx => by
    obtain ⟨c, hc, rfl⟩ := List.mem_map.mp ((hrs x).mp hx)
    exact iA c hc
  have snd : ∀ q, (∃ d ∈ crossF A B rs, Cnd A B r D d q) → Prt D A B q ∧ ∀ x ∈ q, 0 ≤ x ∧ x < r := fun q ⟨d, hd, hc⟩ => by
    refine ⟨part_of hd hr2 eq hc, fun x hx => ?_⟩
    have hm : x ∈ hallF r A B d.1 d.2 := by
      rcases hc with h | h
      · exact h.1.inR x hx
      · exact h.1.inR x hx
    exact rg_mem (List.mem_filter.mp hm).1
  rcases h with ⟨q, t, ev, ht, hq, mq⟩ | ⟨ev, no⟩
  · refine .inl ⟨q, t, ev, ht, snd q hq, fun q' ⟨hp, hi⟩ => ?_⟩
    obtain ⟨q2, h2, s2⟩ := comp_path iA iB hrs eq hi hp
    exact sle_trans (mq q2 h2) s2
  · refine .inr ⟨ev, fun q' ⟨hp, hi⟩ => ?_⟩
    obtain ⟨q2, h2, _⟩ := comp_path iA iB hrs eq hi hp
    exact no q2 h2
theorem one_part {A B : List Cl} {r k : Nat} {D : List Pr} {H : Hp} {t : Addr} (kr : k < r) (ne : wordL A k ≠ wordL B k) (least : ∀ j : Nat, j < k → wordL A j = wordL B j) (ht : H t = some (.tup [.int k])) : BestOf H (fun q => Prt D A B q ∧ ∀ x ∈ q, 0 ≤ x ∧ x < r) (.ref t) := by
  refine .inl ⟨[(k : Int)], t, rfl, ht, ⟨⟨⟨by simp, by simp, fun i hi => absurd hi (by show ¬ i + 1 < 1; omega)⟩, ne⟩, fun x hx => by rw [List.mem_singleton.mp hx]; exact ⟨by omega, by omega⟩⟩, fun q' ⟨⟨hp, hw⟩, hi⟩ => ?_⟩
  cases q' with
  | nil => exact absurd rfl hp.1
  | cons x l =>
    cases l with
    | cons y l => exact .inr (.inl (by simp))
    | nil =>
      have hx := hi x List.mem_cons_self
      by_cases e : x = (k : Int)
      · exact .inl (by rw [e])
      · refine .inr (.inr ⟨rfl, .inl ?_⟩)
        have : ¬ x < (k : Int) := fun z => by
          have := least x.toNat (by omega)
          rw [show ((x.toNat : Nat) : Int) = x by omega] at this
          exact hw this
        omega
/-- parting_path's promise, with the least of all parting paths -/
def spPpB (C : Addr) : Sp := fun vs H Q _ => ∃ (p a b : Addr) (us ws : List V) (A B : List Cl) (r : Nat) (D : List Pr) (own : List Addr), vs = [.ref p, .ref a, .ref b] ∧ HouseAt C H p r D own ∧ H a = some (.lst us) ∧ LG H us A ∧ A.length ≤ 1000 ∧ InR r A ∧ H b = some (.lst ws) ∧ LG H ws B ∧ B.length ≤ 1000 ∧ InR r B ∧
  ∀ (v : V) (H' : Hp), Same H H' → BestOf H' (fun q => Prt D A B q ∧ ∀ x ∈ q, 0 ≤ x ∧ x < r) v → Q v H'
theorem pp_of {C : Addr} {vs : List V} {H : Hp} {Q : VK} {E : XK} (h : spPpB C vs H Q E) : spPp C vs H Q E := by
  obtain ⟨p, a, b, us, ws, A, B, r, D, own, e, hh, ha, la, al, ia, hb, lb, bl, ib, k⟩ := h
  exact ⟨p, a, b, us, ws, A, B, r, D, own, e, hh, ha, la, al, ia, hb, lb, bl, ib, fun j hj ne least t H' s ht => k _ H' s (one_part hj ne least ht), fun eq rs v H' _ mem s best => k v H' s (best_part ia ib mem eq best)⟩
/-- what it tells, by the last calls alone and with the logs exchanged -/
theorem prt_swap {D : List Pr} {A B : List Cl} {q : List Int} : Prt D A B q ↔ Prt D B A q := ⟨fun h => ⟨h.1, fun e => h.2 e.symm⟩, fun h => ⟨h.1, fun e => h.2 e.symm⟩⟩
theorem prt_last {D : List Pr} {A B : List Cl} {q : List Int} : Prt D (lastF A) B q ↔ Prt D A B q := by
  unfold Prt
  rw [wordP_last]
theorem prt_same {D : List Pr} {A : List Cl} {q : List Int} : ¬ Prt D A A q := fun h => h.2 rfl

abbrev sFew : Stmt := topS 49
theorem cut_dropW (xs : List V) (k : Nat) : cutV xs (some ((k : Nat) : Int)) none = xs.drop k := by
  unfold cutV
  rw [show HT.sIx xs.length 0 (some ((k : Nat) : Int)) = min k xs.length from HT.sIx_nat xs.length 0 k, HT.sIx_none]
  by_cases h : k ≤ xs.length
  · rw [Nat.min_eq_left h]
    refine List.take_of_length_le ?_
    rw [List.length_drop]
    exact Nat.le_refl _
  · rw [Nat.min_eq_right (by omega), List.drop_length, List.drop_eq_nil_of_le (by omega)]
    exact List.take_nil
theorem cut_takeW (xs : List V) (k : Nat) : cutV xs none (some ((k : Nat) : Int)) = xs.take k := by
  unfold cutV
  rw [show HT.sIx xs.length xs.length (some ((k : Nat) : Int)) = min k xs.length from HT.sIx_nat xs.length xs.length k, HT.sIx_none, List.drop_zero, Nat.sub_zero]
  by_cases h : k ≤ xs.length
  · rw [Nat.min_eq_left h]
  · rw [Nat.min_eq_right (by omega), List.take_length, List.take_of_length_le (by omega)]
section
variable {P : Program} {w : World} {K : PySem.W.Frag} {mg : Str → Option Value} {base : Heap}
theorem scFew : FnScope ["doors", "most", "number", "turn"] ["doors", "most", "number"] (defScope sFew) := ⟨rfl, rfl, rfl, by decide +kernel, rfl, by decide +kernel, by decide +kernel⟩
def spFew (K : PySem.W.Frag) : Sp := fun vs H Q _ => ∃ (l : Addr) (us : List V) (D : List Pr) (m x : Int) (r : Nat), vs = [.ref l, .int m, .int x] ∧ H l = some (.lst us) ∧ PL H us D ∧ Drs r D ∧ r ≤ 12 ∧ 0 ≤ m ∧ m ≤ 100 ∧
  ∀ (E : List Pr) (ws : List V) (t : Addr) (H' : Hp), Drs r E → (E.length : Int) ≤ m → Same H H' → H t = none → H' t = some (.lst ws) → PL H' ws E → Q (.ref t) H'
theorem ok_few {f : Addr} {fd : FuncData} (F : Fun K "_law_fewer" "_law_fewer" sFew f fd) (T : Bi mg) : FnOk P w K mg base CX0 1 f fd ["doors", "most", "number"] (spFew K) := by
  refine F.ok scFew (fun vs H Q E h => ?_) (fun cdv A outer s H vs Q E hr h => ?_)
  · obtain ⟨l, us, D, m, x, r, rfl, _⟩ := h
    rfl
  · obtain ⟨l, us, D, m, x, r, rfl, hl, pl, drs, r12, m0, m100, ret⟩ := h
    refine ⟨_, (pss_cons (ps_set (i := 3) scFew.nd rfl (Or.inl rfl) pe_int)
      (pss_cons (ps_if (pt_cmpR op_gt (pe_callB call_len_seq (by rfl) T.len (by decide +kernel) (pa_cons (pv 0) pa_nil)) pe_int (nomark _))
      (pss_one (ps_set (i := 3) scFew.nd rfl (Or.inl rfl) (pe_op op_mod (pe_callTy cr_intI (by rfl) T.int (by decide +kernel) (pa_cons (pv 2) pa_nil)) (pe_callB call_len_seq (by rfl) T.len (by decide +kernel) (pa_cons (pv 0) pa_nil)))))
      pss_nil)
      (pss_one (ps_ret (pe_callB cr_sortedPO (by rfl) T.sorted (by decide +kernel) (pa_cons (pe_slice sl_list (pe_op op_cat (pe_slice sl_list (pv 0) (po_some (pv 3)) po_none) (pe_slice sl_list (pv 0) po_none (po_some (pv 3)))) po_none (po_some (pv 1))) pa_nil)))))), ?_⟩
    walk_at "rd"
    obtain ⟨kD, kI⟩ := pl.toK
    have ul : us.length = D.length := pl.len
    have dl := drs.len r12
    obtain ⟨mm, rfl⟩ : ∃ mm : Nat, m = mm := ⟨m.toNat, (Int.toNat_of_nonneg m0).symm⟩
    have fin : ∀ (tn : Nat) (H' : Hp) (a : Addr), Same H H' → H' a = some (.lst (us.drop tn ++ us.take tn)) → ∀ p, H' p = none → rSortedPO K [V.ref p] (upd H' p (HO.lst ((us.drop tn ++ us.take tn).take mm))) Q := fun tn H' a s1 ha p np => by
      have pmz : (us.drop tn ++ us.take tn).Perm us := by
        have := List.perm_append_comm (l₁ := us.drop tn) (l₂ := us.take tn)
        rw [List.take_append_drop] at this
        exact this
      have sub : ((us.drop tn ++ us.take tn).take mm).Sublist (us.drop tn ++ us.take tn) := List.take_sublist _ _
      have s2 := s1.trans (same_upd (o := HO.lst ((us.drop tn ++ us.take tn).take mm)) np)
      have hz : upd H' p (HO.lst ((us.drop tn ++ us.take tn).take mm)) p = some (.lst ((us.drop tn ++ us.take tn).take mm)) := upd_same
      generalize upd H' p (HO.lst ((us.drop tn ++ us.take tn).take mm)) = H2 at s2 hz ⊢
      have inU : ∀ v ∈ (us.drop tn ++ us.take tn).take mm, v ∈ us := fun v hv => pmz.mem_iff.mp (sub.subset hv)
      have isP : ∀ v ∈ (us.drop tn ++ us.take tn).take mm, IsP H2 v (kH H v) := fun v hv => (kI v (inU v hv)).kt (KT.same s2)
      refine ⟨p, _, kH H, rfl, SqL.of hz, isP, fun ys t so st nt => ?_⟩
      have pmy := st.perm
      have hy : ∀ v ∈ ys, IsP H2 v (kH H v) := fun v hv => isP v (pmy.mem_iff.mp hv)
      have nd : (ys.map (kH H)).Nodup := by
        refine (pmy.map _).nodup_iff.mpr ?_
        refine List.Pairwise.sublist (sub.map _) ?_
        refine (pmz.map (kH H)).nodup_iff.mpr ?_
        rw [← kD]
        exact drs.asc.nodup
      have hyP : PL H2 ys (ys.map (kH H)) := by
        have e : ∀ v ∈ ys, kH H2 v = kH H v := fun v hv => (hy v hv).k
        have := PL.ofK (H := H2) (vs := ys) fun v hv => by rw [e v hv]; exact hy v hv
        rw [List.map_congr_left e] at this
        exact this
      refine ret (ys.map (kH H)) ys t _ ⟨srtd_asc nd so, fun d hd => ?_⟩ (by rw [List.length_map, pmy.length_eq, List.length_take]; omega) (s2.trans (same_upd nt)) (s2.free nt) upd_same (hyP.kt (KT.new nt))
      refine drs.ok d ?_
      rw [kD]
      obtain ⟨v, hv, rfl⟩ := List.mem_map.mp hd
      exact List.mem_map.mpr ⟨v, inU v (pmy.mem_iff.mp hv), rfl⟩
    have cat : ∀ (tn : Nat), ∀ (p : Addr), H p = none → ∀ p1, upd H p (HO.lst (us.drop tn)) p1 = none → rCat (V.ref p) (V.ref p1) (upd (upd H p (HO.lst (us.drop tn))) p1 (HO.lst (us.take tn))) fun x H1 => ∃ a, x = V.ref a ∧ ∃ x, SqL K H1 a x ∧ ∀ (p : Addr), H1 p = none → rSortedPO K [V.ref p] (upd H1 p (HO.lst (cutV x none (some (mm : Int))))) Q := fun tn p np p1 np1 => by
      have s1 := (same_upd (o := HO.lst (us.drop tn)) np).trans (same_upd (o := HO.lst (us.take tn)) np1)
      refine ⟨p, p1, _, _, rfl, rfl, same_upd np1 _ _ upd_same, upd_same, Nat.le_of_lt (len_big (by rw [List.length_drop, List.length_take]; omega)), fun c nc => ⟨c, rfl, _, SqL.of upd_same, fun z nz => ?_⟩⟩
      rw [cut_takeW]
      exact fin tn _ c (s1.trans (same_upd nc)) upd_same z nz
    refine ⟨us, .inl (SqL.of hl), ?_⟩
    by_cases z : us = []
    · rw [if_neg (show ¬ (0 : Int) < (us.length : Int) by rw [z]; decide)]
      refine ⟨us, SqL.of hl, fun p np => ?_⟩
      rw [show (some (0 : Int)) = some ((0 : Nat) : Int) from rfl, cut_dropW]
      refine ⟨us, SqL.of (same_upd np _ _ hl), fun p1 np1 => ?_⟩
      rw [cut_takeW]
      exact cat 0 p np p1 np1
    · have up := List.length_pos_iff.mpr z
      rw [if_pos (show (0 : Int) < (us.length : Int) by omega)]
      have q0 := Int.emod_nonneg x (show (us.length : Int) ≠ 0 by omega)
      obtain ⟨tn, et⟩ : ∃ tn : Nat, x % (us.length : Int) = tn := ⟨(x % (us.length : Int)).toNat, (Int.toNat_of_nonneg q0).symm⟩
      refine ⟨us, .inl (SqL.of hl), by omega, us, SqL.of hl, fun p np => ?_⟩
      rw [et, cut_dropW]
      refine ⟨us, SqL.of (same_upd np _ _ hl), fun p1 np1 => ?_⟩
      rw [cut_takeW]
      exact cat tn p np p1 np1
end

/-! ### min of a list of tuples of ints -/
def dataT (q : List Int) : PyData := .tuple (q.map PyData.int)
def IsT (H : Hp) (v : V) (q : List Int) : Prop := ∃ t, v = .ref t ∧ H t = some (.tup (q.map V.int))
def TL (H : Hp) (us : List V) (L : List (List Int)) : Prop := Paired (IsT H) us L
theorem IsT.same {H H' : Hp} {v : V} {q : List Int} (h : IsT H v q) (s : Same H H') : IsT H' v q := by
  obtain ⟨t, e, ht⟩ := h
  exact ⟨t, e, s _ _ ht⟩
theorem TL.same {H H' : Hp} {us : List V} {L : List (List Int)} (h : TL H us L) (s : Same H H') : TL H' us L := Paired.mapP h fun _ _ q => q.same s
theorem dp_T {K : PySem.W.Frag} {H : Hp} {us : List V} {L : List (List Int)} (h : TL H us L) : DpAll K H us (L.map dataT) := by
  induction h with
  | nil => exact .nil
  | cons r _ ih =>
    obtain ⟨t, rfl, ht⟩ := r
    exact .cons (.tup (SqT.of ht) (dp_ints _)) ih
theorem toksG : ∀ p q : List Int, PyProof.Rows.lexLt itemOrd (PySem.W.keyToksAll (p.map PyData.int)) (PySem.W.keyToksAll (q.map PyData.int)) = true ↔ ltL p q
  | [], [] => by
    rw [PyProof.Rows.lex_irrefl]
    simp [ltL]
  | [], b :: t => by
    show PyProof.Rows.lexLt itemOrd (Sum.inl 0 :: []) (Sum.inl 1 :: Sum.inl b :: PySem.W.keyToksAll (t.map PyData.int)) = true ↔ True
    rw [PyProof.Rows.lex_diff (fun z => by have := Sum.inl.inj z; omega)]
    exact ⟨fun _ => trivial, fun _ => rfl⟩
  | a :: t, [] => by
    show PyProof.Rows.lexLt itemOrd (Sum.inl 1 :: Sum.inl a :: PySem.W.keyToksAll (t.map PyData.int)) (Sum.inl 0 :: []) = true ↔ False
    rw [PyProof.Rows.lex_diff (fun z => by have := Sum.inl.inj z; omega)]
    exact ⟨fun z => (by cases z), fun z => z.elim⟩
  | a :: s, b :: t => by
    show PyProof.Rows.lexLt itemOrd (Sum.inl 1 :: Sum.inl a :: PySem.W.keyToksAll (s.map PyData.int)) (Sum.inl 1 :: Sum.inl b :: PySem.W.keyToksAll (t.map PyData.int)) = true ↔ (a < b ∨ (a = b ∧ ltL s t))
    rw [PyProof.Rows.lex_self]
    by_cases c : a = b
    · subst c
      rw [PyProof.Rows.lex_self, toksG s t]
      exact ⟨fun z => .inr ⟨rfl, z⟩, fun z => z.elim (fun w => absurd w (by omega)) (·.2)⟩
    · rw [PyProof.Rows.lex_diff (fun z => c (Sum.inl.inj z))]
      show decide (a < b) = true ↔ _
      rw [decide_eq_true_iff]
      exact ⟨.inl, fun z => z.elim id fun w => absurd w.1 c⟩
theorem dataLt_T (p q : List Int) : PySem.W.dataLt (dataT p) (dataT q) = true ↔ ltL p q := toksG p q
theorem alike_T (p q : List Int) : PySem.W.alike (dataT p) (dataT q) = true := alike_ints p q
theorem dep_TL (L : List (List Int)) : PyData.depthAll (L.map dataT) ≤ 1 := by
  induction L with
  | nil => exact Nat.zero_le _
  | cons q L ih =>
    show max (PyData.depthAll (q.map PyData.int) + 1) (PyData.depthAll (L.map dataT)) ≤ 1
    rw [dep_ints]
    exact Nat.max_le.mpr ⟨Nat.le_refl _, ih⟩
theorem minD_T : ∀ (L : List (List Int)) (q : List Int), ∃ m ∈ q :: L, PySem.W.minD (dataT q) (L.map dataT) = dataT m ∧ ∀ p ∈ q :: L, m = p ∨ ltL m p
  | [], q => ⟨q, List.mem_cons_self, rfl, fun p hp => .inl (List.mem_singleton.mp hp).symm⟩
  | y :: L, q => by
    have e : PySem.W.minD (dataT q) ((y :: L).map dataT) = PySem.W.minD (if PySem.W.dataLt (dataT y) (dataT q) then dataT y else dataT q) (L.map dataT) := rfl
    by_cases c : ltL y q
    · rw [(dataLt_T y q).mpr c, if_pos rfl] at e
      obtain ⟨m, hm, em, le⟩ := minD_T L y
      refine ⟨m, List.mem_cons_of_mem _ hm, e.trans em, fun p hp => ?_⟩
      rcases List.mem_cons.mp hp with h | h
      · rw [h]
        rcases le y List.mem_cons_self with z | z
        · rw [z]; exact .inr c
        · exact .inr (ltL_trans z c)
      · exact le p h
    · have nc : ¬ PySem.W.dataLt (dataT y) (dataT q) = true := fun z => c ((dataLt_T y q).mp z)
      rw [if_neg nc] at e
      obtain ⟨m, hm, em, le⟩ := minD_T L q
      refine ⟨m, ?_, e.trans em, fun p hp => ?_⟩
      · rcases List.mem_cons.mp hm with h | h
        · rw [h]; exact List.mem_cons_self
        · exact List.mem_cons_of_mem _ (List.mem_cons_of_mem _ h)
      · rcases List.mem_cons.mp hp with h | h
        · exact le p (by rw [h]; exact List.mem_cons_self)
        · rcases List.mem_cons.mp h with h | h
          · rw [h]
            rcases le q List.mem_cons_self with z | z
            · rw [z]
              rcases ltL_tri q y with w | w | w
              · exact .inl w
              · exact .inr w
              · exact absurd w c
            · rcases ltL_tri q y with w | w | w
              · exact .inr (by rw [← w]; exact z)
              · exact .inr (ltL_trans z w)
              · exact absurd w c
          · exact le p (List.mem_cons_of_mem _ h)
theorem dataT_inj {p q : List Int} (h : dataT p = dataT q) : p = q := by
  unfold dataT at h
  have h2 : p.map PyData.int = q.map PyData.int := PyData.tuple.inj h
  exact List.map_inj_right (fun a b e => PyData.int.inj e) |>.mp h2
def rMinT (K : PySem.W.Frag) : List V → Hp → VK → Prop := fun vs H Q => ∃ (a : Addr) (us : List V) (L : List (List Int)), vs = [.ref a] ∧ SqL K H a us ∧ TL H us L ∧ L ≠ [] ∧ ∀ (v : V) (q : List Int), v ∈ us → IsT H v q → q ∈ L → (∀ p ∈ L, q = p ∨ ltL q p) → Q v H
theorem cr_minT {X : Cx} (hc : X.calm = true) (hu : X.A.units + 2 < cLine) : CallR X (.builtin "min") (rMinT X.K) := by
  intro pins s σ H vs us0 Q I r h
  obtain ⟨a, us, L, rfl, hs, tl, ne, q⟩ := h
  obtain ⟨its, rv, hl, _⟩ := I.list hs
  rw [Vals.ref1 r]
  cases L with
  | nil => exact absurd rfl ne
  | cons q0 L =>
    have dp := dp_T (K := X.K) tl
    obtain ⟨as, hr⟩ := Dp.readsAll I ((q0 :: L).map dataT) us its dp rv
    obtain ⟨m, hm, em, le⟩ := minD_T L q0
    refine PySem.W.min_list_data (x := dataT q0) (xs := L.map dataT) (I.ok.hd hc) hl.isList (by simpa using hr) ⟨fun x hx y hy => ?_, fun x hx => ?_⟩ ?_ fun i v h' tk bs hv hb hk => ?_
    · obtain ⟨p1, _, rfl⟩ := List.mem_map.mp (show x ∈ (q0 :: L).map dataT from hx)
      obtain ⟨p2, _, rfl⟩ := List.mem_map.mp (show y ∈ (q0 :: L).map dataT from hy)
      exact alike_T p1 p2
    · obtain ⟨p1, _, rfl⟩ := List.mem_map.mp (show x ∈ (q0 :: L).map dataT from hx)
      intro z
      cases z
    · have := dep_TL (q0 :: L)
      show X.A.units + 1 + PyData.depthAll ((q0 :: L).map dataT) < cLine
      omega
    · have hv2 : its[i]? = some v := by simpa using hv
      have hi := (List.getElem?_eq_some_iff.mp hv2).1
      have ul := rv.length
      obtain ⟨u, hu'⟩ : ∃ u, us[i]? = some u := ⟨us[i]'(by omega), List.getElem?_eq_getElem (by omega)⟩
      obtain ⟨v', hv', rel⟩ := rv.get hu'
      have ev := Option.some.inj (hv'.symm.trans hv2)
      subst ev
      obtain ⟨d, hd, isd⟩ := pget tl hu'
      have dpd : Dp X.K H u (dataT d) := by
        obtain ⟨t, rfl, ht⟩ := isd
        exact .tup (SqT.of ht) (dp_ints _)
      obtain ⟨as2, r2⟩ := Dp.reads I (dataT d) u v' dpd rel
      have eq := (PySem.Reads.unique (PySem.W.reads_keeps hk r2) _ _ hb).1
      rw [em] at eq
      have edm := dataT_inj eq
      subst edm
      exact ⟨u, H, I.kept hk, rel, q u d (List.mem_of_getElem? hu') isd hm le⟩

/-! ### near lists (theory) -/
/-- a list of lists of ints, the lists new ones -/
def NL (H : Hp) (ns : List Addr) (f : Nat → List Int) : Prop := ∀ (j : Nat) n, ns[j]? = some n → H n = some (.lst ((f j).map V.int))
theorem nearF_up {r : Nat} {D : List Pr} (drs : Drs r D) (x : Int) : Up (nearF x D) := nearF_lt drs.asc fun d hd => (drs.ok d hd).2.1
theorem nearF_rng {r : Nat} {D : List Pr} (drs : Drs r D) (x : Int) : ∀ y ∈ nearF x D, 0 ≤ y ∧ y < (r : Int) := fun y hy => by
  have h := (mem_nearF fun d hd => (drs.ok d hd).2.1).mp hy
  rcases h with h | h
  · have := drs.ok _ h
    exact ⟨by omega, by omega⟩
  · have := drs.ok _ h
    exact ⟨by omega, by omega⟩
theorem up_nodup {ys : List Int} (h : Up ys) : ys.Nodup := List.Pairwise.imp (fun h => by omega) h
theorem nearF_len12 {r : Nat} {D : List Pr} (drs : Drs r D) (x : Int) : (nearF x D).length ≤ r := ints_len (up_nodup (nearF_up drs x)) (nearF_rng drs x)
theorem sorted_up {ys zs : List Int} (h : Up zs) (p : ys.Perm zs) (s : ys.Pairwise (· ≤ ·)) : ys = zs := by
  have nd : ys.Nodup := p.nodup_iff.mpr (up_nodup h)
  refine up_uniq ?_ h fun x => p.mem_iff
  exact List.Pairwise.imp₂ (fun a b h1 h2 => by omega) s nd

/-! ### all paths of a house, by their number of rooms -/
def lastD (p : List Int) : Int := p.getD (p.length - 1) 0
def growF (D : List Pr) (p : List Int) : List (List Int) := ((nearF (lastD p) D).filter fun y => decide (y ∉ p)).map fun y => p ++ [y]
def layF (D : List Pr) (r : Nat) : Nat → List (List Int)
  | 0 => (rg r).map fun x => [x]
  | k + 1 => (layF D r k).flatMap (growF D)
theorem lastD_snoc (p : List Int) (y : Int) : lastD (p ++ [y]) = y := by
  unfold lastD
  rw [List.length_append, List.getD_eq_getElem?_getD, List.getElem?_append_right (by show p.length ≤ p.length + 1 - 1; omega)]
  show ([y][p.length + 1 - 1 - p.length]?).getD 0 = y
  rw [show p.length + 1 - 1 - p.length = 0 by omega]
  rfl
theorem chn_snoc {D : List Pr} {p : List Int} {y : Int} (ne : p ≠ []) : Chn D (p ++ [y]) ↔ Chn D p ∧ Adj D (lastD p) y := by
  have l1 := List.length_pos_iff.mpr ne
  have gl : ∀ i, i < p.length → (p ++ [y]).getD i 0 = p.getD i 0 := fun i hi => by
    rw [List.getD_eq_getElem?_getD, List.getElem?_append_left hi, ← List.getD_eq_getElem?_getD]
  have gy : (p ++ [y]).getD p.length 0 = y := by
    rw [List.getD_eq_getElem?_getD, List.getElem?_append_right (Nat.le_refl _), Nat.sub_self]
    rfl
  unfold Chn
  rw [List.length_append]
  constructor
  · intro h
    refine ⟨fun i hi => ?_, ?_⟩
    · have := h i (by show i + 1 < p.length + 1; omega)
      rw [gl i (by omega), gl (i + 1) hi] at this
      exact this
    · have := h (p.length - 1) (by show p.length - 1 + 1 < p.length + 1; omega)
      rw [gl _ (by omega), show p.length - 1 + 1 = p.length by omega, gy] at this
      exact this
  · rintro ⟨h1, h2⟩ i hi
    have hi2 : i + 1 < p.length + 1 := hi
    by_cases c : i + 1 < p.length
    · rw [gl i (by omega), gl (i + 1) c]
      exact h1 i c
    · have e : i = p.length - 1 := by omega
      rw [show i + 1 = p.length by omega, gy, gl i (by omega), e]
      exact h2
theorem mem_lay {D : List Pr} {r : Nat} (drs : Drs r D) : ∀ (k : Nat) (q : List Int), q ∈ layF D r k ↔ IsP' D q ∧ (∀ x ∈ q, 0 ≤ x ∧ x < (r : Int)) ∧ q.length = k + 1
  | 0, q => by
    show q ∈ (rg r).map (fun x => [x]) ↔ _
    rw [List.mem_map]
    constructor
    · rintro ⟨x, hx, rfl⟩
      exact ⟨⟨by simp, by simp, fun i hi => absurd hi (by show ¬ i + 1 < 1; omega)⟩, fun y hy => by rw [List.mem_singleton.mp hy]; exact rg_mem hx, rfl⟩
    · rintro ⟨_, h2, h3⟩
      cases q with
      | nil => cases h3
      | cons x l =>
        cases l with
        | nil => exact ⟨x, mem_rg (h2 x List.mem_cons_self).1 (h2 x List.mem_cons_self).2, rfl⟩
        | cons y l => exact absurd h3 (by simp)
  | k + 1, q => by
    show q ∈ (layF D r k).flatMap (growF D) ↔ _
    rw [List.mem_flatMap]
    constructor
    · rintro ⟨p, hp, hq⟩
      obtain ⟨⟨p1, p2, p3⟩, p4, p5⟩ := (mem_lay drs k p).mp hp
      obtain ⟨y, hy, rfl⟩ := List.mem_map.mp hq
      obtain ⟨y1, y2⟩ := List.mem_filter.mp hy
      have y2 := of_decide_eq_true y2
      have ad := (mem_nearF fun d hd => (drs.ok d hd).2.1).mp y1
      refine ⟨⟨by simp, ?_, (chn_snoc p1).mpr ⟨p3, ad⟩⟩, fun x hx => ?_, by rw [List.length_append, p5]; rfl⟩
      · refine List.nodup_append.mpr ⟨p2, by simp, fun x hx z hz e => ?_⟩
        rw [List.mem_singleton.mp hz] at e
        rw [e] at hx
        exact y2 hx
      · rcases List.mem_append.mp hx with h | h
        · exact p4 x h
        · rw [List.mem_singleton.mp h]
          exact nearF_rng drs _ y y1
    · rintro ⟨⟨q1, q2, q3⟩, q4, q5⟩
      have e := List.dropLast_concat_getLast q1
      have l : q.dropLast.length = k + 1 := by rw [List.length_dropLast, q5]; rfl
      have ne : q.dropLast ≠ [] := fun z => by rw [z] at l; cases l
      rw [← e] at q2 q3 q4 ⊢
      obtain ⟨c1, c2⟩ := (chn_snoc ne).mp q3
      obtain ⟨n1, _, n3⟩ := List.nodup_append.mp q2
      refine ⟨q.dropLast, (mem_lay drs k _).mpr ⟨⟨ne, n1, c1⟩, fun x hx => q4 x (List.mem_append_left _ hx), l⟩, List.mem_map.mpr ⟨q.getLast q1, List.mem_filter.mpr ⟨(mem_nearF fun d hd => (drs.ok d hd).2.1).mpr c2, decide_eq_true fun m => n3 _ m _ List.mem_cons_self rfl⟩, rfl⟩⟩
/-! how many they are -/
def cntR (D : List Pr) (p : List Int) : Nat := (D.filter fun d => decide (d.1 ∉ p) && decide (d.2 ∉ p)).length
theorem cnt_step (D : List Pr) (q : List Int) (v : Int) (nv : v ∉ q) : ((nearF v D).filter fun y => decide (y ∉ q ++ [v])).length + cntR D (q ++ [v]) ≤ cntR D q := by
  unfold cntR
  induction D with
  | nil => exact Nat.le_refl _
  | cons d D ih =>
    unfold nearF at ih ⊢
    have m1 : ∀ z : Int, z ∉ q ++ [v] ↔ z ∉ q ∧ z ≠ v := fun z => by
      rw [List.mem_append, List.mem_singleton]
      exact ⟨fun h => ⟨fun a => h (.inl a), fun a => h (.inr a)⟩, fun h a => a.elim h.1 h.2⟩
    by_cases t : d.1 ∉ q ∧ d.2 ∉ q
    · rw [List.filter_cons_of_pos (p := fun d : Pr => decide (d.1 ∉ q) && decide (d.2 ∉ q)) (by simp [t.1, t.2]), List.length_cons]
      by_cases c1 : d.1 = v
      · rw [List.filter_cons_of_neg (p := fun d : Pr => decide (d.1 ∉ q ++ [v]) && decide (d.2 ∉ q ++ [v])) (by simp [c1])]
        rw [List.filterMap_cons_some (f := fun d : Pr => if d.1 = v then some d.2 else if d.2 = v then some d.1 else none) (b := d.2) (by rw [if_pos c1])]
        have := List.length_filter_le (fun y => decide (y ∉ q ++ [v])) [d.2]
        rw [List.filter_cons]
        split
        · rw [List.length_cons]; omega
        · omega
      · by_cases c2 : d.2 = v
        · rw [List.filter_cons_of_neg (p := fun d : Pr => decide (d.1 ∉ q ++ [v]) && decide (d.2 ∉ q ++ [v])) (by simp [c2])]
          rw [List.filterMap_cons_some (f := fun d : Pr => if d.1 = v then some d.2 else if d.2 = v then some d.1 else none) (b := d.1) (by rw [if_neg c1, if_pos c2]), List.filter_cons]
          split
          · rw [List.length_cons]; omega
          · omega
        · rw [List.filterMap_cons_none (f := fun d : Pr => if d.1 = v then some d.2 else if d.2 = v then some d.1 else none) (by rw [if_neg c1, if_neg c2])]
          have := List.length_filter_le (fun d : Pr => decide (d.1 ∉ q ++ [v]) && decide (d.2 ∉ q ++ [v])) [d]
          rw [List.filter_cons]
          split
          · rw [List.length_cons]; omega
          · omega
    · rw [List.filter_cons_of_neg (p := fun d : Pr => decide (d.1 ∉ q) && decide (d.2 ∉ q)) (by simp; intro a; exact Classical.byContradiction fun b => t ⟨a, b⟩)]
      rw [List.filter_cons_of_neg (p := fun d : Pr => decide (d.1 ∉ q ++ [v]) && decide (d.2 ∉ q ++ [v])) (fun z => by
        rw [Bool.and_eq_true, decide_eq_true_iff, decide_eq_true_iff] at z
        exact t ⟨((m1 _).mp z.1).1, ((m1 _).mp z.2).1⟩)]
      have nb : ∀ b : Int, (if d.1 = v then some d.2 else if d.2 = v then some d.1 else none) = some b → b ∈ q := fun b hb => by
        by_cases c1 : d.1 = v
        · rw [if_pos c1] at hb
          have e := Option.some.inj hb
          rw [← e]
          exact Classical.byContradiction fun n => t ⟨by rw [c1]; exact nv, n⟩
        · rw [if_neg c1] at hb
          by_cases c2 : d.2 = v
          · rw [if_pos c2] at hb
            have e := Option.some.inj hb
            rw [← e]
            exact Classical.byContradiction fun n => t ⟨n, by rw [c2]; exact nv⟩
          · rw [if_neg c2] at hb
            cases hb
      cases hf : (if d.1 = v then some d.2 else if d.2 = v then some d.1 else none) with
      | none =>
        rw [List.filterMap_cons_none (f := fun d : Pr => if d.1 = v then some d.2 else if d.2 = v then some d.1 else none) hf]
        exact ih
      | some b =>
        rw [List.filterMap_cons_some (f := fun d : Pr => if d.1 = v then some d.2 else if d.2 = v then some d.1 else none) hf, List.filter_cons_of_neg (by simp [nb b hf])]
        exact ih
theorem sum_flatV {α β : Type} (f : α → List β) (g : β → Nat) : ∀ l : List α, ((l.flatMap f).map g).sum = (l.map fun a => ((f a).map g).sum).sum
  | [] => rfl
  | a :: l => by
    rw [List.flatMap_cons, List.map_append, List.sum_append, List.map_cons, List.sum_cons, sum_flatV f g l]
theorem sum_le {α : Type} {f g : α → Nat} : ∀ {l : List α}, (∀ a ∈ l, f a ≤ g a) → (l.map f).sum ≤ (l.map g).sum
  | [], _ => Nat.le_refl _
  | a :: l, h => by
    rw [List.map_cons, List.map_cons, List.sum_cons, List.sum_cons]
    exact Nat.add_le_add (h a List.mem_cons_self) (sum_le fun b hb => h b (List.mem_cons_of_mem _ hb))
theorem len_sum {α : Type} {g : α → Nat} : ∀ {l : List α}, (∀ a ∈ l, 1 ≤ g a) → l.length ≤ (l.map g).sum
  | [], _ => Nat.le_refl _
  | a :: l, h => by
    rw [List.map_cons, List.sum_cons, List.length_cons]
    have := h a List.mem_cons_self
    have := len_sum fun b hb => h b (List.mem_cons_of_mem _ hb)
    omega
theorem sum_const {α : Type} {g : α → Nat} {c : Nat} : ∀ {l : List α}, (∀ a ∈ l, g a = c) → (l.map g).sum = l.length * c
  | [], _ => by simp
  | a :: l, h => by
    rw [List.map_cons, List.sum_cons, List.length_cons, h a List.mem_cons_self, sum_const fun b hb => h b (List.mem_cons_of_mem _ hb), Nat.succ_mul]
    omega
def wgt (D : List Pr) (p : List Int) : Nat := 2 ^ cntR D p.dropLast
theorem grow_wgt {D : List Pr} {r : Nat} (drs : Drs r D) {k : Nat} {p : List Int} (hp : p ∈ layF D r k) : ((growF D p).map (wgt D)).sum ≤ wgt D p := by
  obtain ⟨⟨p1, p2, _⟩, _, _⟩ := (mem_lay drs k p).mp hp
  have e := List.dropLast_concat_getLast p1
  have nv : p.getLast p1 ∉ p.dropLast := fun m => by
    rw [← e] at p2
    exact (List.nodup_append.mp p2).2.2 _ m _ List.mem_cons_self rfl
  have st := cnt_step D p.dropLast (p.getLast p1) nv
  rw [e] at st
  have hl : lastD p = p.getLast p1 := by
    have := lastD_snoc p.dropLast (p.getLast p1)
    rw [e] at this
    exact this
  rw [sum_const (g := wgt D) (c := 2 ^ cntR D p) fun q hq => by
    obtain ⟨y, _, rfl⟩ := List.mem_map.mp hq
    unfold wgt
    rw [List.dropLast_concat]]
  have gl : (growF D p).length = ((nearF (p.getLast p1) D).filter fun y => decide (y ∉ p)).length := by
    unfold growF
    rw [List.length_map, hl]
  rw [gl]
  generalize ((nearF (p.getLast p1) D).filter fun y => decide (y ∉ p)).length = c at st
  unfold wgt
  have h1 : c ≤ 2 ^ c := Nat.le_of_lt Nat.lt_two_pow_self
  have h2 : 2 ^ (c + cntR D p) ≤ 2 ^ cntR D p.dropLast := Nat.pow_le_pow_right (by decide) st
  rw [Nat.pow_add] at h2
  exact Nat.le_trans (Nat.mul_le_mul_right _ h1) h2
theorem lay_len {D : List Pr} {r : Nat} (drs : Drs r D) (r12 : r ≤ 12) (k : Nat) : (layF D r k).length ≤ 12 * 2 ^ D.length := by
  have w : ∀ k, ((layF D r k).map (wgt D)).sum ≤ 12 * 2 ^ D.length := fun k => by
    induction k with
    | zero =>
      rw [sum_const (g := wgt D) (c := 2 ^ D.length) fun q hq => by
        obtain ⟨x, _, rfl⟩ := List.mem_map.mp (show q ∈ (rg r).map (fun x => [x]) from hq)
        unfold wgt cntR
        rw [show ([x] : List Int).dropLast = [] from rfl]
        congr 2
        exact List.filter_eq_self.mpr fun d _ => by simp]
      show ((rg r).map fun x => [x]).length * _ ≤ _
      rw [List.length_map, rg_len]
      exact Nat.mul_le_mul_right _ r12
    | succ k ih =>
      show (((layF D r k).flatMap (growF D)).map (wgt D)).sum ≤ _
      rw [sum_flatV]
      exact Nat.le_trans (sum_le fun p hp => grow_wgt drs hp) ih
  exact Nat.le_trans (len_sum fun p _ => Nat.one_le_two_pow) (w k)
theorem lay_len2 {D : List Pr} {r : Nat} (drs : Drs r D) (r12 : r ≤ 12) : ∀ k : Nat, (layF D r k).length ≤ 12 ^ (k + 1)
  | 0 => by
    show ((rg r).map fun x => [x]).length ≤ 12
    rw [List.length_map, rg_len]
    exact r12
  | k + 1 => by
    show ((layF D r k).flatMap (growF D)).length ≤ _
    rw [List.length_flatMap]
    have ih := lay_len2 drs r12 k
    have h : ((layF D r k).map fun p => (growF D p).length).sum ≤ ((layF D r k).map fun _ => 12).sum := sum_le fun p _ => by
      unfold growF
      rw [List.length_map]
      exact Nat.le_trans (List.length_filter_le _ _) (Nat.le_trans (nearF_len12 drs _) r12)
    rw [sum_const (g := fun _ => 12) (c := 12) fun _ _ => rfl] at h
    rw [Nat.pow_succ]
    exact Nat.le_trans h (Nat.mul_le_mul_right _ ih)

abbrev sAlk : Stmt := topS 28
/-- no path of the house parts the logs -/
def NoP (r : Nat) (D : List Pr) (A B : List Cl) : Prop := ∀ q, (∀ x ∈ q, 0 ≤ x ∧ x < (r : Int)) → ¬ Prt D A B q
section
variable {P : Program} {w : World} {K : PySem.W.Frag} {mg : Str → Option Value} {base : Heap}
theorem scAlk : FnScope ["house", "first", "second"] ["house", "first", "second"] (defScope sAlk) := ⟨rfl, rfl, rfl, by decide +kernel, rfl, by decide +kernel, by decide +kernel⟩
def spAlk (C : Addr) : Sp := fun vs H Q _ => ∃ (p a b : Addr) (us ws : List V) (A B : List Cl) (r : Nat) (D : List Pr) (own : List Addr), vs = [.ref p, .ref a, .ref b] ∧ HouseAt C H p r D own ∧ H a = some (.lst us) ∧ LG H us A ∧ A.length ≤ 1000 ∧ InR r A ∧ H b = some (.lst ws) ∧ LG H ws B ∧ B.length ≤ 1000 ∧ InR r B ∧
  ∀ (k : Bool) (H' : Hp), Same H H' → (k = true ↔ NoP r D A B) → Q (.bl k) H'
theorem ok_alk {f C fP : Addr} {fd fdP : FuncData} (F : Fun K "alike" "alike" sAlk f fd) (d_parting_path : Df P w K mg base "parting_path" ["house", "first", "second"] 4 (spPp C) fP fdP) : FnOk P w K mg base CX0 5 f fd ["house", "first", "second"] (spAlk C) := by
  refine F.ok scAlk (fun vs H Q E h => ?_) (fun cdv A0 outer s H vs Q E hr h => ?_)
  · obtain ⟨p, a, b, us, ws, A, B, r, D, own, rfl, _⟩ := h
    rfl
  · obtain ⟨p, a, b, us, ws, A, B, r, D, own, rfl, hh, ha, la, al, ia, hb, lb, bl, ib, ret⟩ := h
    refine ⟨_, (pss_one (ps_ret (pe_cmpR op_isN (pe_call d_parting_path.ok (hr.mono (by decide)) (by rfl) d_parting_path.at_ d_parting_path.kp d_parting_path.b .nil pass0 (pa_cons (pv 0) (pa_cons (pv 1) (pa_cons (pv 2) pa_nil)))) pe_non (nomark _)))), ?_⟩
    walk_at "rd"
    refine pp_of ⟨p, a, b, us, ws, A, B, r, D, own, rfl, hh, ha, la, al, ia, hb, lb, bl, ib, fun v H' s best => ?_⟩
    dsimp only
    refine ret _ H' s ?_
    rcases best with ⟨q, t, rfl, ht, ⟨hq, hi⟩, _⟩ | ⟨rfl, no⟩
    · constructor
      · intro z
        simp at z
      · intro z
        exact absurd hq (z q hi)
    · constructor
      · intro _ q hi hq
        exact no q ⟨hq, hi⟩
      · intro _
        simp
end

/-! ### alike by parts exactly if no path parts the logs -/
theorem Drs.rng {r : Nat} {D O : List Pr} (drs : Drs r D) (sub : ∀ d ∈ O, d ∈ D) : ∀ d ∈ O, (0 ≤ d.1 ∧ d.1 < (r : Int)) ∧ 0 ≤ d.2 ∧ d.2 < (r : Int) := fun d hd => by
  have := drs.ok d (sub d hd)
  exact ⟨⟨by omega, by omega⟩, by omega, by omega⟩
theorem Rch.into {O : List Pr} {R S : List Int} {s y : Int} (h : Rch O R s y) (c : ∀ z, Rch O R s z → z ∈ S) : Rch O S s y := by
  induction h with
  | base m => exact .base (c _ (.base m))
  | step k a m ih => exact .step ih a (c _ (.step k a m))
theorem Rch.pth {O : List Pr} {R : List Int} {s y : Int} (h : Rch O R s y) : ∃ p, Pth O R s y p := by
  induction h with
  | base m => exact ⟨_, .base m⟩
  | step _ a m ih =>
    obtain ⟨p, hp⟩ := ih
    exact ⟨_, .step hp a m⟩
theorem Pth.to {O D : List Pr} {R S : List Int} {s y : Int} {p : List Int} (h : Pth O R s y p) (a : ∀ d ∈ O, d ∈ D) (b : ∀ x ∈ R, x ∈ S) : Pth D S s y p := by
  induction h with
  | base m => exact .base (b _ m)
  | step _ ad m ih => exact .step ih (ad.elim (fun z => .inl (a _ z)) fun z => .inr (a _ z)) (b _ m)
theorem chn_rch {D O : List Pr} {ps : List Int} {r : Nat} (inr : ∀ x ∈ ps, 0 ≤ x ∧ x < (r : Int)) (ch : Chn D ps) (hO : ∀ a b, Adj D a b → a ∈ ps → b ∈ ps → Adj O a b) : ∀ i, i < ps.length → Rch O (rg r) (ps.getD 0 0) (ps.getD i 0)
  | 0, h => by
    have m : ps.getD 0 0 ∈ ps := by rw [List.getD_eq_getElem?_getD, List.getElem?_eq_getElem h]; exact List.getElem_mem h
    exact .base (mem_rg (inr _ m).1 (inr _ m).2)
  | i + 1, h => by
    have m0 : ps.getD i 0 ∈ ps := by rw [List.getD_eq_getElem?_getD, List.getElem?_eq_getElem (by omega)]; exact List.getElem_mem _
    have m1 : ps.getD (i + 1) 0 ∈ ps := by rw [List.getD_eq_getElem?_getD, List.getElem?_eq_getElem h]; exact List.getElem_mem h
    exact .step (chn_rch inr ch hO i (by omega)) (hO _ _ (ch i h) m0 m1) (mem_rg (inr _ m1).1 (inr _ m1).2)
theorem prt_exists {r : Nat} {D O : List Pr} {A B : List Cl} (sub : ∀ d ∈ O, d ∈ D) (iA : InR r A) (iB : InR r B) {S : List Int} {x : Int} (hS : ∀ y, y ∈ S ↔ Rch O (rg r) x y) (ne : wordP A S ≠ wordP B S) : ∃ q, (∀ x ∈ q, 0 ≤ x ∧ x < (r : Int)) ∧ Prt D A B q := by
  by_cases c : ∃ k : Nat, k < r ∧ wordL A k ≠ wordL B k
  · obtain ⟨k, hk, hne⟩ := c
    exact ⟨[(k : Int)], fun x hx => by rw [List.mem_singleton.mp hx]; exact ⟨by omega, by omega⟩, ⟨by simp, by simp, fun i hi => absurd hi (by show ¬ i + 1 < 1; omega)⟩, hne⟩
  have eq : ∀ k : Nat, k < r → wordL A k = wordL B k := fun k hk => Classical.byContradiction fun z => c ⟨k, hk, z⟩
  obtain ⟨a, b, hc, ha, hb, top⟩ := comp_cross (rs := A.map (·.1)) iA iB (fun _ => Iff.rfl) eq ne
  have rab : Rch O (rg r) a b := ((hS a).mp ha).symm.trans ((hS b).mp hb)
  have inH : ∀ z, Rch O (rg r) a z → z ∈ hallF r A B a b := fun z hz => by
    have hz2 : z ∈ S := (hS z).mpr (((hS a).mp ha).trans hz)
    refine List.mem_filter.mpr ⟨hz.mem, ?_⟩
    rw [Bool.and_eq_true, decide_eq_true_iff, decide_eq_true_iff]
    exact top z hz2
  obtain ⟨p, hp⟩ := (rab.into inH).pth
  obtain ⟨q, hq, _⟩ := Lst.ex (fun z hz => (rg_mem (List.mem_filter.mp hz).1).1) (hp.to sub fun _ h => h)
  have hrs : ∀ x ∈ A.map (·.1), 0 ≤ x ∧ x < (r : Int) := fun x hx => by
    obtain ⟨c', hc', rfl⟩ := List.mem_map.mp hx
    exact iA c' hc'
  exact ⟨q, fun x hx => rg_mem (List.mem_filter.mp (hq.1.inR x hx)).1, part_of hc hrs eq (.inl hq)⟩
theorem nop_alk {D : List Pr} {r : Nat} {A B : List Cl} (drs : Drs r D) (iA : InR r A) (iB : InR r B) : NoP r D A B ↔ AlkP D (rg r) A B := by
  constructor
  · intro h Q hQ sub
    refine Classical.byContradiction fun ne => ?_
    obtain ⟨up, s, sQ, hr⟩ := hQ
    let O := D.filter fun d => decide (d.1 ∈ Q) && decide (d.2 ∈ Q)
    have subO : ∀ d ∈ O, d ∈ D := fun d hd => (List.mem_filter.mp hd).1
    have inO : ∀ d ∈ O, d.1 ∈ Q ∧ d.2 ∈ Q := fun d hd => by
      have := (List.mem_filter.mp hd).2
      rw [Bool.and_eq_true, decide_eq_true_iff, decide_eq_true_iff] at this
      exact this
    have hS : ∀ y, y ∈ Q ↔ Rch O (rg r) s y := fun y => by
      constructor
      · intro hy
        have k := hr y hy
        clear hy
        induction k with
        | base m => exact .base (sub _ m)
        | step k a m ih =>
          refine .step ih ?_ (sub _ m)
          have mk := k.mem
          rcases a with z | z
          · exact .inl (List.mem_filter.mpr ⟨z, by simp [mk, m]⟩)
          · exact .inr (List.mem_filter.mpr ⟨z, by simp [mk, m]⟩)
      · intro k
        induction k with
        | base m => exact sQ
        | step k a m ih =>
          rcases a with z | z
          · exact (inO _ z).2
          · exact (inO _ z).1
    obtain ⟨q, inr, hp⟩ := prt_exists subO iA iB hS ne
    exact h q inr hp
  · intro h q inr hp
    obtain ⟨⟨h1, h2, h3⟩, ne⟩ := hp
    have l1 := List.length_pos_iff.mpr h1
    have m0 : q.getD 0 0 ∈ q := by rw [List.getD_eq_getElem?_getD, List.getElem?_eq_getElem l1]; exact List.getElem_mem l1
    have k1 : ∀ i, i < q.length → Rch D q (q.getD 0 0) (q.getD i 0) := fun i => by
      induction i with
      | zero => exact fun _ => .base m0
      | succ i ih =>
        intro hi
        have m1 : q.getD (i + 1) 0 ∈ q := by rw [List.getD_eq_getElem?_getD, List.getElem?_eq_getElem hi]; exact List.getElem_mem hi
        exact .step (ih (by omega)) (h3 i hi) m1
    have mQ : ∀ x, x ∈ upF q ↔ x ∈ q := fun x => upF_mem _ _
    refine ne ?_
    rw [← wordP_congr mQ A, ← wordP_congr mQ B]
    refine h (upF q) ⟨upF_up q, q.getD 0 0, (mQ _).mpr m0, fun x hx => ?_⟩ fun z hz => ?_
    · obtain ⟨i, hi, e⟩ := mem_at ((mQ x).mp hx)
      have k := k1 i hi
      rw [e] at k
      clear e hx
      induction k with
      | base m => exact .base ((mQ _).mpr m)
      | step _ a m ih => exact .step ih a ((mQ _).mpr m)
    · have := inr z ((mQ z).mp hz)
      exact mem_rg this.1 this.2

/-! ### comprehensions with one name, over a tuple; over ints, kept by a test -/
theorem gc_tup {β : Type} {K : PySem.W.Frag} {a : Addr} {xs : List V} {i : Nat} {tt : TT} {te : TE} {σ : L2.St} {H1 : Hp} {Q : VK} (rel : Hp → V → β → Prop) (up : ∀ H H' v b, rel H v b → KT H H' → rel H' v b) (sel : Nat → Option β) (ha : H1 a = some (.tup xs)) (len : xs.length ≤ 100000)
    (step : ∀ (j : Nat) (x : V) (Hx : Hp) (A : VK) (B : Hp → Prop), xs[j]? = some x → Same H1 Hx → (∀ v b Hy, sel j = some b → Same Hx Hy → rel Hy v b → A v Hy) → (∀ Hy, sel j = none → Same Hx Hy → B Hy) → tt (σ.set i (some x)) Hx fun c H3 => if c = true then te (σ.set i (some x)) H3 A else B H3)
    (q : ∀ o ys H', Same H1 H' → H1 o = none → H' o = some (.lst ys) → Paired (rel H') ys ((List.range xs.length).filterMap sel) → Q (.ref o) H') :
    tLc (fun _ H R => R (Itt K a) H) (gName i) tt te [i] σ H1 Q := by
  intro D nD
  obtain ⟨Pv, hPv⟩ : ∃ Pv : Nat → Hp → Prop, Pv = (fun j Hx => ∃ ys, Same H1 Hx ∧ Hx D = some (.lst ys) ∧ Paired (rel Hx) ys ((List.range j).filterMap sel)) := ⟨_, rfl⟩
  refine lc_tup (K := K) (a := a) (xs := xs) Pv (by rw [hPv]; exact ⟨[], same_upd nD, upd_same, Paired.nil⟩) (fun j H' _ pv => by rw [hPv] at pv; obtain ⟨_, sm, _⟩ := pv; exact SqT.of (sm _ _ ha)) (fun j x H' gx pv => ?_) (fun H' pv => ?_)
  · rw [hPv] at pv
    obtain ⟨ys, sm, hD, pr⟩ := pv
    have jl := (List.getElem?_eq_some_iff.mp gx).1
    have yl : ys.length ≤ j := by rw [pr.length]; exact fm_len sel j
    have ew : (wipe σ [i]).set i (some x) = σ.set i (some x) := by show (σ.set i none).set i (some x) = _; rw [List.set_set]
    show wipe ((wipe σ [i]).set i (some x)) [i] = wipe σ [i] ∧ tt ((wipe σ [i]).set i (some x)) H' fun c H3 => if c = true then te ((wipe σ [i]).set i (some x)) H3 _ else _
    rw [ew]
    refine ⟨by show (σ.set i (some x)).set i none = σ.set i none; rw [List.set_set], ?_⟩
    refine step j x H' _ _ gx sm (fun v b Hy es sy r => ?_) (fun Hy es sy => ?_)
    · have hD2 := sy _ _ hD
      refine ⟨ys, hD2, len_big (by omega), ?_⟩
      rw [hPv]
      refine ⟨ys ++ [v], same_ch (sm.trans sy) nD, upd_same, ?_⟩
      rw [fm_step, es]
      have kt : KT Hy (upd Hy D (HO.lst (ys ++ [v]))) := KT.lst hD2
      exact Paired.snoc (Paired.mapP pr fun v b h => up _ _ _ _ (up _ _ _ _ h (KT.same sy)) kt) (up _ _ _ _ r kt)
    · rw [hPv]
      refine ⟨ys, sm.trans sy, sy _ _ hD, ?_⟩
      rw [fm_step, es, List.append_nil]
      exact Paired.mapP pr fun v b h => up _ _ _ _ h (KT.same sy)
  · rw [hPv] at pv
    obtain ⟨ys, sm, hD, pr⟩ := pv
    exact q D ys H' sm nD hD pr
theorem fm_if {α : Type} (p : α → Bool) : ∀ l : List α, l.filterMap (fun x => if p x = true then some x else none) = l.filter p
  | [] => rfl
  | a :: l => by
    rw [List.filterMap_cons, fm_if p l]
    by_cases c : p a = true
    · rw [if_pos c, List.filter_cons_of_pos c]
    · rw [if_neg c, List.filter_cons_of_neg c]
theorem lc_filtL {K : PySem.W.Frag} {a : Addr} {xs : List Int} {i : Nat} {tt : TT} {p : Int → Bool} {σ : L2.St} {H1 : Hp} {Q : VK} (ha : H1 a = some (.lst (xs.map V.int))) (len : xs.length ≤ 100000) (hi : i < σ.length)
    (step : ∀ (x : Int) (Hx : Hp) (B : Bool → Hp → Prop), x ∈ xs → Same H1 Hx → B (p x) Hx → tt (σ.set i (some (.int x))) Hx B)
    (q : ∀ o H', Same H1 H' → H1 o = none → H' o = some (.lst ((xs.filter p).map V.int)) → Q (.ref o) H') :
    tLc (fun _ H R => R (Itl K a) H) (gName i) tt (tVar i) [i] σ H1 Q := by
  refine gc_list IsI (fun _ _ _ _ h _ => h) (fun j => xs[j]?.bind fun x => if p x = true then some x else none) ha (by rw [List.length_map]; exact len) (fun j x Hx A B gx sx hA hB => ?_) (fun o ys H' s no ho pr => ?_)
  · rw [List.getElem?_map] at gx
    cases e : xs[j]? with
    | none => rw [e] at gx; cases gx
    | some y =>
      rw [e] at gx hA hB
      have ex := Option.some.inj gx
      subst ex
      refine step y Hx _ (List.mem_of_getElem? e) sx ?_
      by_cases c : p y = true
      · rw [if_pos c]
        exact ⟨_, by rw [List.getElem?_set_self hi], hA _ y Hx (if_pos c) (Same.refl _) rfl⟩
      · rw [if_neg c]
        exact hB Hx (if_neg c) (Same.refl _)
  · refine q o H' s no ?_
    have e := isI_map pr
    rw [List.length_map, fm_range (L := xs) (fun x => if p x = true then some x else none), fm_if] at e
    rw [e] at ho
    exact ho
theorem lc_filtT {K : PySem.W.Frag} {a : Addr} {xs : List Int} {i : Nat} {tt : TT} {p : Int → Bool} {σ : L2.St} {H1 : Hp} {Q : VK} (ha : H1 a = some (.tup (xs.map V.int))) (len : xs.length ≤ 100000) (hi : i < σ.length)
    (step : ∀ (x : Int) (Hx : Hp) (B : Bool → Hp → Prop), x ∈ xs → Same H1 Hx → B (p x) Hx → tt (σ.set i (some (.int x))) Hx B)
    (q : ∀ o H', Same H1 H' → H1 o = none → H' o = some (.lst ((xs.filter p).map V.int)) → Q (.ref o) H') :
    tLc (fun _ H R => R (Itt K a) H) (gName i) tt (tVar i) [i] σ H1 Q := by
  refine gc_tup IsI (fun _ _ _ _ h _ => h) (fun j => xs[j]?.bind fun x => if p x = true then some x else none) ha (by rw [List.length_map]; exact len) (fun j x Hx A B gx sx hA hB => ?_) (fun o ys H' s no ho pr => ?_)
  · rw [List.getElem?_map] at gx
    cases e : xs[j]? with
    | none => rw [e] at gx; cases gx
    | some y =>
      rw [e] at gx hA hB
      have ex := Option.some.inj gx
      subst ex
      refine step y Hx _ (List.mem_of_getElem? e) sx ?_
      by_cases c : p y = true
      · rw [if_pos c]
        exact ⟨_, by rw [List.getElem?_set_self hi], hA _ y Hx (if_pos c) (Same.refl _) rfl⟩
      · rw [if_neg c]
        exact hB Hx (if_neg c) (Same.refl _)
  · refine q o H' s no ?_
    have e := isI_map pr
    rw [List.length_map, fm_range (L := xs) (fun x => if p x = true then some x else none), fm_if] at e
    rw [e] at ho
    exact ho

/-! ### called_keepers -/
abbrev sCke : Stmt := topS 31
theorem optR_some {o : Option Cl} {c : Cl} (h : o = some c) : optR o = .int c.1 := by rw [h]; rfl
theorem optW_S (L : List Cl) (R : List Int) : optW (lastIn R L) = optS (wordP L R) := by
  unfold wordP
  cases lastIn R L <;> rfl
theorem decS (o o' : Option Str) : decide (optS o = optS o') = decide (o = o') := by
  rw [decide_eq_decide]
  exact ⟨optS_inj, fun h => by rw [h]⟩
theorem flat_nd {D : List Pr} {R : List Int} {Ps : List (List Int)} {g : List Int → List Int} (hs : Pcs D R Ps) (nd : ∀ Q, (g Q).Nodup) (inQ : ∀ Q, ∀ x ∈ g Q, x ∈ Q) : (Ps.flatMap g).Nodup := by
  refine List.pairwise_flatMap.mpr ⟨fun Q _ => nd Q, List.Pairwise.imp_of_mem (fun {a b} ma mb h x hx y hy e => ?_) hs.asc⟩
  subst e
  have := hs.apart ma mb (inQ a _ hx) (inQ b _ hy)
  rw [this] at h
  omega
theorem keepL_nd {D : List Pr} {L : List Cl} : ∀ (n : Nat) (P : List Int), (keepL D L n P).Nodup
  | 0, _ => List.nodup_nil
  | n + 1, P => by
    unfold keepL
    cases e : lastIn P L with
    | none => exact List.nodup_nil
    | some c =>
      have hs := pcsF_spec D (P.filter fun x => decide (x ≠ c.1))
      have inQ : ∀ Q : List Int, ∀ x ∈ (if wordP L Q = some c.2 then keepL D L n Q else []), x ∈ Q := fun Q x hx => by
        split at hx
        · exact keepL_sub n Q x hx
        · cases hx
      refine List.nodup_cons.mpr ⟨fun m => ?_, flat_nd hs (fun Q => ?_) inQ⟩
      · obtain ⟨Q, hQ, hx⟩ := List.mem_flatMap.mp m
        have := (List.mem_filter.mp (hs.sub_of hQ _ (inQ Q _ hx))).2
        exact of_decide_eq_true this rfl
      · split
        · exact keepL_nd n Q
        · exact List.Pairwise.nil
theorem keepL_len {D : List Pr} {L : List Cl} : ∀ (n : Nat) (P : List Int), (keepL D L n P).length ≤ P.length := fun n P => int_sub_len2 (keepL_nd n P) (keepL_sub n P)
section
variable {P : Program} {w : World} {K : PySem.W.Frag} {mg : Str → Option Value} {base : Heap}
theorem scCke : FnScope ["house", "calls", "part", "top", "found", "piece", "room"] ["house", "calls", "part"] (defScope sCke) := ⟨rfl, rfl, rfl, by decide +kernel, rfl, by decide +kernel, by decide +kernel⟩
def spCke (C : Addr) (n : Nat) : Sp := fun vs H Q _ => ∃ (p g o : Addr) (gs : List V) (L : List Cl) (R : List Int) (r : Nat) (D : List Pr) (own : List Addr), vs = [.ref p, .ref g, .ref o] ∧ HouseAt C H p r D own ∧ H g = some (.lst gs) ∧ LG H gs L ∧ H o = some (.tup (R.map V.int)) ∧ R.length ≤ n ∧ n ≤ 12 ∧ Up R ∧ (∀ x ∈ R, 0 ≤ x ∧ x < r) ∧ (∃ w, wordP L R = some w) ∧
  ∀ (t : Addr) (H' : Hp), Same H H' → H t = none → H' t = some (.lst ((keepL D L n R).map V.int)) → Q (.ref t) H'
theorem ok_cke {f C fP fT fW : Addr} {fd fdP fdT fdW : FuncData} (F : Fun K "called_keepers" "called_keepers" sCke f fd) (T : Bi mg) (bd : Binds K fd ["house", "calls", "part"] []) (hmg : mg "called_keepers" = some (.ref f)) (d_pieces : Df P w K mg base "pieces" ["house", "rooms"] 4 (spPcs K C) fP fdP) (d_top_room : Df P w K mg base "top_room" ["log", "rooms"] 2 (spTopR K optR) fT fdT) (d_word_of : Df P w K mg base "word_of" ["log", "rooms"] 2 (spTopR K optW) fW fdW) : ∀ n, FnOk P w K mg base CX0 (n + 5) f fd ["house", "calls", "part"] (spCke C n) := by
  intro n
  induction n with
  | zero =>
    refine F.ok scCke (fun vs H Q E h => ?_) (fun cdv A0 outer s H vs Q E hr h => ?_)
    · obtain ⟨p, g, o, gs, L, R, r, D, own, rfl, _⟩ := h
      rfl
    · obtain ⟨p, g, o, gs, L, R, r, D, own, rfl, hh, hg, lg, ho, rn, n12, up, hR, ⟨w0, hw⟩, ret⟩ := h
      exfalso
      rw [List.length_eq_zero_iff.mp (Nat.le_zero.mp rn)] at hw
      rw [wordP_out fun c _ z => by cases z] at hw
      cases hw
  | succ n ih =>
    refine F.ok scCke (fun vs H Q E h => ?_) (fun cdv A0 outer s H vs Q E hr h => ?_)
    · obtain ⟨p, g, o, gs, L, R, r, D, own, rfl, _⟩ := h
      rfl
    · obtain ⟨p, g, o, gs, L, R, r, D, own, rfl, hh, hg, lg, ho, rn, n12, up, hR, ⟨w0, hw⟩, ret⟩ := h
      refine ⟨_, (pss_cons (ps_set (i := 3) scCke.nd rfl (Or.inr rfl) (pe_call d_top_room.ok (hr.mono (by omega)) (by rfl) d_top_room.at_ d_top_room.kp d_top_room.b .nil pass0 (pa_cons (pv 1) (pa_cons (pv 2) pa_nil))))
      (pss_cons (ps_set (i := 4) scCke.nd rfl (Or.inl rfl) (pe_lst (pa_cons (pv 3) pa_nil)))
      (pss_cons (ps_for PassesOwn.never rfl (pi_list (pe_call d_pieces.ok (hr.mono (by omega)) (by rfl) d_pieces.at_ d_pieces.kp d_pieces.b .nil pass0 (pa_cons (pv 0) (pa_cons (pe_lc (own := [("room", 6)]) (te := (tVar 6)) (tt := (tTest (tOp (rI0 fun i j => V.bl (!decide (i = j))) (tVar 6) (tVar 3)))) (by rfl) scCke.nd (pi_tup (pv 2)) (blkOk_by (N := ["house", "calls", "part", "top", "found", "piece", "room"]) (sc := defScope sCke) (by decide +kernel)) (fun _ _ _ _ _ => pg_name (i := 6) scCke.nd rfl (Or.inl rfl)) (fun _ _ _ _ _ => (pts_one (pt_cmpR op_neI (pv 6) (pv 3) (nomark _)))) (fun _ _ _ _ _ => (pv 6))) pa_nil)))) (pg_name (i := 5) scCke.nd rfl (Or.inl rfl))
      (pss_one (ps_if (pt_cmpR op_eq (pe_call d_word_of.ok (hr.mono (by omega)) (by rfl) d_word_of.at_ d_word_of.kp d_word_of.b .nil pass0 (pa_cons (pv 1) (pa_cons (pv 5) pa_nil))) (pe_call d_word_of.ok (hr.mono (by omega)) (by rfl) d_word_of.at_ d_word_of.kp d_word_of.b .nil pass0 (pa_cons (pv 1) (pa_cons (pv 2) pa_nil))) (nomark _))
        (pss_one (ps_expr (pe_bm PySem.F.plainAttrs_list PySem.F.slot_list_extend PySem.F.type_list_extend mt_extend (pv 4) (pa_cons (pe_call ih hr (by rfl) hmg F.kp bd .nil pass0 (pa_cons (pv 0) (pa_cons (pv 1) (pa_cons (pv 5) pa_nil)))) pa_nil))))
        pss_nil)))
      (pss_one (ps_ret (pv 4)))))), ?_⟩
      walk_at "rd"
      obtain ⟨c, ec, ew⟩ : ∃ c, lastIn R L = some c ∧ c.2 = w0 := by
        unfold wordP at hw
        cases e : lastIn R L with
        | none => rw [e] at hw; cases hw
        | some c => rw [e] at hw; exact ⟨c, rfl, Option.some.inj hw⟩
      subst ew
      have cR := lastIn_in ec
      have r12 := hh.r12
      refine ⟨g, o, gs, L, R, rfl, hg, lg, .inr (SqT.of ho), ?_⟩
      rw [optR_some ec]
      refine ⟨by decide, fun fn nfn => ?_⟩
      have s1 := same_upd (o := HO.lst [V.int c.1]) nfn
      have hfn := upd_same (H := H) (a := fn) (o := HO.lst [V.int c.1])
      generalize upd H fn (HO.lst [V.int c.1]) = H1 at s1 hfn ⊢
      refine for_iterW ?_
      walk_at "rd"
      refine lcW ?_
      unfold iTup
      walk_at "rd"
      refine ⟨⟨_, SqT.of (s1 _ _ ho)⟩, lc_filtT (p := fun x => decide (x ≠ c.1)) (s1 _ _ ho) (by omega) (by simp) (fun x Hx B xm sx hB => ?_) fun oo H2 s2 noo hoo => ?_⟩
      · walk_at "rd"
        have e : (!decide (x = c.1)) = decide (x ≠ c.1) := by by_cases z : x = c.1 <;> simp [z]
        rw [e]
        exact hB
      have s12 := s1.trans s2
      have fl : (R.filter fun x => decide (x ≠ c.1)).length ≤ R.length := List.length_filter_le _ _
      refine ⟨p, oo, _, r, D, own, rfl, hh.same s12, .inl (SqL.of hoo), by omega, fun x hx => hR x (List.mem_filter.mp hx).1, fun Ps us t H3 pcs s3 nt ht rl => ?_⟩
      have eP := pcsF_eq pcs
      have s13 := s12.trans s3
      obtain ⟨gF, hgF⟩ : ∃ gF : List Int → List Int, gF = fun Q => if wordP L Q = some c.2 then keepL D L n Q else [] := ⟨_, rfl⟩
      have eK : keepL D L (n + 1) R = c.1 :: Ps.flatMap gF := by
        rw [hgF, ← eP]
        show (match lastIn R L with | none => [] | some c => _) = _
        rw [ec]
      have inG : ∀ i, ((Ps.take i).flatMap gF).length ≤ 12 := fun i => by
        have h1 := keepL_len (D := D) (L := L) (n + 1) R
        rw [eK, List.length_cons] at h1
        have h2 : ((Ps.take i).flatMap gF).length ≤ (Ps.flatMap gF).length := by
          conv => rhs; rw [← List.take_append_drop i Ps]
          rw [List.flatMap_append, List.length_append]
          omega
        omega
      obtain ⟨Pv, hPv⟩ : ∃ Pv : Nat → L2.St → Hp → Prop, Pv = (fun i σ Hx => ∃ v5 : Option V, σ = [some (.ref p), some (.ref g), some (.ref o), some (.int c.1), some (.ref fn), v5, none] ∧ Same H Hx ∧ Hx fn = some (.lst ((c.1 :: (Ps.take i).flatMap gF).map V.int)) ∧ Hx t = some (.lst us) ∧ RL Hx us Ps) := ⟨_, rfl⟩
      have hfn3 := s3 _ _ (s2 _ _ hfn)
      have ntf : t ≠ fn := (ne_of_none (s2 _ _ hfn) nt).symm
      refine ⟨t, rfl, ⟨_, SqL.of ht⟩, for_list (K := K) (a := t) (xs := us) Pv (by rw [hPv]; exact ⟨none, rfl, s13, hfn3, ht, rl⟩) (fun i σ Hx _ pv => by rw [hPv] at pv; obtain ⟨_, _, _, _, h, _⟩ := pv; exact SqL.of h) (fun i v σ Hx gv pv => ?_) (fun σ Hx pv => ?_)⟩
      rotate_left
      · rw [hPv] at pv
        obtain ⟨v5, rfl, sx, hf, _, _⟩ := pv
        rw [rl.len, List.take_length] at hf
        walk_at "rd"
        exact ret fn Hx sx nfn (by rw [eK]; exact hf)
      rw [hPv] at pv
      obtain ⟨v5, rfl, sx, hf, htx, rlx⟩ := pv
      obtain ⟨Q0, gQ, tq, rfl, htq⟩ := lget rlx gv
      have QP : Q0 ∈ Ps := List.mem_of_getElem? gQ
      have tk : Ps.take (i + 1) = Ps.take i ++ [Q0] := by rw [List.take_add_one, gQ]; rfl
      have Qsub : ∀ x ∈ Q0, x ∈ R ∧ x ≠ c.1 := fun x hx => by
        have := List.mem_filter.mp (pcs.sub_of QP x hx)
        exact ⟨this.1, of_decide_eq_true this.2⟩
      have Qup := (pcs.part QP).1
      have Qlen : Q0.length ≤ n := by
        have h1 := int_sub_len2 (up_nd Qup) (pcs.sub_of QP)
        have h2 : (R.filter fun x => decide (x ≠ c.1)).length < R.length := filter_lt cR (by simp)
        omega
      walk_at "rd"
      refine ⟨g, tq, gs, L, Q0, rfl, sx _ _ hg, lg.kt (KT.same sx), .inr (SqT.of htq), ?_⟩
      refine ⟨g, o, gs, L, R, rfl, sx _ _ hg, lg.kt (KT.same sx), .inr (SqT.of (sx _ _ ho)), ?_⟩
      rw [optW_S, optW_S, hw]
      refine ⟨optS_scal _ _, _, rfl, ?_⟩
      rw [decS]
      by_cases m : wordP L Q0 = some c.2
      · rw [decide_eq_true m]
        refine iteT ?_
        refine ⟨.inl ⟨rfl, _, SqL.of hf⟩, p, g, tq, gs, L, Q0, r, D, own, rfl, hh.same sx, sx _ _ hg, lg.kt (KT.same sx), htq, Qlen, by omega, Qup, fun x hx => hR x (Qsub x hx).1, ⟨_, m⟩, fun ta Hy sy nta hta => ?_⟩
        have hf2 := sy _ _ hf
        have eG : gF Q0 = keepL D L n Q0 := by rw [hgF]; exact if_pos m
        have kl := keepL_len (D := D) (L := L) n Q0
        walk_at "rd"
        refine ⟨_, hf2, _, hta, Nat.le_of_lt (len_big (by rw [List.length_map, List.length_map, List.length_cons]; have := inG i; omega)), ?_⟩
        rw [hPv]
        have kt : KT Hy (upd Hy fn (HO.lst ((c.1 :: (Ps.take i).flatMap gF).map V.int ++ (keepL D L n Q0).map V.int))) := KT.lst hf2
        refine ⟨_, rfl, same_ch (sx.trans sy) nfn, ?_, by rw [upd_ne ntf]; exact sy _ _ htx, (rlx.kt (KT.same sy)).kt kt⟩
        · rw [upd_same, tk, List.flatMap_append, List.flatMap_cons, List.flatMap_nil, List.append_nil, eG, ← List.map_append]
          rfl
      · rw [decide_eq_false m]
        refine iteF ?_
        have eG : gF Q0 = [] := by rw [hgF]; exact if_neg m
        rw [hPv]
        refine ⟨_, rfl, sx, ?_, htx, rlx⟩
        rw [tk, List.flatMap_append, List.flatMap_cons, List.flatMap_nil, List.append_nil, eG, List.append_nil]
        exact hf
end

/-! ### _law_tops -/
abbrev sLts : Stmt := topS 55
theorem upF_len (R : List Int) : (upF R).length ≤ R.length := int_sub_len2 (up_nd (upF_up R)) fun x hx => (upF_mem R x).mp hx
section
variable {P : Program} {w : World} {K : PySem.W.Frag} {mg : Str → Option Value} {base : Heap}
theorem scLts : FnScope ["doors", "log", "part", "word", "top", "tops", "piece", "r"] ["doors", "log", "part", "word"] (defScope sLts) := ⟨rfl, rfl, rfl, by decide +kernel, rfl, by decide +kernel, by decide +kernel⟩
noncomputable def topsF (D : List Pr) (L : List Cl) (n : Nat) (R : List Int) (z : Str) : List Int := if wordP L R = some z then upF (keepL D L n R) else []
def spLts (n : Nat) : Sp := fun vs H Q _ => ∃ (l g o : Addr) (us gs : List V) (D : List Pr) (L : List Cl) (R : List Int) (z : Str), vs = [.ref l, .ref g, .ref o, .str z] ∧ H l = some (.lst us) ∧ PL H us D ∧ H g = some (.lst gs) ∧ LG H gs L ∧ H o = some (.tup (R.map V.int)) ∧ R.length ≤ n ∧ n ≤ 12 ∧ (∀ x ∈ R, 0 ≤ x) ∧
  ∀ (t : Addr) (H' : Hp), Same H H' → H t = none → H' t = some (.lst ((topsF D L n R z).map V.int)) → Q (.ref t) H'
theorem ok_lts {f fP fT fW : Addr} {fd fdP fdT fdW : FuncData} (F : Fun K "_law_tops" "_law_tops" sLts f fd) (T : Bi mg) (bd : Binds K fd ["doors", "log", "part", "word"] []) (hmg : mg "_law_tops" = some (.ref f)) (d__law_pieces : Df P w K mg base "_law_pieces" ["doors", "rooms"] 2 (spLpc K) fP fdP) (d__law_top : Df P w K mg base "_law_top" ["log", "rooms"] 1 (spTopR K optR) fT fdT) (d__law_word_of : Df P w K mg base "_law_word_of" ["log", "rooms"] 1 (spTopR K optW) fW fdW) : ∀ n, FnOk P w K mg base CX0 (n + 3) f fd ["doors", "log", "part", "word"] (spLts n) := by
  intro n
  induction n with
  | zero =>
    refine F.ok scLts (fun vs H Q E h => ?_) (fun cdv A0 outer s H vs Q E hr h => ?_)
    · obtain ⟨l, g, o, us, gs, D, L, R, z, rfl, _⟩ := h
      rfl
    · obtain ⟨l, g, o, us, gs, D, L, R, z, rfl, hl, pl, hg, lg, ho, rn, n12, hR, ret⟩ := h
      refine ⟨_, (pss_cons (ps_set (i := 4) scLts.nd rfl (Or.inr rfl) (pe_call d__law_top.ok (hr.mono (by omega)) (by rfl) d__law_top.at_ d__law_top.kp d__law_top.b .nil pass0 (pa_cons (pv 1) (pa_cons (pv 2) pa_nil))))
      (pss_cons (ps_if (PW.pt (pw_or (pt_cmpR op_isN (pv 4) pe_non (nomark _)) (pw_or1 (pt_cmpR op_ne (pe_call d__law_word_of.ok (hr.mono (by omega)) (by rfl) d__law_word_of.at_ d__law_word_of.kp d__law_word_of.b .nil pass0 (pa_cons (pv 1) (pa_cons (pv 2) pa_nil))) (pv 3) (nomark _)))))
      (pss_one (ps_ret (pe_lst pa_nil)))
      pss_nil)
      (pss_cons (ps_set (i := 5) scLts.nd rfl (Or.inl rfl) (pe_lst (pa_cons (pv 4) pa_nil)))
      (pss_cons (ps_never)
      (pss_one (ps_ret (pe_callB cr_sorted (by rfl) T.sorted (by decide +kernel) (pa_cons (pv 5) pa_nil)))))))), ?_⟩
      have R0 := List.length_eq_zero_iff.mp (Nat.le_zero.mp rn)
      subst R0
      walk_at "rd"
      refine ⟨g, o, gs, L, [], rfl, hg, lg, .inr (SqT.of ho), ?_⟩
      rw [show lastIn [] L = none from lastIn_none.mpr fun c _ z => by cases z]
      dsimp only
      rw [if_pos (show optR none = V.non from rfl), if_pos trivial]
      refine ⟨by decide, fun t nt => ret t _ (same_upd nt) nt ?_⟩
      rw [upd_same]
      unfold topsF
      rw [if_neg (by rw [wordP_out fun c _ z => by cases z]; simp)]
      rfl
  | succ n ih =>
    refine F.ok scLts (fun vs H Q E h => ?_) (fun cdv A0 outer s H vs Q E hr h => ?_)
    · obtain ⟨l, g, o, us, gs, D, L, R, z, rfl, _⟩ := h
      rfl
    · obtain ⟨l, g, o, us, gs, D, L, R, z, rfl, hl, pl, hg, lg, ho, rn, n12, hR, ret⟩ := h
      refine ⟨_, (pss_cons (ps_set (i := 4) scLts.nd rfl (Or.inr rfl) (pe_call d__law_top.ok (hr.mono (by omega)) (by rfl) d__law_top.at_ d__law_top.kp d__law_top.b .nil pass0 (pa_cons (pv 1) (pa_cons (pv 2) pa_nil))))
      (pss_cons (ps_if (PW.pt (pw_or (pt_cmpR op_isN (pv 4) pe_non (nomark _)) (pw_or1 (pt_cmpR op_ne (pe_call d__law_word_of.ok (hr.mono (by omega)) (by rfl) d__law_word_of.at_ d__law_word_of.kp d__law_word_of.b .nil pass0 (pa_cons (pv 1) (pa_cons (pv 2) pa_nil))) (pv 3) (nomark _)))))
      (pss_one (ps_ret (pe_lst pa_nil)))
      pss_nil)
      (pss_cons (ps_set (i := 5) scLts.nd rfl (Or.inl rfl) (pe_lst (pa_cons (pv 4) pa_nil)))
      (pss_cons (ps_for PassesOwn.never rfl (pi_list (pe_call d__law_pieces.ok (hr.mono (by omega)) (by rfl) d__law_pieces.at_ d__law_pieces.kp d__law_pieces.b .nil pass0 (pa_cons (pv 0) (pa_cons (pe_lc (own := [("r", 7)]) (te := (tVar 7)) (tt := (tTest (tOp (rI0 fun i j => V.bl (!decide (i = j))) (tVar 7) (tVar 4)))) (by rfl) scLts.nd (pi_tup (pv 2)) (blkOk_by (N := ["doors", "log", "part", "word", "top", "tops", "piece", "r"]) (sc := defScope sLts) (by decide +kernel)) (fun _ _ _ _ _ => pg_name (i := 7) scLts.nd rfl (Or.inl rfl)) (fun _ _ _ _ _ => (pts_one (pt_cmpR op_neI (pv 7) (pv 4) (nomark _)))) (fun _ _ _ _ _ => (pv 7))) pa_nil)))) (pg_name (i := 6) scLts.nd rfl (Or.inl rfl))
      (pss_one (ps_expr (pe_bm PySem.F.plainAttrs_list PySem.F.slot_list_extend PySem.F.type_list_extend mt_extend (pv 5) (pa_cons (pe_call ih hr (by rfl) hmg F.kp bd .nil pass0 (pa_cons (pv 0) (pa_cons (pv 1) (pa_cons (pv 6) (pa_cons (pv 3) pa_nil))))) pa_nil)))))
      (pss_one (ps_ret (pe_callB cr_sorted (by rfl) T.sorted (by decide +kernel) (pa_cons (pv 5) pa_nil)))))))), ?_⟩
      walk_at "rd"
      refine ⟨g, o, gs, L, R, rfl, hg, lg, .inr (SqT.of ho), ?_⟩
      cases ec : lastIn R L with
      | none =>
        try dsimp only
        rw [if_pos (show optR none = V.non from rfl), if_pos trivial]
        refine ⟨by decide, fun t nt => ret t _ (same_upd nt) nt ?_⟩
        rw [upd_same]
        unfold topsF
        rw [if_neg (by unfold wordP; rw [ec]; simp)]
        rfl
      | some c =>
        try dsimp only
        rw [if_neg (show ¬ optR (some c) = V.non from fun z => by cases z)]
        refine ⟨g, o, gs, L, R, rfl, hg, lg, .inr (SqT.of ho), ?_⟩
        rw [optW_S]
        have scS : ∀ o' : Option Str, scal (optS o') (V.str z) = true := fun o' => by cases o' <;> rfl
        refine ⟨scS _, _, rfl, ?_⟩
        have eS : decide (optS (wordP L R) = V.str z) = decide (wordP L R = some z) := decS _ (some z)
        rw [eS]
        by_cases hz : wordP L R = some z
        rotate_left
        · rw [decide_eq_false hz]
          refine iteT ?_
          refine ⟨by decide, fun t nt => ret t _ (same_upd nt) nt ?_⟩
          rw [upd_same]
          unfold topsF
          rw [if_neg hz]
          rfl
        rw [decide_eq_true hz]
        refine iteF ?_
        have cz : c.2 = z := by
          unfold wordP at hz
          rw [ec] at hz
          exact Option.some.inj hz
        have cR := lastIn_in ec
        refine ⟨by decide, fun fn nfn => ?_⟩
        have s1 := same_upd (o := HO.lst [V.int c.1]) nfn
        have hfn := upd_same (H := H) (a := fn) (o := HO.lst [V.int c.1])
        refine (show tFor _ _ _ _ _ (upd H fn (HO.lst [V.int c.1])) from ?_)
        generalize upd H fn (HO.lst [V.int c.1]) = H1 at s1 hfn ⊢
        refine for_iterW ?_
        walk_at "rd"
        refine lcW ?_
        unfold iTup
        walk_at "rd"
        refine ⟨⟨_, SqT.of (s1 _ _ ho)⟩, lc_filtT (p := fun x => decide (x ≠ c.1)) (s1 _ _ ho) (by omega) (by simp) (fun x Hx B xm sx hB => ?_) fun oo H2 s2 noo hoo => ?_⟩
        · refine ⟨.int x, rfl, .int c.1, rfl, x, c.1, rfl, rfl, _, rfl, ?_⟩
          have e : (!decide (x = c.1)) = decide (x ≠ c.1) := by by_cases z : x = c.1 <;> simp [z]
          rw [e]
          exact hB
        have s12 := s1.trans s2
        have fl : (R.filter fun x => decide (x ≠ c.1)).length ≤ R.length := List.length_filter_le _ _
        refine ⟨l, oo, us, D, _, rfl, s12 _ _ hl, pl.kt (KT.same s12), .inl (SqL.of hoo), by omega, fun x hx => hR x (List.mem_filter.mp hx).1, fun Ps ws t H3 pcs s3 nt ht rl => ?_⟩
        have eP := pcsF_eq pcs
        have s13 := s12.trans s3
        obtain ⟨gF, hgF⟩ : ∃ gF : List Int → List Int, gF = fun Q => topsF D L n Q z := ⟨_, rfl⟩
        have gm : ∀ Q x, x ∈ gF Q ↔ x ∈ (if wordP L Q = some c.2 then keepL D L n Q else []) := fun Q x => by
          rw [hgF, cz]
          show x ∈ topsF D L n Q z ↔ _
          unfold topsF
          split
          · exact upF_mem _ _
          · exact Iff.rfl
        have gsub : ∀ Q x, x ∈ gF Q → x ∈ Q := fun Q x hx => by
          have := (gm Q x).mp hx
          split at this
          · exact keepL_sub n Q x this
          · cases this
        have gnd : ∀ Q, (gF Q).Nodup := fun Q => by
          rw [hgF]
          show (topsF D L n Q z).Nodup
          unfold topsF
          split
          · exact up_nd (upF_up _)
          · exact List.nodup_nil
        have glen : ∀ Q, (gF Q).length ≤ Q.length := fun Q => int_sub_len2 (gnd Q) (gsub Q)
        have Pl : Ps.length ≤ 12 := Nat.le_trans pcs.len (by omega)
        have eK : ∀ x, x ∈ c.1 :: Ps.flatMap gF ↔ x ∈ keepL D L (n + 1) R := fun x => by
          have e : keepL D L (n + 1) R = c.1 :: Ps.flatMap fun Q => if wordP L Q = some c.2 then keepL D L n Q else [] := by
            rw [← eP]
            show (match lastIn R L with | none => [] | some c => _) = _
            rw [ec]
          rw [e, List.mem_cons, List.mem_cons, List.mem_flatMap, List.mem_flatMap]
          refine or_congr Iff.rfl ⟨fun ⟨Q, a, b⟩ => ⟨Q, a, (gm Q x).mp b⟩, fun ⟨Q, a, b⟩ => ⟨Q, a, (gm Q x).mpr b⟩⟩
        have ndK : (c.1 :: Ps.flatMap gF).Nodup := by
          refine List.nodup_cons.mpr ⟨fun m => ?_, flat_nd pcs gnd gsub⟩
          obtain ⟨Q, hQ, hx⟩ := List.mem_flatMap.mp m
          exact of_decide_eq_true (List.mem_filter.mp (pcs.sub_of hQ _ (gsub Q _ hx))).2 rfl
        have Klen : (c.1 :: Ps.flatMap gF).length ≤ 12 := Nat.le_trans (int_sub_len2 ndK fun x hx => keepL_sub (n + 1) R x ((eK x).mp hx)) (by omega)
        have inG : ∀ i, ((Ps.take i).flatMap gF).length ≤ 12 := fun i => by
          rw [List.length_cons] at Klen
          have h2 : ((Ps.take i).flatMap gF).length ≤ (Ps.flatMap gF).length := by
            conv => rhs; rw [← List.take_append_drop i Ps]
            rw [List.flatMap_append, List.length_append]
            omega
          omega
        obtain ⟨Pv, hPv⟩ : ∃ Pv : Nat → L2.St → Hp → Prop, Pv = (fun i σ Hx => ∃ v6 : Option V, σ = [some (.ref l), some (.ref g), some (.ref o), some (.str z), some (.int c.1), some (.ref fn), v6, none] ∧ Same H Hx ∧ Hx fn = some (.lst ((c.1 :: (Ps.take i).flatMap gF).map V.int)) ∧ Hx t = some (.lst ws) ∧ RL Hx ws Ps) := ⟨_, rfl⟩
        have hfn3 := s3 _ _ (s2 _ _ hfn)
        have ntf : t ≠ fn := (ne_of_none (s2 _ _ hfn) nt).symm
        refine ⟨t, rfl, ⟨_, SqL.of ht⟩, for_list (K := K) (a := t) (xs := ws) Pv (by rw [hPv]; exact ⟨none, rfl, s13, hfn3, ht, rl⟩) (fun i σ Hx _ pv => by rw [hPv] at pv; obtain ⟨_, _, _, _, h, _⟩ := pv; exact SqL.of h) (fun i v σ Hx gv pv => ?_) (fun σ Hx pv => ?_)⟩
        rotate_left
        · rw [hPv] at pv
          obtain ⟨v6, rfl, sx, hf, _, _⟩ := pv
          rw [rl.len, List.take_length] at hf
          walk_at "rd"
          refine ⟨_, _, rfl, SqL.of hf, by omega, fun ys t5 pm so nt5 => ?_⟩
          have ey : ys = topsF D L (n + 1) R z := by
            unfold topsF
            rw [if_pos hz]
            exact (upF_eq (up_of pm ndK so) fun x => pm.mem_iff.trans (eK x)).symm
          exact ret t5 _ (sx.trans (same_upd nt5)) (sx.free nt5) (by rw [upd_same, ey])
        rw [hPv] at pv
        obtain ⟨v6, rfl, sx, hf, htx, rlx⟩ := pv
        obtain ⟨Q0, gQ, tq, rfl, htq⟩ := lget rlx gv
        have QP : Q0 ∈ Ps := List.mem_of_getElem? gQ
        have tk : Ps.take (i + 1) = Ps.take i ++ [Q0] := by rw [List.take_add_one, gQ]; rfl
        have Qsub : ∀ x ∈ Q0, x ∈ R ∧ x ≠ c.1 := fun x hx => by
          have := List.mem_filter.mp (pcs.sub_of QP x hx)
          exact ⟨this.1, of_decide_eq_true this.2⟩
        have Qup := (pcs.part QP).1
        have Qlen : Q0.length ≤ n := by
          have h1 := int_sub_len2 (up_nd Qup) (pcs.sub_of QP)
          have h2 : (R.filter fun x => decide (x ≠ c.1)).length < R.length := filter_lt cR (by simp)
          omega
        walk_at "rd"
        refine ⟨.inl ⟨rfl, _, SqL.of hf⟩, l, g, tq, us, gs, D, L, Q0, z, rfl, sx _ _ hl, pl.kt (KT.same sx), sx _ _ hg, lg.kt (KT.same sx), htq, Qlen, by omega, fun x hx => hR x (Qsub x hx).1, fun ta Hy sy nta hta => ?_⟩
        have hf2 := sy _ _ hf
        have eG : gF Q0 = topsF D L n Q0 z := by rw [hgF]
        have kl := glen Q0
        rw [eG] at kl
        walk_at "rd"
        refine ⟨_, hf2, _, hta, Nat.le_of_lt (len_big (by rw [List.length_map, List.length_map, List.length_cons]; have := inG i; omega)), ?_⟩
        rw [hPv]
        have kt : KT Hy (upd Hy fn (HO.lst ((c.1 :: (Ps.take i).flatMap gF).map V.int ++ (topsF D L n Q0 z).map V.int))) := KT.lst hf2
        refine ⟨_, rfl, same_ch (sx.trans sy) nfn, ?_, by rw [upd_ne ntf]; exact sy _ _ htx, (rlx.kt (KT.same sy)).kt kt⟩
        rw [upd_same, tk, List.flatMap_append, List.flatMap_cons, List.flatMap_nil, List.append_nil, eG, ← List.map_append]
        rfl
end

/-! ### _law_form -/
abbrev sLf : Stmt := topS 56
theorem paired_snoc {α β : Type} {F : α → β → Prop} {a : List α} {b : List β} {x : α} {y : β} (h : Paired F a b) (r : F x y) : Paired F (a ++ [x]) (b ++ [y]) := paired_append h (.cons r .nil)
theorem blkV_kt {H H' : Hp} {n : Nat} {v : V} {b : Blk} (k : KT H H') (h : BlkV H (BlksAt H n) v b) : BlkV H' (BlksAt H' n) v b := by
  obtain ⟨a, t, i, ys, e, h1, h2, h3, h4, h5⟩ := h.ex
  exact ⟨a, t, i, ys, e, k _ _ h1, k _ _ h2, h3, k _ _ h4, h5.kt k⟩
/-- the list of blocks while it grows -/
def BL (H : Hp) (n : Nat) (us : List V) (bs : List Blk) : Prop := Paired (BlkV H (BlksAt H n)) us bs
theorem BL.kt {H H' : Hp} {n : Nat} {us : List V} {bs : List Blk} (h : BL H n us bs) (k : KT H H') : BL H' n us bs := Paired.mapP h fun _ _ q => blkV_kt k q
section
variable {P : Program} {w : World} {K : PySem.W.Frag} {mg : Str → Option Value} {base : Heap}
theorem scLf : FnScope ["doors", "log", "rooms", "blocks_v", "part", "word", "tops", "rest", "r"] ["doors", "log", "rooms"] (defScope sLf) := ⟨rfl, rfl, rfl, by decide +kernel, rfl, by decide +kernel, by decide +kernel⟩
def spLf (n : Nat) : Sp := fun vs H Q _ => ∃ (l g o : Addr) (us gs : List V) (D : List Pr) (L : List Cl) (R : List Int), vs = [.ref l, .ref g, .ref o] ∧ H l = some (.lst us) ∧ PL H us D ∧ H g = some (.lst gs) ∧ LG H gs L ∧ H o = some (.lst (R.map V.int)) ∧ R.length ≤ n ∧ n ≤ 12 ∧ (∀ x ∈ R, 0 ≤ x) ∧
  ∀ (v : V) (H' : Hp), Same H H' → FormAt H' n v (blkF D L n R) → Q v H'
theorem ok_lf {f fP fT fW : Addr} {fd fdP fdT fdW : FuncData} (F : Fun K "_law_form" "_law_form" sLf f fd) (T : Bi mg) (bd : Binds K fd ["doors", "log", "rooms"] []) (hmg : mg "_law_form" = some (.ref f)) (d__law_pieces : Df P w K mg base "_law_pieces" ["doors", "rooms"] 2 (spLpc K) fP fdP) (d__law_tops : Df P w K mg base "_law_tops" ["doors", "log", "part", "word"] 15 (spLts 12) fT fdT) (d__law_word_of : Df P w K mg base "_law_word_of" ["log", "rooms"] 1 (spTopR K optW) fW fdW) : ∀ n, FnOk P w K mg base CX0 (n + 17) f fd ["doors", "log", "rooms"] (spLf n) := by
  intro n
  induction n with
  | zero =>
    refine F.ok scLf (fun vs H Q E h => ?_) (fun cdv A0 outer s H vs Q E hr h => ?_)
    · obtain ⟨l, g, o, us, gs, D, L, R, rfl, _⟩ := h
      rfl
    · obtain ⟨l, g, o, us, gs, D, L, R, rfl, hl, pl, hg, lg, ho, rn, n12, hR, ret⟩ := h
      refine ⟨_, (pss_cons (ps_set (i := 3) scLf.nd rfl (Or.inl rfl) (pe_lst pa_nil))
      (pss_cons (ps_for PassesOwn.never rfl (pi_list (pe_call d__law_pieces.ok (hr.mono (by omega)) (by rfl) d__law_pieces.at_ d__law_pieces.kp d__law_pieces.b .nil pass0 (pa_cons (pv 0) (pa_cons (pv 2) pa_nil)))) (pg_name (i := 4) scLf.nd rfl (Or.inl rfl))
      (pss_cons (ps_never)
        (pss_cons (ps_set (i := 6) scLf.nd rfl (Or.inr rfl) (pe_callTy call_list_of (by rfl) T.list (by decide +kernel) (pa_cons (pv 4) pa_nil)))
        (pss_cons (ps_if (pt_cmpR op_notN (pv 5) pe_non (nomark _))
        (pss_one (ps_set (i := 6) scLf.nd rfl (Or.inr rfl) (pe_call d__law_tops.ok (hr.mono (by omega)) (by rfl) d__law_tops.at_ d__law_tops.kp d__law_tops.b .nil pass0 (pa_cons (pv 0) (pa_cons (pv 1) (pa_cons (pv 4) (pa_cons (pv 5) pa_nil)))))))
        pss_nil)
        (pss_cons (ps_setLc (i := 7) (own := [("r", 8)]) (te := (tVar 8)) (tt := (tTest (tOp (rIn K true) (tVar 8) (tVar 6)))) (by rfl) scLf.nd rfl rfl (sw_true rfl rfl rfl (by decide +kernel)) (pi_tup (pv 4)) (blkOk_by (N := ["doors", "log", "rooms", "blocks_v", "part", "word", "tops", "rest", "r"]) (sc := defScope sLf) (by decide +kernel)) (fun _ _ _ _ _ => pg_name (i := 8) scLf.nd rfl (Or.inl rfl)) (fun _ _ _ _ _ => (pts_one (pt_cmpR op_notIn_seq (pv 8) (pv 6) (by rfl)))) (fun _ _ _ _ _ => (pv 8)))
        (pss_one (ps_never)))))))
      (pss_one (ps_ret (pe_callTy call_tuple_of (by rfl) T.tuple (by decide +kernel) (pa_cons (pv 3) pa_nil)))))), ?_⟩
      have R0 := List.length_eq_zero_iff.mp (Nat.le_zero.mp rn)
      subst R0
      walk_at "rd"
      refine ⟨Nat.zero_le _, fun fn nfn => ?_⟩
      have s1 := same_upd (o := HO.lst []) nfn
      have hfn := upd_same (H := H) (a := fn) (o := HO.lst [])
      generalize upd H fn (HO.lst []) = H1 at s1 hfn ⊢
      refine for_iterW ?_
      walk_at "rd"
      refine ⟨l, o, us, D, [], rfl, s1 _ _ hl, pl.kt (KT.same s1), .inl (SqL.of (s1 _ _ ho)), by decide, (fun x hx => by cases hx), fun Ps ws t H2 pcs s2 nt ht rl => ?_⟩
      have eP : Ps = [] := by rw [← pcsF_eq pcs, pcsF_nil]
      subst eP
      have ew : ws = [] := List.length_eq_zero_iff.mp rl.len
      subst ew
      refine ⟨t, rfl, ⟨_, SqL.of ht⟩, for_list (K := K) (a := t) (xs := []) (fun _ σ Hx => σ = [some (.ref l), some (.ref g), some (.ref o), some (.ref fn), none, none, none, none, none] ∧ Hx = H2) ⟨rfl, rfl⟩ (fun i σ Hx _ pv => by rw [pv.2]; exact SqL.of ht) (fun i v σ Hx gv pv => by cases gv) (fun σ Hx pv => ?_)⟩
      obtain ⟨rfl, rfl⟩ := pv
      walk_at "rd"
      refine ⟨_, .inl ⟨SqL.of (s2 _ _ hfn), fun t2 nt2 => ?_⟩⟩
      exact ret _ _ ((s1.trans s2).trans (same_upd nt2)) ⟨t2, [], rfl, upd_same, rfl, rfl⟩
  | succ n ih =>
    refine F.ok scLf (fun vs H Q E h => ?_) (fun cdv A0 outer s H vs Q E hr h => ?_)
    · obtain ⟨l, g, o, us, gs, D, L, R, rfl, _⟩ := h
      rfl
    · obtain ⟨l, g, o, us, gs, D, L, R, rfl, hl, pl, hg, lg, ho, rn, n12, hR, ret⟩ := h
      refine ⟨_, (pss_cons (ps_set (i := 3) scLf.nd rfl (Or.inl rfl) (pe_lst pa_nil))
      (pss_cons (ps_for PassesOwn.never rfl (pi_list (pe_call d__law_pieces.ok (hr.mono (by omega)) (by rfl) d__law_pieces.at_ d__law_pieces.kp d__law_pieces.b .nil pass0 (pa_cons (pv 0) (pa_cons (pv 2) pa_nil)))) (pg_name (i := 4) scLf.nd rfl (Or.inl rfl))
      (pss_cons (ps_set (i := 5) scLf.nd rfl (Or.inl rfl) (pe_call d__law_word_of.ok (hr.mono (by omega)) (by rfl) d__law_word_of.at_ d__law_word_of.kp d__law_word_of.b .nil pass0 (pa_cons (pv 1) (pa_cons (pv 4) pa_nil))))
        (pss_cons (ps_set (i := 6) scLf.nd rfl (Or.inr rfl) (pe_callTy call_list_of (by rfl) T.list (by decide +kernel) (pa_cons (pv 4) pa_nil)))
        (pss_cons (ps_if (pt_cmpR op_notN (pv 5) pe_non (nomark _))
        (pss_one (ps_set (i := 6) scLf.nd rfl (Or.inr rfl) (pe_call d__law_tops.ok (hr.mono (by omega)) (by rfl) d__law_tops.at_ d__law_tops.kp d__law_tops.b .nil pass0 (pa_cons (pv 0) (pa_cons (pv 1) (pa_cons (pv 4) (pa_cons (pv 5) pa_nil)))))))
        pss_nil)
        (pss_cons (ps_setLc (i := 7) (own := [("r", 8)]) (te := (tVar 8)) (tt := (tTest (tOp (rIn K true) (tVar 8) (tVar 6)))) (by rfl) scLf.nd rfl rfl (sw_true rfl rfl rfl (by decide +kernel)) (pi_tup (pv 4)) (blkOk_by (N := ["doors", "log", "rooms", "blocks_v", "part", "word", "tops", "rest", "r"]) (sc := defScope sLf) (by decide +kernel)) (fun _ _ _ _ _ => pg_name (i := 8) scLf.nd rfl (Or.inl rfl)) (fun _ _ _ _ _ => (pts_one (pt_cmpR op_notIn_seq (pv 8) (pv 6) (by rfl)))) (fun _ _ _ _ _ => (pv 8)))
        (pss_one (ps_expr (pe_bm PySem.F.plainAttrs_list PySem.F.slot_list_append PySem.F.type_list_append mt_append (pv 3) (pa_cons (pe_tup (pa_cons (pv 5) (pa_cons (pe_callTy call_tuple_of (by rfl) T.tuple (by decide +kernel) (pa_cons (pv 6) pa_nil)) (pa_cons (pe_call ih hr (by rfl) hmg F.kp bd .nil pass0 (pa_cons (pv 0) (pa_cons (pv 1) (pa_cons (pv 7) pa_nil)))) pa_nil)))) pa_nil)))))))))
      (pss_one (ps_ret (pe_callTy call_tuple_of (by rfl) T.tuple (by decide +kernel) (pa_cons (pv 3) pa_nil)))))), ?_⟩
      walk_at "rd"
      refine ⟨Nat.zero_le _, fun fn nfn => ?_⟩
      have s1 := same_upd (o := HO.lst []) nfn
      have hfn := upd_same (H := H) (a := fn) (o := HO.lst [])
      generalize upd H fn (HO.lst []) = H1 at s1 hfn ⊢
      refine for_iterW ?_
      walk_at "rd"
      refine ⟨l, o, us, D, R, rfl, s1 _ _ hl, pl.kt (KT.same s1), .inl (SqL.of (s1 _ _ ho)), by omega, hR, fun Ps ws t H2 pcs s2 nt ht rl => ?_⟩
      have s12 := s1.trans s2
      have eP := pcsF_eq pcs
      have Pl : Ps.length ≤ 12 := Nat.le_trans pcs.len (by omega)
      have ntf : t ≠ fn := (ne_of_none hfn nt).symm
      obtain ⟨Pv, hPv⟩ : ∃ Pv : Nat → L2.St → Hp → Prop, Pv = (fun i σ Hx => ∃ (bs : List V) (v4 v5 v6 v7 : Option V), σ = [some (.ref l), some (.ref g), some (.ref o), some (.ref fn), v4, v5, v6, v7, none] ∧ Same H Hx ∧ Hx fn = some (.lst bs) ∧ BL Hx n bs ((Ps.take i).map (blkP D L n)) ∧ Hx t = some (.lst ws) ∧ RL Hx ws Ps) := ⟨_, rfl⟩
      refine ⟨t, rfl, ⟨_, SqL.of ht⟩, for_list (K := K) (a := t) (xs := ws) Pv (by rw [hPv]; exact ⟨[], none, none, none, none, rfl, s12, s2 _ _ hfn, .nil, ht, rl⟩) (fun i σ Hx _ pv => by rw [hPv] at pv; obtain ⟨_, _, _, _, _, _, _, _, _, h, _⟩ := pv; exact SqL.of h) (fun i v σ Hx gv pv => ?_) (fun σ Hx pv => ?_)⟩
      rotate_left
      · rw [hPv] at pv
        obtain ⟨bs, v4, v5, v6, v7, rfl, sx, hf, bl, _, _⟩ := pv
        rw [rl.len, List.take_length] at bl
        have bll : bs.length ≤ 12 := by
          rw [Paired.length bl, List.length_map]
          exact Pl
        walk_at "rd"
        refine ⟨_, .inl ⟨SqL.of hf, fun t2 nt2 => ?_⟩⟩
        refine ret _ _ (sx.trans (same_upd nt2)) ⟨t2, bs, rfl, upd_same, by omega, ?_⟩
        rw [blkF_succ, eP]
        exact BL.kt bl (KT.new nt2)
      rw [hPv] at pv
      obtain ⟨bs, v4, v5, v6, v7, rfl, sx, hf, bl, htx, rlx⟩ := pv
      obtain ⟨Q0, gQ, tq, rfl, htq⟩ := lget rlx gv
      have QP : Q0 ∈ Ps := List.mem_of_getElem? gQ
      have tk : Ps.take (i + 1) = Ps.take i ++ [Q0] := by rw [List.take_add_one, gQ]; rfl
      have Qsub := pcs.sub_of QP
      have Qup := (pcs.part QP).1
      have Qlen : Q0.length ≤ n + 1 := Nat.le_trans (int_sub_len2 (up_nd Qup) Qsub) rn
      have bll : bs.length ≤ 12 := by
        rw [Paired.length bl, List.length_map, List.length_take]
        omega
      walk_at "rg"
      refine sq3 fun N hN => ?_
      walk_at "rd"
      refine ⟨g, tq, gs, L, Q0, rfl, sx _ _ hg, lg.kt (KT.same sx), .inr (SqT.of htq), ?_⟩
      rw [optW_S]
      refine ⟨_, .inr (SqT.of htq), fun tp ntp => ?_⟩
      have sp := same_upd (o := HO.lst (Q0.map V.int)) ntp
      have htp := upd_same (H := Hx) (a := tp) (o := HO.lst (Q0.map V.int))
      generalize upd Hx tp (HO.lst (Q0.map V.int)) = H3 at sp htp ⊢
      have hf3 := sp _ _ hf
      have bl3 := bl.kt (KT.same sp)
      have htx3 := sp _ _ htx
      have rl3 := rlx.kt (KT.same sp)
      have htq3 := sp _ _ htq
      have s3 := sx.trans sp
      clear sp hf bl htx rlx htq
      have tail : ∀ (T : List Int) (tt : Addr) (H4 : Hp), Same H3 H4 → H4 tt = some (.lst (T.map V.int)) → T.length ≤ 12 → blkP D L n Q0 = .mk (wordP L Q0) T (blkF D L n (Q0.filter fun x => decide (x ∉ T))) → (Q0.filter fun x => decide (x ∉ T)).length ≤ n →
          N [some (.ref l), some (.ref g), some (.ref o), some (.ref fn), some (.ref tq), some (optS (wordP L Q0)), some (.ref tt), v7, none] H4 := fun T tt H4 s4 htt tl eB rl' => by
        refine hN _ _ ?_
        clear hN
        walk_at "rd"
        refine lcW ?_
        unfold iTup
        walk_at "rd"
        have s04 := s3.trans s4
        refine ⟨⟨_, SqT.of (s4 _ _ htq3)⟩, lc_filtT (p := fun x => decide (x ∉ T)) (s4 _ _ htq3) (by omega) (by simp) (fun x Hy B xm sy hB => ?_) fun oo H5 s5 noo hoo => ?_⟩
        · refine ⟨.int x, rfl, .ref tt, rfl, tt, T.map V.int, rfl, .inl (SqL.of (sy _ _ htt)), rfl, flI _, ?_⟩
          rw [inI, if_pos rfl]
          have e : (!decide (x ∈ T)) = decide (x ∉ T) := by by_cases z : x ∈ T <;> simp [z]
          rw [e]
          exact ⟨_, rfl, hB⟩
        have s05 := s04.trans s5
        have hf5 := s5 _ _ (s4 _ _ hf3)
        refine ⟨.inl ⟨rfl, _, SqL.of hf5⟩, _, .inl ⟨SqL.of (s5 _ _ htt), fun t2 nt2 => ?_⟩⟩
        have s6 := same_upd (o := HO.tup (T.map V.int)) nt2
        have ht2 := upd_same (H := H5) (a := t2) (o := HO.tup (T.map V.int))
        generalize upd H5 t2 (HO.tup (T.map V.int)) = H6 at s6 ht2 ⊢
        have s06 := s05.trans s6
        refine ⟨l, g, oo, us, gs, D, L, _, rfl, s06 _ _ hl, pl.kt (KT.same s06), s06 _ _ hg, lg.kt (KT.same s06), s6 _ _ hoo, rl', by omega, fun x hx => hR x (Qsub x (List.mem_filter.mp hx).1), fun vi H7 s7 fm => ?_⟩
        refine ⟨by decide, fun t3 nt3 => ?_⟩
        have s8 := same_upd (o := HO.tup [optS (wordP L Q0), .ref t2, vi]) nt3
        have ht3 := upd_same (H := H7) (a := t3) (o := HO.tup [optS (wordP L Q0), .ref t2, vi])
        generalize upd H7 t3 (HO.tup [optS (wordP L Q0), .ref t2, vi]) = H8 at s8 ht3 ⊢
        have s38 := s4.trans (s5.trans (s6.trans (s7.trans s8)))
        have hf8 := s38 _ _ hf3
        refine ⟨bs, hf8, len_big (by omega), ?_⟩
        have kt : KT H8 (upd H8 fn (HO.lst (bs ++ [.ref t3]))) := KT.lst hf8
        obtain ⟨ai, xi, rfl, hai, hbi⟩ := fm.kt (KT.same s8)
        rw [hPv]
        refine ⟨bs ++ [.ref t3], _, _, _, _, rfl, same_ch (s3.trans s38) nfn, upd_same, ?_, by rw [upd_ne ntf]; exact s38 _ _ htx3, (rl3.kt (KT.same s38)).kt kt⟩
        rw [tk, List.map_append]
        refine paired_snoc ((bl3.kt (KT.same s38)).kt kt) ⟨t3, t2, ai, xi, rfl, ?_, ?_, ?_, kt _ _ hai, ?_⟩
        · rw [eB]
          exact kt _ _ ht3
        · rw [eB]
          exact kt _ _ (s8 _ _ (s7 _ _ ht2))
        · rw [eB]
          show T.length ≤ 1000
          omega
        · rw [eB]
          exact hbi.kt kt
      have Q12 : Q0.length ≤ 12 := by omega
      cases hw : wordP L Q0 with
      | none =>
        rw [hw] at tail
        refine iteF ?_
        have e0 : (Q0.filter fun x => decide (x ∉ Q0)) = [] := List.filter_eq_nil_iff.mpr fun x hx => by simpa using hx
        refine tail Q0 tp H3 (Same.refl _) htp Q12 ?_ (by rw [e0]; exact Nat.zero_le _)
        unfold blkP
        rw [hw, e0]
        show Blk.mk none Q0 [] = Blk.mk none Q0 (blkF D L n [])
        cases n with
        | zero => rfl
        | succ n =>
          rw [blkF_succ, pcsF_nil]
          rfl
      | some z =>
        rw [hw] at tail
        refine iteT ?_
        refine ⟨l, g, tq, us, gs, D, L, Q0, z, rfl, s3 _ _ hl, pl.kt (KT.same s3), s3 _ _ hg, lg.kt (KT.same s3), htq3, Q12, by decide, fun x hx => hR x (Qsub x hx), fun tt H4 s4 ntt htt => ?_⟩
        have eT : topsF D L 12 Q0 z = upF (keepL D L 12 Q0) := by
          unfold topsF
          rw [if_pos hw]
        rw [eT] at htt
        have ef : (Q0.filter fun x => decide (x ∉ upF (keepL D L 12 Q0))) = Q0.filter fun x => decide (x ∉ keepL D L 12 Q0) := List.filter_congr fun x _ => by
          rw [decide_eq_decide]
          exact not_congr (upF_mem _ x)
        refine tail _ tt H4 s4 htt (Nat.le_trans (upF_len _) (Nat.le_trans (keepL_len 12 Q0) Q12)) ?_ ?_
        · unfold blkP
          rw [hw, ef]
        · rw [ef]
          obtain ⟨x, xP, xk⟩ := keepL_ne (D := D) (n := 11) hw
          have lt : (Q0.filter fun x => decide (x ∉ keepL D L 12 Q0)).length < Q0.length := filter_lt xP (by simpa using xk)
          omega
end

/-! ### nested defs that capture: the base, raised to what stands at a call -/
section
structure Sub (a b : Heap) : Prop where
  get : ∀ x o, a.get? x = some o → b.get? x = some o
  sz : a.objs.size ≤ b.objs.size
theorem Sub.refl (a : Heap) : Sub a a := ⟨fun _ _ h => h, Nat.le_refl _⟩
theorem Sub.trans {a b c : Heap} (h : Sub a b) (k : Sub b c) : Sub a c := ⟨fun x o e => k.get x o (h.get x o e), Nat.le_trans h.sz k.sz⟩
theorem funs_hide {h base b2 : Heap} : ∀ l : List Env, h.FunFrames base l → (∀ L ∈ frs l, b2.get? L = none) → h.FunFrames b2 l
  | [], _, _ => trivial
  | env :: r, hl, hn => by
    obtain ⟨hk, ⟨L, o, hf, _, ho, hd⟩, hr⟩ := hl
    have e : frs (env :: r) = L :: frs r := by
      unfold frs
      rw [List.filterMap_cons, hf]
    rw [e] at hn
    exact ⟨hk, ⟨L, o, hf, hn L List.mem_cons_self, ho, hd⟩, funs_hide r hr fun b hb => hn b (List.mem_cons_of_mem _ hb)⟩
theorem env_up {P : Program} {w : World} {K : PySem.W.Frag} {mg : Str → Option Value} {base : Heap} {A : Around} {outer : List Env} {s : Shared} {H : Hp} (e : Env0 P w K mg base A outer s H) :
    ∃ b2, Sub base b2 ∧ (∀ b o, s.heap.get? b = some o → H b = none → b ∉ frs outer → b2.get? b = some o) ∧ Env0 P w K mg b2 A outer s H := by
  have get : ∀ b o, s.heap.get? b = some o → H b = none → b ∉ frs outer → (PySem.W.hideAll s.heap (trk s.heap H ++ frs outer)).get? b = some o := fun b o q n nf => PySem.W.hideAll_get _ q fun hm => by
    rcases List.mem_append.mp hm with hm | hm
    · have z : (H b).isSome = true := (List.mem_filter.mp hm).2
      rw [n] at z
      cases z
    · exact nf hm
  have sub : ∀ b o, base.get? b = some o → (PySem.W.hideAll s.heap (trk s.heap H ++ frs outer)).get? b = some o := fun b o q => get b o (e.bs b o q).1 (e.bs b o q).2 fun hb => by
    have := (e.funs.mem hb).1
    rw [q] at this
    cases this
  obtain ⟨mb, hb1, hb2⟩ := e.mod.blt
  obtain ⟨mc, hc1, hc2⟩ := e.mod.nolimit
  refine ⟨_, ⟨sub, Nat.le_trans e.bsz (Nat.le_of_eq (PySem.W.hideAll_size _ _).symm)⟩, get, ⟨e.frames, ⟨e.mod.kin.keeps sub, e.mod.glob.keeps sub, ⟨mb, hb1.keeps sub, hb2⟩, ⟨mc, hc1.keeps sub, hc2⟩⟩, fun b o q => ⟨PySem.W.of_hideAll _ q, ?_⟩, Nat.le_of_eq (PySem.W.hideAll_size _ _), funs_hide _ e.funs fun L hL => PySem.W.hideAll_none _ (List.mem_append_right _ hL), e.frf, e.hok, e.bare⟩⟩
  cases z : H b with
  | none => rfl
  | some x =>
    have e' := PySem.W.of_hideAll _ q
    have hm : b ∈ trk s.heap H := List.mem_filter.mpr ⟨List.mem_range.mpr (Heap.lt_size e'), by rw [z]; rfl⟩
    have := PySem.W.hideAll_none (h := s.heap) (trk s.heap H ++ frs outer) (b := b) (List.mem_append_left _ hm)
    rw [this] at q
    cases q
end
section
variable {P : Program} {w : World} {K : PySem.W.Frag} {mg : Str → Option Value} {base b2 : Heap}
theorem get_none (u : Sub base b2) {L : Addr} (h : b2.get? L = none) : base.get? L = none := by
  cases z : base.get? L with
  | none => rfl
  | some o =>
    rw [u.get L o z] at h
    cases h
theorem env_down {A : Around} {outer : List Env} {s : Shared} {H : Hp} (m : L2.Mod K mg base) (u : Sub base b2) (e : Env0 P w K mg b2 A outer s H) : Env0 P w K mg base A outer s H :=
  ⟨e.frames, m, fun b o q => e.bs b o (u.get b o q), Nat.le_trans u.sz e.bsz, funs_hide _ e.funs (fun L hL => get_none u (e.funs.mem hL).1), e.frf, e.hok, e.bare⟩
theorem FnOk.up {CX : CXT} {k : Nat} {f : Addr} {fd : FuncData} {ps : List Str} {sp : Sp} (m : L2.Mod K mg base) (u : Sub base b2) (F : FnOk P w K mg base CX k f fd ps sp) : FnOk P w K mg b2 CX k f fd ps sp :=
  ⟨F.len, fun A outer s H args us vs Q E hr e0 => F.run A outer s H args us vs Q E hr (env_down m u e0)⟩
theorem Df.up {x : Str} {k : Nat} {f : Addr} {fd : FuncData} {ps : List Str} {sp : Sp} (m : L2.Mod K mg base) (u : Sub base b2) (d : Df P w K mg base x ps k sp f fd) : Df P w K mg b2 x ps k sp f fd := ⟨d.at_, d.kp, d.b, FnOk.up m u d.ok⟩
theorem TabB.up {c t : Addr} (u : Sub base b2) (h : LamX.TabB base mg c t) : LamX.TabB b2 mg c t := ⟨h.code.keeps u.get, h.bm.keeps u.get, h.gP⟩
end
/-- a def of the text that the base does not bind -/
structure Fd (K : PySem.W.Frag) (mg : Str → Option Value) (x : Str) (ps : List Str) (st : Stmt) (f : Addr) (fd : FuncData) (co : Addr) : Prop where
  fn : FunC K x x st f fd co
  at_ : mg x = some (.ref f)
  kp : PySem.W.keepIn K (.ref f) = true
  b : Binds K fd ps []
/-! ### the frame of such a def -/
section
theorem bind_loc {M : Model} {A : Around} {E : Value → Shared → Prop} {env : Env} {s : Shared} {h0 : Heap} {Q : PUnit → Shared → Prop} (f : Str × Value → PUnit → Sem (ForInStep PUnit)) (hf : ∀ n v u, f (n, v) u = (do storeName env n v; pure (.yield ⟨⟩))) (hk : env.scope.kind = .function) :
    ∀ (binds done : List (Str × Value)) (h : Heap) (tk : Nat), (∀ x ∈ binds, env.kindOf x.1 = some .local) → h.Ns env.locals (fun x => done.reverse.lookup x) → Heap.SameBut env.locals h0 h →
      (∀ h', h'.Ns env.locals (fun x => (done ++ binds).reverse.lookup x) → Heap.SameBut env.locals h0 h' → Q ⟨⟩ { s with heap := h', toks := tk + binds.length }) → wpAny M A (forIn binds ⟨⟩ f) Q E { s with heap := h, toks := tk }
  | [], done, h, tk, _, hn, hs, q => by
    rw [List.forIn_nil]
    have := q h (by rw [List.append_nil]; exact hn) hs
    exact wpAny_pure this
  | (n, v) :: r, done, h, tk, hl, hn, hs, q => by
    rw [List.forIn_cons, hf]
    have hp : (env.scope.kind == .class || (env.scope.kind == .module && env.locals != env.globals)) = false := by rw [hk]; rfl
    refine wpAny_bind (wpAny_bind (wpAny_storeName_local (hl _ List.mem_cons_self) hn (fun h' hn' hs' => wpAny_pure ?_) hp))
    refine bind_loc f hf hk r (done ++ [(n, v)]) h' (tk + 1) (fun x hx => hl x (List.mem_cons_of_mem _ hx)) ?_ (hs.trans hs') fun h'' a b => ?_
    · rw [lookup_reverse_snoc]
      exact hn'
    · rw [show tk + 1 + r.length = tk + ((n, v) :: r).length by rw [List.length_cons]; omega]
      exact q h'' (by rw [List.append_assoc] at a; exact a) b
theorem nfe {M : Model} {A : Around} {E : Value → Shared → Prop} {s : Shared} {scope : Scope} {globals : Addr} {cl : List (Str × Addr)} {binds : List (Str × Value)} {qual : Str} {func : Option Addr} {code : Value} {blt : Addr} {Q : Env → Shared → Prop} (hk : scope.kind = .function)
    (hl : ∀ x ∈ binds, scope.names.lookup x.1 = some .local)
    (hQ : ∀ h', h'.Ns s.heap.objs.size (fun x => binds.reverse.lookup x) → Heap.SameBut s.heap.objs.size (pushCells (s.heap.push { cls := .type "frame", data := .dict #[] }) scope.names) h' →
      Q (newEnv scope s.heap.objs.size globals (cellsFrom (s.heap.objs.size + 1) scope.names cl) qual func code none blt) { s with heap := h', toks := s.toks + binds.length }) :
    wpAny M A (newFunctionEnv scope globals cl binds qual func code none blt) Q E s := by
  simp only [newFunctionEnv, Option.isSome_none, Bool.false_eq_true, if_false]
  refine wpAny_bind (wpAny_alloc (wpAny_bind (wpAny_layCells _ (fun name kind cells => by cases hkc : kind == NameKind.cell <;> simp [hkc]) _ _ _ _ ?_)))
  have e1 : ({ s with heap := s.heap.push { cls := .type "frame", data := .dict #[] } } : Shared).heap.objs.size = s.heap.objs.size + 1 := Heap.size_push ..
  rw [e1]
  refine wpAny_bind (bind_loc (h0 := pushCells (s.heap.push { cls := .type "frame", data := .dict #[] }) scope.names) (env := newEnv scope s.heap.objs.size globals (cellsFrom (s.heap.objs.size + 1) scope.names cl) qual func code none blt) _ (fun _ _ _ => rfl) hk binds [] _ _ hl ((Heap.Ns.new s.heap (.type "frame")).keeps (pushCells_keeps _ _)) (Heap.SameBut.refl ..) fun h' a b => wpAny_pure (hQ h' a b))
end

/-! ### the frame of a def in a def: parameters, captured names, own names and cells -/
section
structure NSc (N ps fr : List Str) (sc : Scope) : Prop where
  kind : sc.kind = .function
  co : sc.isCoroutine = false
  gen : sc.isGenerator = false
  nd : N.Nodup
  pre : N.take (ps.length + fr.length) = ps ++ fr
  par : ∀ x ∈ ps, sc.names.lookup x = some .local
  free : ∀ y ∈ sc.names, y.2 = .free → y.1 ∈ fr
  frk : ∀ x ∈ fr, sc.names.lookup x = some .free
  ndn : (sc.names.map (·.1)).Nodup
def nscb (N ps fr : List Str) (sc : Scope) : Bool :=
  decide (sc.kind = .function ∧ sc.isCoroutine = false ∧ sc.isGenerator = false ∧ N.Nodup ∧ N.take (ps.length + fr.length) = ps ++ fr ∧ (∀ x ∈ ps, sc.names.lookup x = some .local) ∧ (∀ y ∈ sc.names, y.2 = .free → y.1 ∈ fr) ∧ (∀ x ∈ fr, sc.names.lookup x = some .free) ∧ (sc.names.map (·.1)).Nodup)
theorem nsc_by {N ps fr : List Str} {sc : Scope} (h : nscb N ps fr sc = true) : NSc N ps fr sc := by
  obtain ⟨h1, h2, h3, h4, h5, h6, h7, h8, h9⟩ := of_decide_eq_true h
  exact ⟨h1, h2, h3, h4, h5, h6, h7, h8, h9⟩
/-- what the captured cells hold, in the base -/
structure CellsB (base : Heap) (cl : List (Str × Addr)) (fr : List Str) (ws : List V) : Prop where
  len : ws.length = fr.length
  kin : ∀ y c, cl.lookup y = some c → y ∈ fr
  mem : ∀ y c, (y, c) ∈ cl → cl.lookup y = some c
  inj : ∀ x y c, cl.lookup x = some c → cl.lookup y = some c → x = y
  at_ : ∀ (i : Nat) (y : Str), fr[i]? = some y → ∃ c v u, cl.lookup y = some c ∧ ws[i]? = some v ∧ L2.RelV v u ∧ base.IsCell c (some u)
abbrev envC (F : NdefX.NF) (f L : Addr) : Env := PySem.W.envX F.qual F.scope L f (.ref F.c) (cellsFrom (L + 1) F.scope.names F.cl)
def cxC (P : Program) (w : World) (K : PySem.W.Frag) (mg : Str → Option Value) (base : Heap) (N : List Str) (F : NdefX.NF) (f : Addr) (A : Around) (outer : List Env) (s : Shared) (H : Hp) (E : XK) : Cx where
  prog := P
  w := w
  K := K
  mg := mg
  base := base
  A := A.deeper (envC F f s.heap.objs.size)
  N := N
  s_0 := s
  H_0 := H
  env := envC F f s.heap.objs.size
  outer := outer
  stack := envC F f s.heap.objs.size :: outer
  ex := []
  calm := true
  fn := fun x => decide (F.scope.names.lookup x = some .cell)
  pn := []
  xe := fun e s' => wpAny (model P w) (A.deeper (envC F f s.heap.objs.size)) (leaving (envC F f s.heap.objs.size) e) (fun _ s'' => CX0 outer H s E e s'') (fun e' s'' => CX0 outer H s E e' s'') s'
def startC (N : List Str) (vs ws : List V) : L2.St := vs.map some ++ (ws.map some ++ List.replicate (N.length - vs.length - ws.length) none)
theorem lookup_cells : ∀ (names : List (Str × NameKind)) (n : Nat) (acc : List (Str × Addr)) (x : Str), (∀ y ∈ names, y.1 = x → y.2 ≠ .cell) → (cellsFrom n names acc).lookup x = acc.lookup x
  | [], _, _, _, _ => rfl
  | (m, k) :: r, n, acc, x, h => by
    unfold cellsFrom
    split
    · rename_i hk
      have hk : k = .cell := by simpa using hk
      have hne : ¬ m = x := fun e => h (m, k) List.mem_cons_self e hk
      have hb : (x == m) = false := by simpa using fun e : x = m => hne e.symm
      rw [lookup_cells r (n + 1) _ x fun y hy => h y (List.mem_cons_of_mem _ hy), List.lookup_cons, hb]
    · exact lookup_cells r n acc x fun y hy => h y (List.mem_cons_of_mem _ hy)
theorem nd_lookup : ∀ {names : List (Str × NameKind)} {x : Str} {k : NameKind}, (names.map (·.1)).Nodup → (x, k) ∈ names → names.lookup x = some k
  | (m, k') :: r, x, k, nd, h => by
    rw [List.lookup_cons]
    have nd' := List.nodup_cons.mp nd
    rcases List.mem_cons.mp h with e | h
    · cases e
      simp
    · have hb : (x == m) = false := by
        refine beq_eq_false_iff_ne.mpr fun e => nd'.1 ?_
        rw [← e]
        exact List.mem_map.mpr ⟨(x, k), h, rfl⟩
      rw [hb]
      exact nd_lookup nd'.2 h
section
variable {P : Program} {w : World} {K : PySem.W.Frag} {mg : Str → Option Value} {base : Heap} {N ps fr : List Str} {F : NdefX.NF} {f : Addr} {A : Around} {outer : List Env} {s : Shared} {H : Hp} {E : XK} {us : List Value} {vs ws : List V}
theorem inv_C {h₁ : Heap} {tk : Nat} (S : NSc N ps fr F.scope) (hd : A.handled = none) (e0 : Env0 P w K mg base A outer s H) (hl : vs.length = ps.length) (r : Vals vs us) (C : CellsB base F.cl fr ws) (hns : h₁.Ns s.heap.objs.size fun y => (ps.zip us).reverse.lookup y)
    (hsb : Heap.SameBut s.heap.objs.size (pushCells (s.heap.push { cls := .type "frame", data := .dict #[] }) F.scope.names) h₁) : Inv (cxC P w K mg base N F f A outer s H E) [] (startC N vs ws) H { s with heap := h₁, toks := tk } := by
  have hpl : ps.length + fr.length ≤ N.length := by
    have q := congrArg List.length S.pre
    rw [List.length_take, List.length_append] at q
    omega
  have clen := C.len
  have kp : ∀ b o, s.heap.get? b = some o → h₁.get? b = some o := fun b o e => hsb.extBut b o (Nat.ne_of_lt (Heap.lt_size e)) (pushCells_keeps _ _ b o (Heap.get?_push_of_some _ e))
  have noA : ∀ b : Addr, b ∉ (cxC P w K mg base N F f A outer s H E).ex := fun b z => absurd (show b ∈ ([] : List Addr) from z) (by simp)
  have ok0 := cellsFrom_ok F.scope.names (s.heap.push { cls := .type "frame", data := .dict #[] }) (s.heap.objs.size + 1) [] ⟨fun _ _ hm => (nomatch hm), List.Pairwise.nil⟩ (by rw [Heap.size_push]; exact Nat.le_refl _)
  rw [Heap.size_push] at ok0
  have e9 : s.heap.objs.size + 1 = (s.heap.push { cls := .type "frame", data := .dict #[] }).objs.size := (Heap.size_push ..).symm
  -- the two kinds of cells
  have own : ∀ x c, F.scope.names.lookup x = some .cell → (cellsFrom (s.heap.objs.size + 1) F.scope.names F.cl).lookup x = some c → s.heap.objs.size + 1 ≤ c ∧ h₁.IsCell c none := fun x c hx hc => by
    have hm := PySem.mem_of_lookup hc
    rw [e9] at hm
    rcases cells_mem hm with h | ⟨_, h1, h2⟩
    · exfalso
      obtain ⟨c', hc'⟩ := mem_lookup h
      have := S.frk x (C.kin x c' hc')
      rw [hx] at this
      cases this
    · rw [← e9] at h1
      obtain ⟨o, ho, hdd⟩ := h2
      exact ⟨h1, o, hsb.extBut c o (fun z => by rw [z] at h1; exact Nat.not_succ_le_self _ h1) ho, hdd⟩
  have cap : ∀ x, F.scope.names.lookup x ≠ some .cell → (cellsFrom (s.heap.objs.size + 1) F.scope.names F.cl).lookup x = F.cl.lookup x := fun x hx => lookup_cells _ _ _ _ fun y hy e k => hx (by
    rw [← e]
    exact nd_lookup S.ndn (by rw [← k]; exact hy))
  have clB : ∀ y c, F.cl.lookup y = some c → ∃ v, base.IsCell c v := fun y c hc => by
    obtain ⟨i, hi⟩ := List.mem_iff_getElem?.mp (C.kin y c hc)
    obtain ⟨c', v, u, h1, _, _, h2⟩ := C.at_ i y hi
    rw [hc] at h1
    cases h1
    exact ⟨_, h2⟩
  have clS : ∀ y c, F.cl.lookup y = some c → c < s.heap.objs.size ∧ H c = none ∧ ∃ v, h₁.IsCell c v := fun y c hc => by
    obtain ⟨v, o, ho, hdd⟩ := clB y c hc
    have := e0.bs c o ho
    exact ⟨Heap.lt_size this.1, this.2, v, o, kp c o this.1, hdd⟩
  have dec : ∀ x c, (cellsFrom (s.heap.objs.size + 1) F.scope.names F.cl).lookup x = some c → (F.scope.names.lookup x = some .cell ∧ s.heap.objs.size + 1 ≤ c ∧ h₁.IsCell c none) ∨ (F.scope.names.lookup x ≠ some .cell ∧ F.cl.lookup x = some c) := fun x c hc => by
    by_cases hx : F.scope.names.lookup x = some .cell
    · exact .inl ⟨hx, own x c hx hc⟩
    · exact .inr ⟨hx, by rw [← cap x hx]; exact hc⟩
  refine ⟨⟨e0.mod, S.kind, rfl, rfl, Nat.le_refl _, fun x y c h1 h2 => ?_, fun y hy => ?_, fun y c hy h => ?_, fun _ => hd, Around.frames_deeper e0.frames, .inr ⟨rfl, rfl⟩, fun b z => absurd z (noA b), e0.bs, e0.bsz, fun b _ _ => noA b,
      fun b z => absurd z (noA b), e0.funs, e0.frf⟩,
    rfl, e0.bare, Un.kept kp, ⟨_, hns, fun i y v e1 e2 e3 => ?_⟩, fun y c e => ?_, e0.hok.fresh (Nat.le_refl _), fun y c e => ?_, fun q hq => absurd (show q ∈ ([] : List (Addr × Obj)) ++ [] from hq) (by simp), e0.hok.kept kp, ?_⟩
  · rcases dec x c h1 with ⟨k1, l1, _⟩ | ⟨k1, l1⟩
    · rcases dec y c h2 with ⟨k2, l2, _⟩ | ⟨k2, l2⟩
      · have m1 := PySem.mem_of_lookup (show (cellsFrom (s.heap.objs.size + 1) F.scope.names F.cl).lookup x = some c from h1)
        have m2 := PySem.mem_of_lookup (show (cellsFrom (s.heap.objs.size + 1) F.scope.names F.cl).lookup y = some c from h2)
        rw [e9] at m1 m2
        refine cells_inj (fun p hp => ?_) (fun a b d ha hb => C.inj a b d (C.mem a d ha) (C.mem b d hb)) m1 m2
        rw [← e9]
        exact Nat.lt_succ_of_lt (clS p.1 p.2 (C.mem p.1 p.2 hp)).1
      · exact absurd (clS y c l2).1 (Nat.not_lt.mpr (Nat.le_of_succ_le l1))
    · rcases dec y c h2 with ⟨k2, l2, _⟩ | ⟨k2, l2⟩
      · exact absurd (clS x c l1).1 (Nat.not_lt.mpr (Nat.le_of_succ_le l2))
      · exact C.inj x y c l1 l2
  · have hy : F.scope.names.lookup y = some .cell ∨ F.scope.names.lookup y = some .free := hy
    rcases hy with hy | hy
    · have hm : (y, NameKind.cell) ∈ F.scope.names := PySem.mem_of_lookup hy
      obtain ⟨c, hc⟩ := cells_has (n := s.heap.objs.size + 1) (acc := F.cl) hm
      exact mem_lookup hc
    · obtain ⟨i, hi⟩ := List.mem_iff_getElem?.mp (S.free _ (PySem.mem_of_lookup hy) rfl)
      obtain ⟨c, _, _, hc, _⟩ := C.at_ i y hi
      refine ⟨c, (cap y ?_).trans hc⟩
      rw [hy]
      decide
  · have hy' : F.scope.names.lookup y = some .cell := of_decide_eq_true hy
    exact Nat.le_of_succ_le (own y c hy' h).1
  · have e1 : N[i]? = some y := e1
    unfold startC at e2
    by_cases h1 : i < ps.length
    · have hq : (ps ++ fr)[i]? = some y := by
        rw [← S.pre, List.getElem?_take_of_lt (by omega)]
        exact e1
      rw [List.getElem?_append_left h1] at hq
      rw [List.getElem?_append_left (by rw [List.length_map]; omega), List.getElem?_map] at e2
      have ha : vs[i]? = some v := by
        cases e : vs[i]? with
        | none => rw [e] at e2; cases e2
        | some a => rw [e] at e2; cases e2; rfl
      obtain ⟨u, hu, rv⟩ := r.get ha
      have ndP : ps.Nodup := by
        have q := S.nd.sublist (List.take_sublist (ps.length + fr.length) N)
        rw [S.pre] at q
        exact (List.nodup_append.mp q).1
      exact ⟨u, rv, .inl ⟨S.par y (List.mem_of_getElem? hq), NdefX.zip_look ndP hq hu⟩⟩
    · rw [List.getElem?_append_right (by rw [List.length_map]; omega), List.length_map] at e2
      by_cases h2 : i < ps.length + fr.length
      · have hq : (ps ++ fr)[i]? = some y := by
          rw [← S.pre, List.getElem?_take_of_lt (by omega)]
          exact e1
        rw [List.getElem?_append_right (by omega)] at hq
        rw [List.getElem?_append_left (by rw [List.length_map]; omega), List.getElem?_map, hl] at e2
        obtain ⟨c, v', u, hc, hv, ru, hu⟩ := C.at_ (i - ps.length) y hq
        rw [hv] at e2
        have ev : v' = v := Option.some.inj (Option.some.inj e2)
        subst ev
        have fk := S.frk y (List.mem_of_getElem? hq)
        obtain ⟨o, ho, hdd⟩ := hu
        exact ⟨u, ru, .inr ⟨.inr fk, c, (cap y (by rw [fk]; decide)).trans hc, o, kp c o (e0.bs c o ho).1, hdd⟩⟩
      · rw [List.getElem?_append_right (by rw [List.length_map]; omega), List.getElem?_replicate] at e2
        split at e2 <;> cases e2
  · rcases dec y c e with ⟨_, _, z⟩ | ⟨_, z⟩
    · exact ⟨_, z⟩
    · exact (clS y c z).2.2
  · rcases dec y c e with ⟨_, z, _⟩ | ⟨_, z⟩
    · exact e0.hok.fresh (Nat.le_of_succ_le z)
    · exact (clS y c z).2.1
  · unfold startC
    show _ = N.length
    rw [List.length_append, List.length_append, List.length_map, List.length_map, List.length_replicate]
    omega
end
end

/-! ### what such a def promises, and how it is called -/
section
def Clb (P : Program) (w : World) (K : PySem.W.Frag) (mg : Str → Option Value) (base : Heap) (k : Nat) (f : Addr) (F : NdefX.NF) (ar : Nat) (sp : Sp) : Prop :=
  (∀ vs H Q E, sp vs H Q E → vs.length = ar) ∧ ∀ (A : Around) (outer : List Env) (s : Shared) (H : Hp) (us : List Value) (vs : List V) (Q : VK) (E : XK), Room k A → Env0 P w K mg base A outer s H → H f = some (NdefX.FnO f F) → H F.c = some (LamX.CodeO F.c F.qual) → Vals vs us → sp vs H Q E →
    codeAny (model P w) A (.call (.ref f) ⟨us, []⟩) (CR CX0 outer P w H s Q E) s
section
variable {P : Program} {w : World} {K : PySem.W.Frag} {mg : Str → Option Value} {base : Heap} {N ps fr : List Str} {F : NdefX.NF} {f : Addr} {k j ar : Nat} {sp : Sp} {ws : List V}
theorem Clb.mono (o : Clb P w K mg base j f F ar sp) (h : j ≤ k) : Clb P w K mg base k f F ar sp := ⟨o.1, fun A outer s H us vs Q E hr => o.2 A outer s H us vs Q E (hr.mono h)⟩
theorem Clb.up {b2 : Heap} (m : L2.Mod K mg base) (u : Sub base b2) (o : Clb P w K mg base k f F ar sp) : Clb P w K mg b2 k f F ar sp := ⟨o.1, fun A outer s H us vs Q E hr e0 => o.2 A outer s H us vs Q E hr (env_down m u e0)⟩
theorem clb_of (S : NSc N ps fr F.scope) (C : CellsB base F.cl fr ws) (hb : ∀ (doc pm ctv : Value) (us : List Value), us.length = ps.length → bindArgs (F.fd doc pm ctv) ⟨us, []⟩ = pure (ps.zip us)) (len : ∀ vs H Q E, sp vs H Q E → vs.length = ps.length)
    (hbody : ∀ (A : Around) (outer : List Env) (s : Shared) (H : Hp) (vs : List V) (Q : VK) (E : XK), Room k (A.deeper (envC F f s.heap.objs.size)) → H f = some (NdefX.FnO f F) → H F.c = some (LamX.CodeO F.c F.qual) → sp vs H Q E →
      ∃ t, PSs (cxC P w K mg base N F f A outer s H E).nox F.body t ∧ t { nx := fun _ H' => Q .non H', rt := Q } (startC N vs ws) H) :
    Clb P w K mg base (k + 1) f F ps.length sp := by
  refine ⟨len, fun A outer s H us vs Q E hr e0 hf hc r hsp => ?_⟩
  have hl := len _ _ _ _ hsp
  have lim : s.heap.NoLimit := e0.mod.nolimit.keeps fun b o e => (e0.bs b o e).1
  obtain ⟨od, sl, doc, pm, ctv, ho⟩ := NdefX.fnO_at e0.hok hf
  refine codeAny_call_function hr.depth ho rfl S.co S.gen rfl (NdefX.codeO_at e0.hok hc) ?_
  rw [hb doc pm ctv us (by rw [← r.length]; exact hl)]
  refine wpAny_pure (nfe S.kind (fun ⟨n, _⟩ hy => S.par n (List.of_mem_zip hy).1) fun h₁ hns hsb => ?_)
  have kp : ∀ b o, s.heap.get? b = some o → h₁.get? b = some o := fun b o e => hsb.extBut b o (Nat.ne_of_lt (Heap.lt_size e)) (pushCells_keeps _ _ b o (Heap.get?_push_of_some _ e))
  refine ⟨lim.keeps kp, ?_⟩
  show codeAny _ _ (.func F.body (envC F f s.heap.objs.size)) _ _
  refine codeAny_func ?_
  obtain ⟨t, ht, hq⟩ := hbody A outer s H vs Q E (hr.deeper _) hf hc hsp
  have I : Inv (cxC P w K mg base N F f A outer s H E) [] (startC N vs ws) H { s with heap := h₁, toks := s.toks + (ps.zip us).length } := inv_C S hr.hd e0 hl r C hns hsb
  refine wpAny_mono (ht.nox.run [] _ (startC N vs ws) H _ I hq) (fun fl s' hs => ?_) fun e s' hs => hs
  have fin : ∀ {σ' : L2.St} {H' : Hp} {v : V} {u : Value}, Inv (cxC P w K mg base N F f A outer s H E) [] σ' H' s' → L2.RelV v u → Q v H' → CE outer P w H s Q u s' :=
    fun {σ' H' v u} J rv q => ⟨v, H', J.os, J.bare, J.base, J.hok, rv, q⟩
  cases fl with
  | ret u =>
    obtain ⟨v, σ', H', J, rv, q⟩ := hs
    exact fin J rv q
  | next =>
    obtain ⟨σ', H', J, q⟩ := hs
    exact fin (v := V.non) (u := Value.none) J rfl q
  | brk =>
    obtain ⟨_, _, _, q⟩ := hs
    exact False.elim q
  | cont =>
    obtain ⟨_, _, _, q⟩ := hs
    exact False.elim q
end
/-- f(..), f a name that holds a made function -/
def tCallC (P : Program) (w : World) (K : PySem.W.Frag) (mg : Str → Option Value) (base : Heap) (j ar i : Nat) (t : TA) : TE := fun σ H Q => ∃ (f : Addr) (F : NdefX.NF) (sp : Sp), σ[i]? = some (some (.ref f)) ∧ H f = some (NdefX.FnO f F) ∧ Clb P w K mg base j f F ar sp ∧
  t σ H fun vs H1 => H1 f = some (NdefX.FnO f F) ∧ H1 F.c = some (LamX.CodeO F.c F.qual) ∧ sp vs H1 Q E0
/-- what the frame's own cells hold, told of a base -/
def CellsIn (X : Cx) (b2 : Heap) (σ : L2.St) : Prop := ∀ (i : Nat) (y : Str) (v : V) (c : Addr), X.N[i]? = some y → σ[i]? = some (some v) → X.env.scope.names.lookup y = some .cell → X.fn y = true → X.env.cells.lookup y = some c → ∃ u, L2.RelV v u ∧ b2.IsCell c (some u)
/-- the same, the function's promise shown over a raised base -/
def tCallCU (X : Cx) (j ar i : Nat) (t : TA) : TE := fun σ H Q => ∃ (f : Addr) (F : NdefX.NF), σ[i]? = some (some (.ref f)) ∧ H f = some (NdefX.FnO f F) ∧
  t σ H fun vs H1 => H1 f = some (NdefX.FnO f F) ∧ H1 F.c = some (LamX.CodeO F.c F.qual) ∧ ∀ b2, Sub X.base b2 → X.Ok → CellsIn X b2 σ → ∃ sp : Sp, Clb X.prog X.w X.K X.mg b2 j f F ar sp ∧ sp vs H1 Q E0
/-- a def of the text, its promise shown over a raised base -/
def tCallU (X : Cx) (sp : Heap → Sp) (t : TA) : TE := fun σ H Q => t σ H fun vs H1 => ∀ b2, Sub X.base b2 → X.Ok → CellsIn X b2 σ → sp b2 vs H1 Q E0
section
variable {X : Cx} {i j k ar : Nat} {x : Str} {t : TA} {e : Expr} {es : List Expr} {p pos : Pos}
theorem run_clb {pins : List (Addr × Obj)} {σ : L2.St} {H : Hp} {s : Shared} {Q : VK} {f : Addr} {F : NdefX.NF} {sp : Sp} {us : List Value} {vs : List V} {b2 : Heap} (Fn : Clb X.prog X.w X.K X.mg b2 k f F ar sp) (hr : Room k X.A) (I : Inv X pins σ H s) (e0 : Env0 X.prog X.w X.K X.mg b2 X.A X.stack s H)
    (hf : H f = some (NdefX.FnO f F)) (hc : H F.c = some (LamX.CodeO F.c F.qual)) (r : Vals vs us) (q : sp vs H Q E0) : wpAny (model X.prog X.w) X.A (call (.ref f) us) (EP X pins σ Q) X.xe s := by
  refine wpAny_call (codeAny_mono (Fn.2 X.A X.stack s H us vs Q E0 hr e0 hf hc r q) fun r s' hq => ?_)
  cases r with
  | error e => exact False.elim hq
  | ok fl =>
    cases fl with
    | ret u => exact I.after hq
    | next => exact False.elim hq
    | brk => exact False.elim hq
    | cont => exact False.elim hq
theorem pe_callC (hr : Room j X.A) (hN : X.N[i]? = some x) (hv : L2.Vis X.env.scope x) (ha : PA X (e :: es) t) (hd : (x == ("__debug__" : Str)) = false := by decide) (hcd : (x == ("__classdict__" : Str)) = false := by decide)
    (he : starEach (e :: es) X.env = (false, eval e X.env) :: starEach es X.env := by rfl) (hpl : (backTo pos (starEach es X.env)).any (·.1) = false := by rfl) :
    PE X (.Call (.Name x p) (e :: es) [] pos) (tCallC X.prog X.w X.K X.mg X.base j ar i t) := by
  refine ⟨fun pins s σ H Q I h => ?_⟩
  obtain ⟨f, F, sp, hs, hf, Fn, ht⟩ := h
  refine wpAny_Call_Name_kw (thn ((pe_var (pos := p) hN hv hd hcd).run pins s σ H (fun v H1 => v = .ref f ∧ H1 = H) I ⟨.ref f, hs, rfl, rfl⟩) fun u s1 ⟨v, H1, I1, r1, q1⟩ => ?_)
  obtain ⟨rfl, rfl⟩ := q1
  obtain rfl : u = Value.ref f := r1
  refine PySem.W.callWith_F (first := []) (NdefX.fnAt_of I1 hf) (thn (ha.run pos pins s1 σ H1 _ I1 ht) fun us s2 ⟨vs, H2, I2, r, h1, h2, q⟩ => ⟨NdefX.fnAt_of I2 h1, ?_⟩) he hpl
  exact run_clb Fn hr I2 I2.env0 h1 h2 r q
theorem cells_in {pins : List (Addr × Obj)} {σ : L2.St} {H : Hp} {s : Shared} {b2 : Heap} (I : Inv X pins σ H s) (g : ∀ b o, s.heap.get? b = some o → H b = none → b ∉ frs X.stack → b2.get? b = some o) : CellsIn X b2 σ := by
  intro i y v c hN hs hk hfn hc
  obtain ⟨m, _, hl⟩ := I.loc
  obtain ⟨u, r, l⟩ := hl i y v hN hs (.inr (.inl hk))
  refine ⟨u, r, ?_⟩
  rcases l with ⟨z, _⟩ | ⟨_, c', hc', o, ho, hd⟩
  · have z' : X.env.scope.names.lookup y = some .local := z
    rw [hk] at z'
    cases z'
  · rw [hc] at hc'
    cases hc'
    refine ⟨o, g c o ho (I.freeC y c hc) fun hb => ?_, hd⟩
    rcases List.mem_cons.mp (I.stkSub c hb) with z | z
    · exact I.cne y c hc z
    · obtain ⟨_, o', ho', _⟩ := I.ok.funs.mem z
      exact Nat.lt_irrefl _ (Nat.lt_of_lt_of_le (Heap.lt_size ho') (I.ok.cab y c hfn hc))
theorem pe_callCU (hr : Room j X.A) (hN : X.N[i]? = some x) (hv : L2.Vis X.env.scope x) (ha : PA X (e :: es) t) (hd : (x == ("__debug__" : Str)) = false := by decide) (hcd : (x == ("__classdict__" : Str)) = false := by decide)
    (he : starEach (e :: es) X.env = (false, eval e X.env) :: starEach es X.env := by rfl) (hpl : (backTo pos (starEach es X.env)).any (·.1) = false := by rfl) :
    PE X (.Call (.Name x p) (e :: es) [] pos) (tCallCU X j ar i t) := by
  refine ⟨fun pins s σ H Q I h => ?_⟩
  obtain ⟨f, F, hs, hf, ht⟩ := h
  refine wpAny_Call_Name_kw (thn ((pe_var (pos := p) hN hv hd hcd).run pins s σ H (fun v H1 => v = .ref f ∧ H1 = H) I ⟨.ref f, hs, rfl, rfl⟩) fun u s1 ⟨v, H1, I1, r1, q1⟩ => ?_)
  obtain ⟨rfl, rfl⟩ := q1
  obtain rfl : u = Value.ref f := r1
  refine PySem.W.callWith_F (first := []) (NdefX.fnAt_of I1 hf) (thn (ha.run pos pins s1 σ H1 _ I1 ht) fun us s2 ⟨vs, H2, I2, r, h1, h2, q⟩ => ⟨NdefX.fnAt_of I2 h1, ?_⟩) he hpl
  obtain ⟨b2, sb, g, e0⟩ := env_up I2.env0
  obtain ⟨sp, Fn, q⟩ := q b2 sb I2.ok (cells_in I2 g)
  exact run_clb Fn hr I2 e0 h1 h2 r q
theorem pe_callU {f : Addr} {fd : FuncData} {ps : List Str} {sp : Heap → Sp} (F : ∀ b2, Sub X.base b2 → L2.Mod X.K X.mg X.base → FnOk X.prog X.w X.K X.mg b2 CX0 k f fd ps (sp b2)) (hr : Room k X.A) (hg : Gl X x) (hm : X.mg x = some (.ref f)) (hk : PySem.W.keepIn X.K (.ref f) = true) (hb : Binds X.K fd ps []) (ha : PA X (e :: es) t)
    (hdb : (x == ("__debug__" : Str)) = false := by decide) (he : starEach (e :: es) X.env = (false, eval e X.env) :: starEach es X.env := by rfl) (hpl : (backTo pos (starEach es X.env)).any (·.1) = false := by rfl) : PE X (.Call (.Name x p) (e :: es) [] pos) (tCallU X sp t) := by
  refine ⟨fun pins s σ H Q I h => ?_⟩
  refine wpAny_Call_Name_kw (ld_glob I hg hm ?_ hdb)
  refine PySem.W.callWith_K (h₀ := X.base) I.ok.mod.kin hk (thn (ha.run pos pins s σ H _ I h) fun us s1 ⟨vs, H1, I1, r, q⟩ => ⟨I1.kIn, ?_⟩) he hpl
  obtain ⟨b2, sb, g, e0⟩ := env_up I1.env0
  have q := q b2 sb I1.ok (cells_in I1 g)
  have hl : us.length = ps.length := by rw [← r.length]; exact (F b2 sb I1.ok.mod).len _ _ _ _ q
  have bt := hb s1 us I1.kIn (by rw [List.append_nil]; exact hl)
  rw [List.append_nil] at bt
  refine wpAny_call (codeAny_mono ((F b2 sb I1.ok.mod).run X.A X.stack s1 H1 ⟨us, []⟩ us vs Q E0 hr e0 bt r q) fun r s' hq => ?_)
  cases r with
  | error e => exact False.elim hq
  | ok fl =>
    cases fl with
    | ret u => exact I1.after hq
    | next => exact False.elim hq
    | brk => exact False.elim hq
    | cont => exact False.elim hq
/-- the cells of a function made in this frame -/
theorem cellsB_of {b2 : Heap} {σ : L2.St} {names : List (Str × NameKind)} {fr : List Str} {ws : List V} {js : List Nat} (ok : X.Ok) (ci : CellsIn X b2 σ) (nd : (names.map (·.1)).Nodup) (h1 : ∀ y ∈ names, y.2 = .free → y.1 ∈ fr) (h2 : ∀ y ∈ fr, names.lookup y = some .free) (h3 : ∀ y ∈ fr, X.env.scope.names.lookup y = some .cell ∧ X.fn y = true)
    (hjs : js.map (fun j => X.N[j]?) = fr.map some) (hws : js.map (fun j => NdefX.slotAt σ j) = ws.map some) : CellsB b2 (cloFrom X.env.cells names []) fr ws := by
  have hf : ∀ y ∈ names, y.2 = .free → ∃ c, X.env.cells.lookup y.1 = some c := fun y hy e => ok.has _ (.inl (h3 _ (h1 y hy e)).1)
  have memC : ∀ y c, (y, c) ∈ cloFrom X.env.cells names [] → (y, NameKind.free) ∈ names ∧ X.env.cells.lookup y = some c := fun y c hm => by
    rcases cloFrom_mem hm with z | ⟨z1, z2⟩
    · cases z
    · obtain ⟨c1, hc⟩ := hf _ z1 rfl
      have hc : X.env.cells.lookup y = some c1 := hc
      rw [hc] at z2
      exact ⟨z1, by rw [hc]; exact congrArg some z2.symm⟩
  have l1 : js.length = fr.length := by
    have q := congrArg List.length hjs
    rw [List.length_map, List.length_map] at q
    exact q
  have l2 : js.length = ws.length := by
    have q := congrArg List.length hws
    rw [List.length_map, List.length_map] at q
    exact q
  refine ⟨by omega, fun y c e => h1 _ (memC y c (PySem.mem_of_lookup e)).1 rfl, fun y c hm => NdefX.clo_has hf (memC y c hm).1 (memC y c hm).2, fun a b c ha hb => ok.inj a b c (memC a c (PySem.mem_of_lookup ha)).2 (memC b c (PySem.mem_of_lookup hb)).2, fun i y e => ?_⟩
  have il : i < fr.length := (List.getElem?_eq_some_iff.mp e).1
  obtain ⟨jj, hj⟩ : ∃ j, js[i]? = some j := ⟨_, List.getElem?_eq_getElem (by omega)⟩
  obtain ⟨v, hv⟩ : ∃ v, ws[i]? = some v := ⟨_, List.getElem?_eq_getElem (by omega)⟩
  have e1 := congrArg (fun l => l[i]?) hjs
  have e2 := congrArg (fun l => l[i]?) hws
  simp only [List.getElem?_map, hj, e, hv, Option.map_some, Option.some.injEq] at e1 e2
  obtain ⟨k1, k2⟩ := h3 y (List.mem_of_getElem? e)
  obtain ⟨c, hc⟩ := ok.has y (.inl k1)
  obtain ⟨u, r, z⟩ := ci jj y v c e1 (NdefX.slotAt_some e2) k1 k2 hc
  exact ⟨c, v, u, NdefX.clo_has hf (PySem.mem_of_lookup (h2 y (List.mem_of_getElem? e))) hc, hv, r, z⟩
theorem CellsB.sub {b b2 : Heap} {cl : List (Str × Addr)} {fr : List Str} {ws : List V} (c : CellsB b cl fr ws) (s : Sub b b2) : CellsB b2 cl fr ws := ⟨c.len, c.kin, c.mem, c.inj, fun i y e => by
  obtain ⟨d, v, u, h1, h2, h3, o, ho, hd⟩ := c.at_ i y e
  exact ⟨d, v, u, h1, h2, h3, o, s.get _ _ ho, hd⟩⟩
end
end

/-! ### all that is tracked stays, but tables of code objects may grow -/
structure Xt (H H' : Hp) : Prop where
  ex : LamX.ExtN H H'
  fr : ∀ b, H' b = none → H b = none
theorem Xt.refl (H : Hp) : Xt H H := ⟨LamX.ExtN.refl H, fun _ h => h⟩
theorem Xt.trans {H H1 H2 : Hp} (a : Xt H H1) (b : Xt H1 H2) : Xt H H2 := ⟨a.ex.trans b.ex, fun x h => a.fr x (b.fr x h)⟩
theorem Xt.of {H H' : Hp} (s : Same H H') : Xt H H' := ⟨LamX.ExtN.of s, fun _ h => s.free h⟩
theorem Xt.lst {H H' : Hp} (x : Xt H H') {a : Addr} {xs : List V} (h : H a = some (.lst xs)) : H' a = some (.lst xs) := x.ex _ _ h fun _ z => nomatch z
theorem Xt.tup {H H' : Hp} (x : Xt H H') {a : Addr} {xs : List V} (h : H a = some (.tup xs)) : H' a = some (.tup xs) := x.ex _ _ h fun _ z => nomatch z
theorem Xt.ins {H H' : Hp} (x : Xt H H') {a C dx : Addr} {fs : List (Str × V)} (h : H a = some (.ins C dx fs)) : H' a = some (.ins C dx fs) := x.ex _ _ h fun _ z => nomatch z
theorem Xt.fn {H H' : Hp} (x : Xt H H') {a f : Addr} {F : NdefX.NF} (h : H a = some (NdefX.FnO f F)) : H' a = some (NdefX.FnO f F) := x.ex _ _ h fun ps z => NdefX.fnO_ne ps z
theorem Xt.code {H H' : Hp} (x : Xt H H') {a c : Addr} {q : Str} (h : H a = some (LamX.CodeO c q)) : H' a = some (LamX.CodeO c q) := x.ex _ _ h fun ps z => by
  unfold LamX.CodeO at z
  cases z
theorem Xt.tb {H H' : Hp} (x : Xt H H') {a t : Addr} (h : H a = some (TbO t)) : H' a = some (TbO t) := x.ex _ _ h fun ps z => by
  unfold TbO at z
  cases z
theorem KT.xt {H H' : Hp} (x : Xt H H') : KT H H' := fun _ _ h => x.tup h
theorem HouseAt.xt {C : Addr} {H H' : Hp} {p : Addr} {r : Nat} {D : List Pr} {own : List Addr} (h : HouseAt C H p r D own) (x : Xt H H') : HouseAt C H' p r D own := by
  obtain ⟨dx, l, m, ls, ns, h1, h2, h3, h4, h5, h6, rfl⟩ := h.ex
  exact ⟨⟨dx, l, m, ls, ns, x.ins h1, x.lst h2, h3.kt (KT.xt x), x.lst h4, h5, fun i n g => x.lst (h6 i n g), rfl⟩, h.ok, h.r1, h.r12⟩
theorem Xt.seq {K : PySem.W.Frag} {H H' : Hp} {a : Addr} {xs : List V} (x : Xt H H') (h : SqL K H a xs) : SqL K H' a xs := by
  rcases h with (h | ⟨o, h⟩) | h
  · exact .inl (.inl (x.lst h))
  · exact .inl (.inr ⟨o, x.ex _ _ h fun _ z => nomatch z⟩)
  · exact .inr h
theorem tabs_same {T : List NdefX.NTab} {H H' : Hp} (h : NdefX.TabsN T H) (s : Same H H') : NdefX.TabsN T H' := h.ext s

/-! ### build_form, with its two defs -/
section
variable {P : Program} {w : World} {K : PySem.W.Frag} {mg : Str → Option Value} {base : Heap} {N : List Str} {F : NdefX.NF} {f : Addr} {A : Around} {outer : List Env} {s : Shared} {H : Hp} {E : XK}
theorem cxcK : (cxC P w K mg base N F f A outer s H E).nox.K = K := rfl
theorem cxcK2 : (cxC P w K mg base N F f A outer s H E).K = K := rfl
theorem cxcP : (cxC P w K mg base N F f A outer s H E).nox.prog = P := rfl
theorem cxcW : (cxC P w K mg base N F f A outer s H E).nox.w = w := rfl
theorem cxcM : (cxC P w K mg base N F f A outer s H E).nox.mg = mg := rfl
theorem cxcB : (cxC P w K mg base N F f A outer s H E).nox.base = base := rfl
end
abbrev sBf : Stmt := topS 32
abbrev sBbs : Stmt := (defBody sBf).headD (.Pass ⟨0, 0, 0, 0⟩)
abbrev sBbk : Stmt := ((defBody sBf).drop 1).headD (.Pass ⟨0, 0, 0, 0⟩)
def stLine : Stmt → Nat
  | .FunctionDef _ _ _ _ _ _ _ _ _ pos => pos.line
  | _ => 0
/-- a form, from the word and the tops of each part -/
noncomputable def frmF (D : List Pr) (Wf : List Int → Option Str) (Tf : List Int → List Int) : Nat → List Int → List Blk
  | 0, _ => []
  | n + 1, R => (pcsF D R).map fun P => match Wf P with
    | none => .mk none P []
    | some z => .mk (some z) (Tf P) (frmF D Wf Tf n (P.filter fun x => decide (x ∉ Tf P)))
noncomputable def frmP (D : List Pr) (Wf : List Int → Option Str) (Tf : List Int → List Int) (n : Nat) (P : List Int) : Blk := match Wf P with
  | none => .mk none P []
  | some z => .mk (some z) (Tf P) (frmF D Wf Tf n (P.filter fun x => decide (x ∉ Tf P)))
theorem frmF_succ (D : List Pr) (Wf : List Int → Option Str) (Tf : List Int → List Int) (n : Nat) (R : List Int) : frmF D Wf Tf (n + 1) R = (pcsF D R).map (frmP D Wf Tf n) := rfl
theorem frmF_blk (D : List Pr) (L : List Cl) : ∀ (n : Nat) (R : List Int), frmF D (wordP L) (fun P => upF (keepL D L 12 P)) n R = blkF D L n R
  | 0, _ => rfl
  | n + 1, R => by
    unfold frmF blkF
    refine List.map_congr_left fun P _ => ?_
    cases wordP L P with
    | none => rfl
    | some z =>
      have ef : (P.filter fun x => decide (x ∉ upF (keepL D L 12 P))) = P.filter fun x => decide (x ∉ keepL D L 12 P) := List.filter_congr fun x _ => by
        rw [decide_eq_decide]
        exact not_congr (upF_mem _ x)
      show Blk.mk _ _ _ = Blk.mk _ _ _
      rw [ef, frmF_blk D L n]
/-- a part of a house with so many rooms -/
def PartR (D : List Pr) (r : Nat) (R : List Int) : Prop := Part D R ∧ ∀ x ∈ R, 0 ≤ x ∧ x < r
theorem PartR.len {D : List Pr} {r : Nat} {R : List Int} (h : PartR D r R) : R.length ≤ r := ints_len (up_nd h.1.1) h.2
/-- what the two functions that build_form is given promise -/
def spWrd (Iv : Hp → Prop) (D : List Pr) (r : Nat) (Wf : List Int → Option Str) : Sp := fun vs H Q _ => ∃ (o : Addr) (R : List Int), vs = [.ref o] ∧ H o = some (.tup (R.map V.int)) ∧ PartR D r R ∧ Iv H ∧ ∀ H', Same H H' → Q (optS (Wf R)) H'
def spTps (Iv : Hp → Prop) (D : List Pr) (r : Nat) (Wf : List Int → Option Str) (Tf : List Int → List Int) : Sp := fun vs H Q _ => ∃ (o : Addr) (R : List Int) (z : Str), vs = [.ref o] ∧ H o = some (.tup (R.map V.int)) ∧ PartR D r R ∧ Wf R = some z ∧ Iv H ∧ ∀ t H', Same H H' → H' t = some (.tup ((Tf R).map V.int)) → Q (.ref t) H'
/-- a function object with its code object -/
structure FnC (H : Hp) (f : Addr) (F : NdefX.NF) : Prop where
  fn : H f = some (NdefX.FnO f F)
  cd : H F.c = some (LamX.CodeO F.c F.qual)
theorem FnC.same {H H' : Hp} {f : Addr} {F : NdefX.NF} (h : FnC H f F) (s : Same H H') : FnC H' f F := ⟨s _ _ h.fn, s _ _ h.cd⟩
theorem FnC.xt {H H' : Hp} {f : Addr} {F : NdefX.NF} (h : FnC H f F) (x : Xt H H') : FnC H' f F := ⟨x.fn h.fn, x.code h.cd⟩
theorem scBbs : NSc ["rooms", "build_block", "house", "piece"] ["rooms"] ["build_block", "house"] (defScope sBbs) := nsc_by (by decide +kernel)
theorem scBbk : NSc ["part", "build_blocks", "tops_in", "word_in", "word", "tops", "room"] ["part"] ["build_blocks", "tops_in", "word_in"] (defScope sBbk) := nsc_by (by decide +kernel)
section
variable {P : Program} {w : World} {K : PySem.W.Frag} {mg : Str → Option Value} {base : Heap}
theorem scBf : FnScope ["house", "word_in", "tops_in", "build_block", "build_blocks"] ["house", "word_in", "tops_in"] (defScope sBf) := ⟨rfl, rfl, rfl, by decide +kernel, rfl, by decide +kernel, by decide +kernel⟩
abbrev nfBbs (cl : List (Str × Addr)) (c : Addr) : NdefX.NF := NdefX.NF.of sBbs "build_blocks" ((("build_form" : Str) ++ ".<locals>.") ++ "build_blocks") cl c
abbrev nfBbk (cl : List (Str × Addr)) (c : Addr) : NdefX.NF := NdefX.NF.of sBbk "build_block" ((("build_form" : Str) ++ ".<locals>.") ++ "build_block") cl c
/-- what the two inner defs lean on -/
structure BfIv (H : Hp) (C p : Addr) (r : Nat) (D : List Pr) (own : List Addr) (Iv : Hp → Prop) (fs fb wa ta : Addr) (Fs Fb Fw Ft : NdefX.NF) : Prop where
  hh : HouseAt C H p r D own
  iv : Iv H
  s : FnC H fs Fs
  b : FnC H fb Fb
  w : FnC H wa Fw
  t : FnC H ta Ft
def spBbs (BI : Hp → Prop) (D : List Pr) (r : Nat) (Wf : List Int → Option Str) (Tf : List Int → List Int) (n : Nat) : Sp := fun vs H Q _ => ∃ (o : Addr) (R : List Int), vs = [.ref o] ∧ H o = some (.lst (R.map V.int)) ∧ R.length ≤ n ∧ (∀ x ∈ R, 0 ≤ x ∧ x < r) ∧ BI H ∧ ∀ v H', Same H H' → FormAt H' n v (frmF D Wf Tf n R) → Q v H'
def spBbk (BI : Hp → Prop) (D : List Pr) (r : Nat) (Wf : List Int → Option Str) (Tf : List Int → List Int) (n : Nat) : Sp := fun vs H Q _ => ∃ (o : Addr) (R : List Int), vs = [.ref o] ∧ H o = some (.tup (R.map V.int)) ∧ R.length ≤ n + 1 ∧ PartR D r R ∧ BI H ∧ ∀ v H', Same H H' → BlkV H' (BlksAt H' n) v (frmP D Wf Tf n R) → Q v H'
theorem clb_bbs {C p fs fb wa ta fP : Addr} {r n j : Nat} {D : List Pr} {own : List Addr} {Iv : Hp → Prop} {Wf : List Int → Option Str} {Tf : List Int → List Int} {Fb Fw Ft : NdefX.NF} {cl : List (Str × Addr)} {c : Addr} {fdP : FuncData} (T : Bi mg) (r12 : r ≤ 12) (d_pieces : Df P w K mg base "pieces" ["house", "rooms"] 4 (spPcs K C) fP fdP) (CB : CellsB base cl ["build_block", "house"] [.ref fb, .ref p]) (j4 : 4 ≤ j) (n12 : n ≤ 12) (ivS : ∀ H H', Iv H → Same H H' → Iv H')
    (hk : n = 0 ∨ ∃ m, n = m + 1 ∧ Clb P w K mg base j fb Fb 1 (spBbk (fun H => BfIv H C p r D own Iv fs fb wa ta (nfBbs cl c) Fb Fw Ft) D r Wf Tf m)) :
    Clb P w K mg base (j + 1) fs (nfBbs cl c) 1 (spBbs (fun H => BfIv H C p r D own Iv fs fb wa ta (nfBbs cl c) Fb Fw Ft) D r Wf Tf n) := by
  refine clb_of (N := ["rooms", "build_block", "house", "piece"]) (ps := ["rooms"]) (F := nfBbs cl c) scBbs CB (fun _ _ _ us hl => match us, hl with | [_], _ => rfl) (fun vs H Q E h => ?_) (fun A0 outer s H vs Q E hr hf hc h => ?_)
  · obtain ⟨o, R, rfl, _⟩ := h
    rfl
  · obtain ⟨o, R, rfl, ho, rn, hR, bi, ret⟩ := h
    refine ⟨_, (pss_one (ps_ret (pe_callTy call_tuple_of (by rfl) T.tuple (by decide +kernel) (pa_cons (pe_lc (own := [("piece", 3)]) (te := tCallC P w K mg base j 1 1 (tCons (tVar 3) tNil)) (by rfl) scBbs.nd (pi_list (pe_call d_pieces.ok (hr.mono (by omega)) (by rfl) d_pieces.at_ d_pieces.kp d_pieces.b .nil pass0 (pa_cons (pv 2) (pa_cons (pv 0) pa_nil)))) (blkOk_by (N := ["rooms", "build_block", "house", "piece"]) (sc := defScope sBbs) (by decide +kernel)) (fun _ _ _ _ _ => pg_name (i := 3) scBbs.nd rfl (Or.inl rfl)) (fun _ _ _ _ _ => pts_nil) (fun _ _ _ _ _ => (pe_callC (ar := 1) (j := j) hr (i := 1) rfl (by first | exact Or.inl rfl | exact Or.inr (Or.inl rfl) | exact Or.inr (Or.inr rfl)) (pa_cons (pv 3) pa_nil)))) pa_nil)))), ?_⟩
    simp only [cxcK, cxcK2, cxcP, cxcW, cxcM, cxcB, startC]
    walk_at "rd"
    refine lcW ?_
    walk_at "rd"
    refine ⟨p, o, R, r, D, own, rfl, bi.hh, .inl (SqL.of ho), by omega, hR, fun Ps us t H1 pcs s1 nt ht rl => ?_⟩
    have eP := pcsF_eq pcs
    have Pl : Ps.length ≤ 12 := Nat.le_trans pcs.len (by omega)
    have fin : ∀ (m : Nat), n = m + 1 → ∀ (q : Addr) (ys : List V) (H2 : Hp), Same H1 H2 → H2 q = some (.lst ys) → Paired (BlkV H2 (BlksAt H2 m)) ys (Ps.map (frmP D Wf Tf m)) → ∀ t2, H2 t2 = none → Q (.ref t2) (upd H2 t2 (.tup ys)) := fun m em q ys H2 s2 hq pr t2 nt2 => by
      subst em
      have sn := same_upd (o := HO.tup ys) nt2
      refine ret _ _ ((s1.trans s2).trans sn) ⟨t2, ys, rfl, upd_same, ?_, ?_⟩
      · rw [Paired.length pr, List.length_map]
        omega
      · rw [frmF_succ, eP]
        exact BL.kt pr (KT.new nt2)
    refine ⟨t, rfl, ⟨us, SqL.of ht⟩, ?_⟩
    rcases hk with rfl | ⟨m, rfl, Cb⟩
    · have R0 := List.length_eq_zero_iff.mp (Nat.le_zero.mp rn)
      subst R0
      have P0 : Ps = [] := by rw [← eP, pcsF_nil]
      subst P0
      have u0 : us = [] := List.length_eq_zero_iff.mp rl.len
      subst u0
      refine gc_list (β := Unit) (fun _ _ _ => True) (fun _ _ _ _ _ _ => trivial) (fun _ => none) ht (by decide) (fun jj x Hx A B gx _ _ _ => by cases gx) (fun q ys H2 s2 nq hq pr => ?_)
      have y0 : ys = [] := List.length_eq_zero_iff.mp (by rw [Paired.length pr]; rfl)
      subst y0
      refine ⟨q, rfl, [], .inl ⟨SqL.of hq, fun t2 nt2 => ?_⟩⟩
      exact ret _ _ ((s1.trans s2).trans (same_upd nt2)) ⟨t2, [], rfl, upd_same, rfl, rfl⟩
    · refine gc_list (fun Hx v b => BlkV Hx (BlksAt Hx m) v b) (fun _ _ _ _ h k => blkV_kt k h) (fun jj => Ps[jj]?.bind fun Q0 => some (frmP D Wf Tf m Q0)) ht (by rw [rl.len]; omega) (fun jj x Hx A B gx sx hA _ => ?_) (fun q ys H2 s2 nq hq pr => ?_)
      · obtain ⟨Q0, gQ, tq, rfl, htq⟩ := lget rl gx
        have QP : Q0 ∈ Ps := List.mem_of_getElem? gQ
        have Qsub := pcs.sub_of QP
        have part := pcs.part QP
        have s01 := s1.trans sx
        refine (show (if true = true then tCallC P w K mg base j 1 1 (tCons (tVar 3) tNil) _ Hx A else B Hx) from ?_)
        rw [if_pos rfl]
        refine ⟨fb, Fb, _, rfl, (s01 _ _ bi.b.fn), Cb, ?_⟩
        refine ⟨.ref tq, rfl, s01 _ _ bi.b.fn, s01 _ _ bi.b.cd, ?_⟩
        refine ⟨tq, Q0, rfl, sx _ _ htq, Nat.le_trans (int_sub_len2 (up_nd part.1) Qsub) rn, ⟨part, fun x hx => hR x (Qsub x hx)⟩, ⟨bi.hh.same s01, ivS _ _ bi.iv s01, bi.s.same s01, bi.b.same s01, bi.w.same s01, bi.t.same s01⟩, fun v H3 s3 bv => ?_⟩
        exact hA v _ H3 (by rw [gQ]; rfl) s3 bv
      · rw [rl.len, fm_range (L := Ps) (fun Q0 => some (frmP D Wf Tf m Q0)), List.filterMap_eq_map'] at pr
        exact ⟨q, rfl, ys, .inl ⟨SqL.of hq, fin m rfl q ys H2 s2 hq pr⟩⟩
theorem clb_bbk {C p fs fb wa ta : Addr} {r n j kw : Nat} {D : List Pr} {own : List Addr} {Iv : Hp → Prop} {Wf : List Int → Option Str} {Tf : List Int → List Int} {Fs Fw Ft : NdefX.NF} {cl : List (Str × Addr)} {c : Addr} (r12 : r ≤ 12) (CB : CellsB base cl ["build_blocks", "tops_in", "word_in"] [.ref fs, .ref ta, .ref wa]) (jk : kw ≤ j) (n12 : n ≤ 12) (ivS : ∀ H H', Iv H → Same H H' → Iv H')
    (Cw : Clb P w K mg base kw wa Fw 1 (spWrd Iv D r Wf)) (Ct : Clb P w K mg base kw ta Ft 1 (spTps Iv D r Wf Tf)) (hT : ∀ R z, PartR D r R → Wf R = some z → (Tf R).length ≤ 12 ∧ ∃ x ∈ R, x ∈ Tf R)
    (Cs : Clb P w K mg base j fs Fs 1 (spBbs (fun H => BfIv H C p r D own Iv fs fb wa ta Fs (nfBbk cl c) Fw Ft) D r Wf Tf n)) :
    Clb P w K mg base (j + 1) fb (nfBbk cl c) 1 (spBbk (fun H => BfIv H C p r D own Iv fs fb wa ta Fs (nfBbk cl c) Fw Ft) D r Wf Tf n) := by
  refine clb_of (N := ["part", "build_blocks", "tops_in", "word_in", "word", "tops", "room"]) (ps := ["part"]) (F := nfBbk cl c) scBbk CB (fun _ _ _ us hl => match us, hl with | [_], _ => rfl) (fun vs H Q E h => ?_) (fun A0 outer s H vs Q E hr hf hc h => ?_)
  · obtain ⟨o, R, rfl, _⟩ := h
    rfl
  · obtain ⟨o, R, rfl, ho, rn, hR, bi, ret⟩ := h
    refine ⟨_, (pss_cons (ps_set (i := 4) scBbk.nd rfl (Or.inl rfl) (pe_callC (ar := 1) (j := j) hr (i := 3) rfl (by first | exact Or.inl rfl | exact Or.inr (Or.inl rfl) | exact Or.inr (Or.inr rfl)) (pa_cons (pv 0) pa_nil)))
      (pss_cons (ps_if (pt_cmpR op_isN (pv 4) pe_non (nomark _))
      (pss_one (ps_ret (pe_tup (pa_cons pe_non (pa_cons (pv 0) (pa_cons (pe_tup pa_nil) pa_nil))))))
      pss_nil)
      (pss_cons (ps_set (i := 5) scBbk.nd rfl (Or.inr rfl) (pe_callC (ar := 1) (j := j) hr (i := 2) rfl (by first | exact Or.inl rfl | exact Or.inr (Or.inl rfl) | exact Or.inr (Or.inr rfl)) (pa_cons (pv 0) pa_nil)))
      (pss_one (ps_ret (pe_tup (pa_cons (pv 4) (pa_cons (pv 5) (pa_cons (pe_callC (ar := 1) (j := j) hr (i := 1) rfl (by first | exact Or.inl rfl | exact Or.inr (Or.inl rfl) | exact Or.inr (Or.inr rfl)) (pa_cons (pe_lc (own := [("room", 6)]) (te := (tVar 6)) (tt := (tTest (tOp (rIn K true) (tVar 6) (tVar 5)))) (by rfl) scBbk.nd (pi_tup (pv 0)) (blkOk_by (N := ["part", "build_blocks", "tops_in", "word_in", "word", "tops", "room"]) (sc := defScope sBbk) (by decide +kernel)) (fun _ _ _ _ _ => pg_name (i := 6) scBbk.nd rfl (Or.inl rfl)) (fun _ _ _ _ _ => (pts_one (pt_cmpR op_notIn_seq (pv 6) (pv 5) (by rfl)))) (fun _ _ _ _ _ => (pv 6))) pa_nil)) pa_nil))))))))), ?_⟩
    simp only [cxcK, cxcK2, cxcP, cxcW, cxcM, cxcB, startC]
    walk_at "rd"
    have bis : ∀ {H' : Hp}, Same H H' → BfIv H' C p r D own Iv fs fb wa ta Fs (nfBbk cl c) Fw Ft := fun {H'} s => ⟨bi.hh.same s, ivS _ _ bi.iv s, bi.s.same s, bi.b.same s, bi.w.same s, bi.t.same s⟩
    have Rl := hR.len
    refine ⟨wa, Fw, _, rfl, bi.w.fn, Cw.mono jk, ?_⟩
    refine ⟨.ref o, rfl, bi.w.fn, bi.w.cd, o, R, rfl, ho, hR, bi.iv, fun H1 s1 => ?_⟩
    cases hw : Wf R with
    | none =>
      refine (show (if optS none = V.non then _ else _) from ?_)
      rw [if_pos (show optS none = V.non from rfl)]
      refine ⟨Nat.zero_le _, fun t1 nt1 => ⟨by decide, fun t2 nt2 => ?_⟩⟩
      have s2 := same_upd (o := HO.tup []) nt1
      have ht1 := upd_same (H := H1) (a := t1) (o := HO.tup [])
      generalize upd H1 t1 (HO.tup []) = H2 at s2 ht1 nt2 ⊢
      have s3 := same_upd (o := HO.tup [V.non, V.ref o, V.ref t1]) nt2
      have ht2 := upd_same (H := H2) (a := t2) (o := HO.tup [V.non, V.ref o, V.ref t1])
      generalize upd H2 t2 (HO.tup [V.non, V.ref o, V.ref t1]) = H3 at s3 ht2 ⊢
      have s03 := s1.trans (s2.trans s3)
      refine ret _ H3 s03 ?_
      have eB : frmP D Wf Tf n R = .mk none R [] := by
        unfold frmP
        rw [hw]
      rw [eB]
      refine ⟨t2, o, t1, [], rfl, ht2, s03 _ _ ho, (by show R.length ≤ 1000; omega), s3 _ _ ht1, ?_⟩
      cases n with
      | zero => exact ⟨rfl, rfl⟩
      | succ n => exact ⟨Nat.zero_le _, Paired.nil⟩
    | some z =>
      refine (show (if optS (some z) = V.non then _ else _) from ?_)
      rw [if_neg (show ¬ optS (some z) = V.non from fun q => by cases q)]
      obtain ⟨tl, x0, x0R, x0T⟩ := hT R z hR hw
      have b1 := bis s1
      refine ⟨ta, Ft, _, rfl, b1.t.fn, Ct.mono jk, ?_⟩
      refine ⟨.ref o, rfl, b1.t.fn, b1.t.cd, o, R, z, rfl, s1 _ _ ho, hR, hw, b1.iv, fun tt H2 s2 htt => ?_⟩
      have s12 := s1.trans s2
      have b2 := bis s12
      refine ⟨fs, Fs, _, rfl, b2.s.fn, Cs, ?_⟩
      refine lcW ?_
      unfold iTup
      walk_at "rd"
      refine ⟨⟨_, SqT.of (s12 _ _ ho)⟩, lc_filtT (p := fun x => decide (x ∉ Tf R)) (s12 _ _ ho) (by omega) (by simp) (fun x Hy B xm sy hB => ?_) fun oo H3 s3 noo hoo => ?_⟩
      · refine ⟨.int x, rfl, .ref tt, rfl, tt, (Tf R).map V.int, rfl, .inr (SqT.of (sy _ _ htt)), rfl, flI _, ?_⟩
        rw [inI, if_pos rfl]
        have e : (!decide (x ∈ Tf R)) = decide (x ∉ Tf R) := by by_cases z : x ∈ Tf R <;> simp [z]
        rw [e]
        exact ⟨_, rfl, hB⟩
      have s13 := s12.trans s3
      have b3 := bis s13
      have lt : (R.filter fun x => decide (x ∉ Tf R)).length < R.length := filter_lt x0R (by simpa using x0T)
      refine ⟨b3.s.fn, b3.s.cd, oo, _, rfl, hoo, by omega, fun x hx => hR.2 x (List.mem_filter.mp hx).1, b3, fun v H4 s4 fm => ?_⟩
      refine ⟨by decide, fun t2 nt2 => ?_⟩
      have s5 := same_upd (o := HO.tup [optS (some z), .ref tt, v]) nt2
      have ht2 := upd_same (H := H4) (a := t2) (o := HO.tup [optS (some z), .ref tt, v])
      generalize upd H4 t2 (HO.tup [optS (some z), .ref tt, v]) = H5 at s5 ht2 ⊢
      obtain ⟨ai, xi, rfl, hai, hbi⟩ := fm.kt (KT.same s5)
      have eB : frmP D Wf Tf n R = .mk (some z) (Tf R) (frmF D Wf Tf n (R.filter fun x => decide (x ∉ Tf R))) := by
        unfold frmP
        rw [hw]
      refine ret _ H5 ((s13.trans s4).trans s5) ?_
      rw [eB]
      exact ⟨t2, tt, ai, xi, rfl, ht2, s5 _ _ (s4 _ _ (s3 _ _ htt)), (by show (Tf R).length ≤ 1000; omega), hai, hbi⟩
end

/-! ### build_form -/
def nmBf : Nat → Nat → Str := fun line _ => if line = stLine sBbs then "build_form.<locals>.build_blocks" else "build_form.<locals>.build_block"
theorem hnBs : ∀ c, nmBf (stLine sBbs) c = (("build_form" : Str) ++ ".<locals>.") ++ "build_blocks" := fun c => by
  unfold nmBf
  rw [if_pos rfl]
  decide +kernel
theorem hnBk : ∀ c, nmBf (stLine sBbk) c = (("build_form" : Str) ++ ".<locals>.") ++ "build_block" := fun c => by
  unfold nmBf
  rw [if_neg (by decide +kernel)]
  decide +kernel
theorem hfBs : NdefX.ndefB (defScope sBf) (C8.fnScope sBbs) ["build_block", "house"] = true := by decide +kernel
theorem hfBk : NdefX.ndefB (defScope sBf) (C8.fnScope sBbk) ["build_blocks", "tops_in", "word_in"] = true := by decide +kernel
section
variable {P : Program} {w : World} {K : PySem.W.Frag} {mg : Str → Option Value} {base : Heap}
theorem clb_bf {C p fs fb wa ta fP : Addr} {r kw : Nat} {D : List Pr} {own : List Addr} {Iv : Hp → Prop} {Wf : List Int → Option Str} {Tf : List Int → List Int} {Fw Ft : NdefX.NF} {cl cl2 : List (Str × Addr)} {c c2 : Addr} {fdP : FuncData} (T : Bi mg) (r12 : r ≤ 12) (k22 : kw ≤ 21) (d_pieces : Df P w K mg base "pieces" ["house", "rooms"] 4 (spPcs K C) fP fdP) (CB : CellsB base cl ["build_block", "house"] [.ref fb, .ref p]) (CB2 : CellsB base cl2 ["build_blocks", "tops_in", "word_in"] [.ref fs, .ref ta, .ref wa]) (ivS : ∀ H H', Iv H → Same H H' → Iv H')
    (Cw : Clb P w K mg base kw wa Fw 1 (spWrd Iv D r Wf)) (Ct : Clb P w K mg base kw ta Ft 1 (spTps Iv D r Wf Tf)) (hT : ∀ R z, PartR D r R → Wf R = some z → (Tf R).length ≤ 12 ∧ ∃ x ∈ R, x ∈ Tf R) :
    ∀ n, n ≤ 12 → Clb P w K mg base (2 * n + 22) fs (nfBbs cl c) 1 (spBbs (fun H => BfIv H C p r D own Iv fs fb wa ta (nfBbs cl c) (nfBbk cl2 c2) Fw Ft) D r Wf Tf n)
  | 0, _ => clb_bbs (j := 21) T r12 d_pieces CB (by decide) (by decide) ivS (.inl rfl)
  | n + 1, h => by
    have ih := clb_bf (c := c) (c2 := c2) (own := own) T r12 k22 d_pieces CB CB2 ivS Cw Ct hT n (Nat.le_of_succ_le h)
    have cb := clb_bbk (j := 2 * n + 22) r12 CB2 (by omega) (Nat.le_of_succ_le h) ivS Cw Ct hT ih
    have := clb_bbs (j := 2 * n + 23) (n := n + 1) T r12 d_pieces CB (by omega) h ivS (.inr ⟨n, rfl, cb⟩)
    exact this
def spBf (P : Program) (w : World) (K : PySem.W.Frag) (mg : Str → Option Value) (C : Addr) (Tb : List NdefX.NTab) (base : Heap) : Sp := fun vs H Q _ => ∃ (p wa ta : Addr) (r : Nat) (D : List Pr) (own : List Addr) (Iv : Hp → Prop) (Wf : List Int → Option Str) (Tf : List Int → List Int) (Fw Ft : NdefX.NF), vs = [.ref p, .ref wa, .ref ta] ∧ HouseAt C H p r D own ∧ Iv H ∧ (∀ H H', Iv H → Xt H H' → Iv H') ∧ FnC H wa Fw ∧ FnC H ta Ft ∧ Clb P w K mg base 20 wa Fw 1 (spWrd Iv D r Wf) ∧ Clb P w K mg base 20 ta Ft 1 (spTps Iv D r Wf Tf) ∧ (∀ R z, PartR D r R → Wf R = some z → (Tf R).length ≤ 12 ∧ ∃ x ∈ R, x ∈ Tf R) ∧ NdefX.TabsN Tb H ∧
  ∀ v H', Xt H H' → NdefX.TabsN Tb H' → FormAt H' 12 v (frmF D Wf Tf 12 (rg r)) → Q v H'
theorem ok_bf {f C fP co tb : Addr} {fd fdP : FuncData} {Tb : List NdefX.NTab} (F : FunC K "build_form" "build_form" sBf f fd co) (T : Bi mg) (U : Hs K mg C) (TB : LamX.TabB base mg co tb) (hm : (tb, nmBf) ∈ Tb) (hu : ∀ p ∈ Tb, p.1 = tb → p.2 = nmBf) (d_pieces : Df P w K mg base "pieces" ["house", "rooms"] 4 (spPcs K C) fP fdP) : FnOk P w K mg base CX0 48 f fd ["house", "word_in", "tops_in"] (spBf P w K mg C Tb base) := by
  refine F.ok scBf (fun vs H Q E h => ?_) (fun A0 outer s H vs Q E hr h => ?_)
  · obtain ⟨p, wa, ta, r, D, own, Iv, Wf, Tf, Fw, Ft, rfl, _⟩ := h
    rfl
  · obtain ⟨p, wa, ta, r, D, own, Iv, Wf, Tf, Fw, Ft, rfl, hh, iv, ivX, fw, ft, Cw, Ct, hT, hTb, ret⟩ := h
    have r12 := hh.r12
    refine ⟨_, (pss_cons (NdefX.ps_ndefMS (st := sBbs) (T := Tb) (nm := nmBf) (c := co) (P := tb) (i := 4) rfl TB rfl hm (hnBs _) hu (NdefX.ndef_free hfBs) rfl rfl rfl scBf.nd rfl (Or.inr rfl) (Or.inl rfl))
      (pss_cons (NdefX.ps_ndefMS (st := sBbk) (T := Tb) (nm := nmBf) (c := co) (P := tb) (i := 3) rfl TB rfl hm (hnBk _) hu (NdefX.ndef_free hfBk) rfl rfl rfl scBf.nd rfl (Or.inr rfl) (Or.inl rfl))
      (pss_one (ps_ret (pe_callCU (ar := 1) (j := 46) (hr.mono (by decide)) (i := 4) rfl (by first | exact Or.inl rfl | exact Or.inr (Or.inl rfl) | exact Or.inr (Or.inr rfl)) (pa_cons (pe_listRg rfl (by rfl) T.list (prg_1 (by rfl) T.range (pe_fld (pv 0) rfl))) pa_nil)))))), ?_⟩
    walk_at "rd"
    refine ⟨hTb, fun fs cs H1 e1 n1 t1 fs0 hfs hcs => ?_⟩
    have x1 : Xt H H1 := ⟨e1, n1⟩
    walk_at "rd"
    refine ⟨t1, fun fb cb H2 e2 n2 t2 fb0 hfb hcb => ?_⟩
    have x2 : Xt H1 H2 := ⟨e2, n2⟩
    have x12 := x1.trans x2
    walk_at "rd"
    obtain ⟨dx, l0, m0, ls, nss, h1, _⟩ := (hh.xt x12).ex
    obtain ⟨cl1, ecl1⟩ : ∃ cl, cl = cloFrom (cxOf CX0 P w K mg base ["house", "word_in", "tops_in", "build_block", "build_blocks"] "build_form" (defScope sBf) f (.ref co) A0 outer s H E).nox.env.cells (C8.fnScope sBbs).names [] := ⟨_, rfl⟩
    obtain ⟨cl2, ecl2⟩ : ∃ cl, cl = cloFrom (cxOf CX0 P w K mg base ["house", "word_in", "tops_in", "build_block", "build_blocks"] "build_form" (defScope sBf) f (.ref co) A0 outer s H E).nox.env.cells (C8.fnScope sBbk).names [] := ⟨_, rfl⟩
    have ks : FnC H1 fs (nfBbs cl1 cs) := ⟨by rw [ecl1]; exact hfs, by rw [ecl1]; exact hcs⟩
    have kb : FnC H2 fb (nfBbk cl2 cb) := ⟨by rw [ecl2]; exact hfb, by rw [ecl2]; exact hcb⟩
    have ks2 := ks.xt x2
    clear hfs hcs hfb hcb
    refine ⟨fs, nfBbs cl1 cs, rfl, ks2.fn, ?_⟩
    walk_at "rd"
    refine ⟨C, dx, _, h1, U.cl, U.nR, .int r, hf_rooms _ _ _, r, rfl, RgOk.of_le (by omega) (by omega) (by omega) (by omega), fun q nq => ?_⟩
    rw [rgV_rg]
    have s3 := same_upd (o := HO.lst ((rg r).map V.int)) nq
    have hq := upd_same (H := H2) (a := q) (o := HO.lst ((rg r).map V.int))
    generalize upd H2 q (HO.lst ((rg r).map V.int)) = H3 at s3 hq ⊢
    have ks3 := ks2.same s3
    have kb3 := kb.same s3
    have x3 := x12.trans (.of s3)
    refine ⟨ks3.fn, ks3.cd, fun b2 sb ok ci => ?_⟩
    have md : L2.Mod K mg base := ok.mod
    have CB : CellsB b2 cl1 ["build_block", "house"] [.ref fb, .ref p] := by
      rw [ecl1]
      exact cellsB_of (js := [3, 0]) ok ci scBbs.ndn scBbs.free scBbs.frk (fun y hy => ⟨(show ∀ y ∈ (["build_block", "house"] : List Str), (defScope sBf).names.lookup y = some .cell by decide +kernel) y hy, rfl⟩) rfl rfl
    have CB2 : CellsB b2 cl2 ["build_blocks", "tops_in", "word_in"] [.ref fs, .ref ta, .ref wa] := by
      rw [ecl2]
      exact cellsB_of (js := [4, 2, 1]) ok ci scBbk.ndn scBbk.free scBbk.frk (fun y hy => ⟨(show ∀ y ∈ (["build_blocks", "tops_in", "word_in"] : List Str), (defScope sBf).names.lookup y = some .cell by decide +kernel) y hy, rfl⟩) rfl rfl
    refine ⟨_, clb_bf (c := cs) (c2 := cb) (own := own) T r12 (by decide) (d_pieces.up md sb) CB CB2 (fun H H' a b => ivX H H' a (.of b)) (Cw.up md sb) (Ct.up md sb) hT 12 (by decide), ?_⟩
    refine ⟨q, rg r, rfl, hq, by rw [rg_len]; omega, fun y hy => ?_, ⟨hh.xt x3, ivX _ _ iv x3, ks3, kb3, fw.xt x3, ft.xt x3⟩, fun v H4 s4 fm => ?_⟩
    · unfold rg at hy
      obtain ⟨k, hk, rfl⟩ := List.mem_map.mp hy
      have h9 := List.mem_range.mp hk
      exact ⟨Int.natCast_nonneg k, Int.ofNat_lt.mpr h9⟩
    · exact ret v H4 (x3.trans (.of s4)) (tabs_same (tabs_same t2 s3) s4) fm
end

/-! ### form_of -/
abbrev sFo : Stmt := topS 30
abbrev sWi : Stmt := ((defBody sFo).drop 1).headD (.Pass ⟨0, 0, 0, 0⟩)
abbrev sTi : Stmt := ((defBody sFo).drop 2).headD (.Pass ⟨0, 0, 0, 0⟩)
def nmFo : Nat → Nat → Str := fun line _ => if line = stLine sWi then "form_of.<locals>.word_in" else "form_of.<locals>.tops_in"
theorem hnWi : ∀ c, nmFo (stLine sWi) c = (("form_of" : Str) ++ ".<locals>.") ++ "word_in" := fun c => by
  unfold nmFo
  rw [if_pos rfl]
  decide +kernel
theorem hnTi : ∀ c, nmFo (stLine sTi) c = (("form_of" : Str) ++ ".<locals>.") ++ "tops_in" := fun c => by
  unfold nmFo
  rw [if_neg (by decide +kernel)]
  decide +kernel
theorem hfWi : NdefX.ndefB (defScope sFo) (C8.fnScope sWi) ["calls"] = true := by decide +kernel
theorem hfTi : NdefX.ndefB (defScope sFo) (C8.fnScope sTi) ["calls", "house"] = true := by decide +kernel
theorem scWi : NSc ["part", "calls"] ["part"] ["calls"] (defScope sWi) := nsc_by (by decide +kernel)
theorem scTi : NSc ["part", "calls", "house"] ["part"] ["calls", "house"] (defScope sTi) := nsc_by (by decide +kernel)
abbrev nfWi (cl : List (Str × Addr)) (c : Addr) : NdefX.NF := NdefX.NF.of sWi "word_in" ((("form_of" : Str) ++ ".<locals>.") ++ "word_in") cl c
abbrev nfTi (cl : List (Str × Addr)) (c : Addr) : NdefX.NF := NdefX.NF.of sTi "tops_in" ((("form_of" : Str) ++ ".<locals>.") ++ "tops_in") cl c
theorem lastF_alk (D : List Pr) (R : List Int) (L : List Cl) : AlkP D R (lastF L) L := fun Q _ _ => wordP_last L Q
/-- what the inner defs lean on: the house and the last calls -/
structure FoIv (H : Hp) (C p g : Addr) (r : Nat) (D : List Pr) (own : List Addr) (gs : List V) (L : List Cl) : Prop where
  hh : HouseAt C H p r D own
  hg : H g = some (.lst gs)
  lg : LG H gs L
theorem FoIv.xt {H H' : Hp} {C p g : Addr} {r : Nat} {D : List Pr} {own : List Addr} {gs : List V} {L : List Cl} (h : FoIv H C p g r D own gs L) (x : Xt H H') : FoIv H' C p g r D own gs L := ⟨h.hh.xt x, x.lst h.hg, h.lg.kt (KT.xt x)⟩
section
variable {P : Program} {w : World} {K : PySem.W.Frag} {mg : Str → Option Value} {base : Heap}
theorem scFo : FnScope ["house", "log", "word_in", "tops_in", "calls"] ["house", "log"] (defScope sFo) := ⟨rfl, rfl, rfl, by decide +kernel, rfl, by decide +kernel, by decide +kernel⟩
theorem clb_wi {C p g wa fW : Addr} {r : Nat} {D : List Pr} {own : List Addr} {gs : List V} {L : List Cl} {cl : List (Str × Addr)} {c : Addr} {fdW : FuncData} (d_word_of : Df P w K mg base "word_of" ["log", "rooms"] 2 (spTopR K optW) fW fdW) (CB : CellsB base cl ["calls"] [.ref g]) :
    Clb P w K mg base 20 wa (nfWi cl c) 1 (spWrd (fun H => FoIv H C p g r D own gs L) D r (wordP L)) := by
  refine clb_of (k := 19) (N := ["part", "calls"]) (ps := ["part"]) (F := nfWi cl c) scWi CB (fun _ _ _ us hl => match us, hl with | [_], _ => rfl) (fun vs H Q E h => ?_) (fun A0 outer s H vs Q E hr hf hc h => ?_)
  · obtain ⟨o, R, rfl, _⟩ := h
    rfl
  · obtain ⟨o, R, rfl, ho, hR, iv, ret⟩ := h
    refine ⟨_, (pss_one (ps_ret (pe_call d_word_of.ok (hr.mono (by decide)) (by rfl) d_word_of.at_ d_word_of.kp d_word_of.b .nil pass0 (pa_cons (pv 1) (pa_cons (pv 0) pa_nil))))), ?_⟩
    simp only [cxcK, cxcK2, cxcP, cxcW, cxcM, cxcB, startC]
    walk_at "rd"
    refine ⟨g, o, gs, L, R, rfl, iv.hg, iv.lg, .inr (SqT.of ho), ?_⟩
    rw [optW_S]
    exact ret H (Same.refl _)
theorem clb_ti {C p g ta fK : Addr} {r : Nat} {D : List Pr} {own : List Addr} {gs : List V} {L : List Cl} {cl : List (Str × Addr)} {c : Addr} {fdK : FuncData} (T : Bi mg) (r12 : r ≤ 12) (d_called_keepers : Df P w K mg base "called_keepers" ["house", "calls", "part"] 17 (spCke C 12) fK fdK) (CB : CellsB base cl ["calls", "house"] [.ref g, .ref p]) :
    Clb P w K mg base 20 ta (nfTi cl c) 1 (spTps (fun H => FoIv H C p g r D own gs L) D r (wordP L) (fun R => upF (keepL D L 12 R))) := by
  refine clb_of (k := 19) (N := ["part", "calls", "house"]) (ps := ["part"]) (F := nfTi cl c) scTi CB (fun _ _ _ us hl => match us, hl with | [_], _ => rfl) (fun vs H Q E h => ?_) (fun A0 outer s H vs Q E hr hf hc h => ?_)
  · obtain ⟨o, R, z, rfl, _⟩ := h
    rfl
  · obtain ⟨o, R, z, rfl, ho, hR, hw, iv, ret⟩ := h
    have Rl := hR.len
    refine ⟨_, (pss_one (ps_ret (pe_callTy call_tuple_of (by rfl) T.tuple (by decide +kernel) (pa_cons (pe_callB cr_sorted (by rfl) T.sorted (by decide +kernel) (pa_cons (pe_call d_called_keepers.ok (hr.mono (by decide)) (by rfl) d_called_keepers.at_ d_called_keepers.kp d_called_keepers.b .nil pass0 (pa_cons (pv 2) (pa_cons (pv 1) (pa_cons (pv 0) pa_nil)))) pa_nil)) pa_nil)))), ?_⟩
    simp only [cxcK, cxcK2, cxcP, cxcW, cxcM, cxcB, startC]
    walk_at "rd"
    refine ⟨p, g, o, gs, L, R, r, D, own, rfl, iv.hh, iv.hg, iv.lg, ho, by omega, by decide, hR.1.1, hR.2, ⟨z, hw⟩, fun t H1 s1 nt ht => ?_⟩
    have kl := keepL_len (D := D) (L := L) 12 R
    walk_at "rd"
    refine ⟨_, _, rfl, SqL.of ht, by omega, fun ys t2 pm so nt2 => ?_⟩
    have ey : ys = upF (keepL D L 12 R) := (upF_eq (up_of pm (keepL_nd 12 R) so) fun x => pm.mem_iff).symm
    have s2 := same_upd (o := HO.lst (ys.map V.int)) nt2
    have ht2 := upd_same (H := H1) (a := t2) (o := HO.lst (ys.map V.int))
    generalize upd H1 t2 (HO.lst (ys.map V.int)) = H2 at s2 ht2 ⊢
    refine ⟨t2, rfl, _, .inl ⟨SqL.of ht2, fun t3 nt3 => ?_⟩⟩
    exact ret t3 _ ((s1.trans s2).trans (same_upd nt3)) (by rw [upd_same, ey])
def spFo (C : Addr) (Tb : List NdefX.NTab) : Sp := fun vs H Q _ => ∃ (p l : Addr) (r : Nat) (D : List Pr) (own : List Addr) (us : List V) (L : List Cl), vs = [.ref p, .ref l] ∧ HouseAt C H p r D own ∧ H l = some (.lst us) ∧ LG H us L ∧ L.length ≤ 1000 ∧ NdefX.TabsN Tb H ∧
  ∀ v H', Xt H H' → NdefX.TabsN Tb H' → FormAt H' 12 v (formF D r L) → Q v H'
theorem ok_fo {f C fL fW fK fP fb co tb cob tbb : Addr} {fd fdL fdW fdK fdP fdb : FuncData} {Tb : List NdefX.NTab} (F : FunC K "form_of" "form_of" sFo f fd co) (T : Bi mg) (U : Hs K mg C) (TB : LamX.TabB base mg co tb) (hm : (tb, nmFo) ∈ Tb) (hu : ∀ p ∈ Tb, p.1 = tb → p.2 = nmFo) (FB : Fd K mg "build_form" ["house", "word_in", "tops_in"] sBf fb fdb cob) (TBb : LamX.TabB base mg cob tbb) (hmb : (tbb, nmBf) ∈ Tb) (hub : ∀ p ∈ Tb, p.1 = tbb → p.2 = nmBf)
    (d_last_calls : Df P w K mg base "last_calls" ["log"] 1 spLast fL fdL) (d_word_of : Df P w K mg base "word_of" ["log", "rooms"] 2 (spTopR K optW) fW fdW) (d_called_keepers : Df P w K mg base "called_keepers" ["house", "calls", "part"] 17 (spCke C 12) fK fdK) (d_pieces : Df P w K mg base "pieces" ["house", "rooms"] 4 (spPcs K C) fP fdP) : FnOk P w K mg base CX0 50 f fd ["house", "log"] (spFo C Tb) := by
  refine F.ok scFo (fun vs H Q E h => ?_) (fun A0 outer s H vs Q E hr h => ?_)
  · obtain ⟨p, l, r, D, own, us, L, rfl, _⟩ := h
    rfl
  · obtain ⟨p, l, r, D, own, us, L, rfl, hh, hl, lg, ll, hTb, ret⟩ := h
    have r12 := hh.r12
    refine ⟨_, (pss_cons (ps_set (i := 4) scFo.nd rfl (Or.inr rfl) (pe_call d_last_calls.ok (hr.mono (by decide)) (by rfl) d_last_calls.at_ d_last_calls.kp d_last_calls.b .nil pass0 (pa_cons (pv 1) pa_nil)))
      (pss_cons (NdefX.ps_ndefMS (st := sWi) (T := Tb) (nm := nmFo) (c := co) (P := tb) (i := 2) rfl TB rfl hm (hnWi _) hu (NdefX.ndef_free hfWi) rfl rfl rfl scFo.nd rfl (Or.inl rfl) (Or.inr rfl))
      (pss_cons (NdefX.ps_ndefMS (st := sTi) (T := Tb) (nm := nmFo) (c := co) (P := tb) (i := 3) rfl TB rfl hm (hnTi _) hu (NdefX.ndef_free hfTi) rfl rfl rfl scFo.nd rfl (Or.inl rfl) (Or.inr rfl))
      (pss_one (ps_ret (pe_callU (k := 48) (sp := spBf P w K mg C Tb) (fun b2 sb md => ok_bf (base := b2) FB.fn T U (TabB.up sb TBb) hmb hub (d_pieces.up md sb)) (hr.mono (by decide)) (by rfl) FB.at_ FB.kp FB.b (pa_cons (pv 0) (pa_cons (pv 2) (pa_cons (pv 3) pa_nil))))))))), ?_⟩
    walk_at "rd"
    refine ⟨l, us, L, rfl, hl, lg, ll, fun gs g H1 s1 ng hg lgs => ?_⟩
    have x1 : Xt H H1 := .of s1
    refine ⟨tabs_same hTb s1, fun wa cw H2 e2 n2 t2 wa0 hwa hcw => ?_⟩
    have x2 : Xt H1 H2 := ⟨e2, n2⟩
    walk_at "rd"
    refine ⟨t2, fun ta ct H3 e3 n3 t3 ta0 hta hct => ?_⟩
    have x3 : Xt H2 H3 := ⟨e3, n3⟩
    have x23 := x2.trans x3
    have x13 := x1.trans x23
    obtain ⟨cl1, ecl1⟩ : ∃ cl, cl = cloFrom (cxOf CX0 P w K mg base ["house", "log", "word_in", "tops_in", "calls"] "form_of" (defScope sFo) f (.ref co) A0 outer s H E).nox.env.cells (C8.fnScope sWi).names [] := ⟨_, rfl⟩
    obtain ⟨cl2, ecl2⟩ : ∃ cl, cl = cloFrom (cxOf CX0 P w K mg base ["house", "log", "word_in", "tops_in", "calls"] "form_of" (defScope sFo) f (.ref co) A0 outer s H E).nox.env.cells (C8.fnScope sTi).names [] := ⟨_, rfl⟩
    have kw : FnC H2 wa (nfWi cl1 cw) := ⟨by rw [ecl1]; exact hwa, by rw [ecl1]; exact hcw⟩
    have kt : FnC H3 ta (nfTi cl2 ct) := ⟨by rw [ecl2]; exact hta, by rw [ecl2]; exact hct⟩
    clear hwa hcw hta hct
    walk_at "rd"
    refine ⟨.ref p, rfl, .ref wa, rfl, .ref ta, rfl, fun b2 sb ok ci => ?_⟩
    have md : L2.Mod K mg base := ok.mod
    have CB : CellsB b2 cl1 ["calls"] [.ref g] := by
      rw [ecl1]
      exact cellsB_of (js := [4]) ok ci scWi.ndn scWi.free scWi.frk (fun y hy => ⟨(show ∀ y ∈ (["calls"] : List Str), (defScope sFo).names.lookup y = some .cell by decide +kernel) y hy, rfl⟩) rfl rfl
    have CB2 : CellsB b2 cl2 ["calls", "house"] [.ref g, .ref p] := by
      rw [ecl2]
      exact cellsB_of (js := [4, 0]) ok ci scTi.ndn scTi.free scTi.frk (fun y hy => ⟨(show ∀ y ∈ (["calls", "house"] : List Str), (defScope sFo).names.lookup y = some .cell by decide +kernel) y hy, rfl⟩) rfl rfl
    have iv : FoIv H1 C p g r D own gs (lastF L) := ⟨hh.same s1, hg, lgs⟩
    refine ⟨p, wa, ta, r, D, own, fun H => FoIv H C p g r D own gs (lastF L), wordP (lastF L), fun R => upF (keepL D (lastF L) 12 R), nfWi cl1 cw, nfTi cl2 ct, rfl, hh.xt x13, iv.xt x23, fun _ _ a b => a.xt b, kw.xt x3, kt, clb_wi (d_word_of.up md sb) CB, clb_ti T r12 (d_called_keepers.up md sb) CB2, fun R z hR hw => ?_, t3, fun v H4 x4 tt4 fm => ?_⟩
    · have Rl := hR.len
      refine ⟨Nat.le_trans (upF_len _) (Nat.le_trans (keepL_len 12 R) (by omega)), ?_⟩
      obtain ⟨x, xP, xk⟩ := keepL_ne (D := D) (n := 11) hw
      exact ⟨x, xP, (upF_mem _ _).mpr xk⟩
    · refine ret v H4 (x13.trans x4) tt4 ?_
      rw [frmF_blk] at fm
      have e : formF D r (lastF L) = formF D r L := form_alk r12 (lastF_alk D _ L)
      unfold formF at e ⊢
      rw [← e]
      exact fm
end

/-! ### plain_log -/
abbrev sPlg : Stmt := topS 36
section
variable {P : Program} {w : World} {K : PySem.W.Frag} {mg : Str → Option Value} {base : Heap}
theorem scPlg : FnScope ["form", "calls", "word", "tops", "inner", "room"] ["form"] (defScope sPlg) := ⟨rfl, rfl, rfl, by decide +kernel, rfl, by decide +kernel, by decide +kernel⟩
def spPlg (n : Nat) : Sp := fun vs H Q _ => ∃ (v : V) (bs : List Blk), vs = [v] ∧ FormAt H n v bs ∧ (plainF n bs).length ≤ 1000 ∧ ∀ ws t H', Same H H' → H t = none → H' t = some (.lst ws) → LG H' ws (plainF n bs) → Q (.ref t) H'
theorem ok_plg {f : Addr} {fd : FuncData} (F : Fun K "plain_log" "plain_log" sPlg f fd) (T : Bi mg) (bd : Binds K fd ["form"] []) (hmg : mg "plain_log" = some (.ref f)) : ∀ n, FnOk P w K mg base CX0 (n + 2) f fd ["form"] (spPlg n) := by
  intro n
  induction n with
  | zero =>
    refine F.ok scPlg (fun vs H Q E h => ?_) (fun cdv A0 outer s H vs Q E hr h => ?_)
    · obtain ⟨v, bs, rfl, _⟩ := h
      rfl
    · obtain ⟨v, bs, rfl, ⟨a, xs, rfl, ha, hx, hb⟩, _, ret⟩ := h
      subst hx
      subst hb
      refine ⟨_, (pss_cons (ps_set (i := 1) scPlg.nd rfl (Or.inl rfl) (pe_lst pa_nil))
      (pss_cons (ps_for PassesOwn.never rfl (pi_tup (pv 0)) (pg_tup rfl (pgs_cons (pg_name (i := 2) scPlg.nd rfl (Or.inr rfl)) (pgs_cons (pg_name (i := 3) scPlg.nd rfl (Or.inl rfl)) (pgs_cons (pg_name (i := 4) scPlg.nd rfl (Or.inl rfl)) pgs_nil))))
      (pss_one (ps_never)))
      (pss_one (ps_ret (pv 1))))), ?_⟩
      walk_at "rd"
      refine ⟨Nat.zero_le _, fun cn ncn => ?_⟩
      have s1 := same_upd (o := HO.lst []) ncn
      have hcn := upd_same (H := H) (a := cn) (o := HO.lst [])
      generalize upd H cn (HO.lst []) = H1 at s1 hcn ⊢
      refine for_iterW ?_
      unfold iTup
      walk_at "rd"
      refine ⟨⟨_, SqT.of (s1 _ _ ha)⟩, for_tup (K := K) (a := a) (xs := []) (fun _ σ Hx => σ = [some (.ref a), some (.ref cn), none, none, none, none] ∧ Hx = H1) ⟨rfl, rfl⟩ (fun i σ Hx _ pv => by rw [pv.2]; exact SqT.of (s1 _ _ ha)) (fun i v σ Hx gv pv => by cases gv) (fun σ Hx pv => ?_)⟩
      obtain ⟨rfl, rfl⟩ := pv
      walk_at "rd"
      exact ret [] cn Hx s1 ncn hcn .nil
  | succ n ih =>
    refine F.ok scPlg (fun vs H Q E h => ?_) (fun cdv A0 outer s H vs Q E hr h => ?_)
    · obtain ⟨v, bs, rfl, _⟩ := h
      rfl
    · obtain ⟨v, bs, rfl, ⟨a, xs, rfl, ha, xl, pb⟩, pl, ret⟩ := h
      refine ⟨_, (pss_cons (ps_set (i := 1) scPlg.nd rfl (Or.inl rfl) (pe_lst pa_nil))
      (pss_cons (ps_for PassesOwn.never rfl (pi_tup (pv 0)) (pg_tup rfl (pgs_cons (pg_name (i := 2) scPlg.nd rfl (Or.inr rfl)) (pgs_cons (pg_name (i := 3) scPlg.nd rfl (Or.inl rfl)) (pgs_cons (pg_name (i := 4) scPlg.nd rfl (Or.inl rfl)) pgs_nil))))
      (pss_one (ps_if (pt_cmpR op_notN (pv 2) pe_non (nomark _))
        (pss_cons (ps_expr (pe_bm PySem.F.plainAttrs_list PySem.F.slot_list_extend PySem.F.type_list_extend mt_extend (pv 1) (pa_cons (pe_call ih hr (by rfl) hmg F.kp bd .nil pass0 (pa_cons (pv 4) pa_nil)) pa_nil)))
          (pss_one (ps_expr (pe_bm PySem.F.plainAttrs_list PySem.F.slot_list_extend PySem.F.type_list_extend mt_extend (pv 1) (pa_cons (pe_lc (own := [("room", 5)]) (te := (tTup (tCons (tVar 5) (tCons (tVar 2) tNil)))) (by rfl) scPlg.nd (pi_tup (pv 3)) (blkOk_by (N := ["form", "calls", "word", "tops", "inner", "room"]) (sc := defScope sPlg) (by decide +kernel)) (fun _ _ _ _ _ => pg_name (i := 5) scPlg.nd rfl (Or.inl rfl)) (fun _ _ _ _ _ => pts_nil) (fun _ _ _ _ _ => (pe_tup (pa_cons (pv 5) (pa_cons (pv 2) pa_nil))))) pa_nil)))))
        pss_nil)))
      (pss_one (ps_ret (pv 1))))), ?_⟩
      walk_at "rd"
      refine ⟨Nat.zero_le _, fun cn ncn => ?_⟩
      have s1 := same_upd (o := HO.lst []) ncn
      have hcn := upd_same (H := H) (a := cn) (o := HO.lst [])
      generalize upd H cn (HO.lst []) = H1 at s1 hcn ⊢
      have ha1 := s1 _ _ ha
      have bl1 : BL H1 n xs bs := BL.kt pb (KT.same s1)
      refine for_iterW ?_
      unfold iTup
      walk_at "rd"
      obtain ⟨Pv, hPv⟩ : ∃ Pv : Nat → L2.St → Hp → Prop, Pv = (fun i σ Hx => ∃ (ws : List V) (v2 v3 v4 : Option V), σ = [some (.ref a), some (.ref cn), v2, v3, v4, none] ∧ Same H Hx ∧ Hx cn = some (.lst ws) ∧ LG Hx ws ((bs.take i).flatMap (plainB n)) ∧ Hx a = some (.tup xs) ∧ BL Hx n xs bs) := ⟨_, rfl⟩
      refine ⟨⟨_, SqT.of ha1⟩, for_tup (K := K) (a := a) (xs := xs) Pv (by rw [hPv]; exact ⟨[], none, none, none, rfl, s1, hcn, .nil, ha1, bl1⟩) (fun i σ Hx _ pv => by rw [hPv] at pv; obtain ⟨_, _, _, _, _, _, _, _, h, _⟩ := pv; exact SqT.of h) (fun i v σ Hx gv pv => ?_) (fun σ Hx pv => ?_)⟩
      rotate_left
      · rw [hPv] at pv
        obtain ⟨ws, v2, v3, v4, rfl, sx, hc, lg, _, _⟩ := pv
        rw [Paired.length pb, List.take_length] at lg
        walk_at "rd"
        exact ret ws cn Hx sx ncn hc lg
      rw [hPv] at pv
      obtain ⟨ws, v2, v3, v4, rfl, sx, hc, lg, hax, blx⟩ := pv
      obtain ⟨b, gb, bv⟩ := lget blx gv
      obtain ⟨tb, tt, ti, us, rfl, h1, h2, h3, h4, h5⟩ := bv.ex
      have tk : bs.take (i + 1) = bs.take i ++ [b] := by rw [List.take_add_one, gb]; rfl
      have tot : ((bs.take (i + 1)).flatMap (plainB n)).length ≤ 1000 := by
        have e : (plainF (n + 1) bs).length = ((bs.take (i + 1)).flatMap (plainB n)).length + ((bs.drop (i + 1)).flatMap (plainB n)).length := by
          rw [plainF_succ, ← List.length_append, ← List.flatMap_append, List.take_append_drop]
        omega
      rw [tk, List.flatMap_append, List.flatMap_cons, List.flatMap_nil, List.append_nil, List.length_append] at tot
      walk_at "rg"
      refine ⟨_, SqT.of h1, rfl, _, _, rfl, _, _, rfl, _, _, rfl, rfl, ?_⟩
      walk_at "rd"
      have wl := lg.len
      cases hw : b.w with
      | none =>
        have eB : plainB n b = [] := by unfold plainB; rw [hw]
        refine (show (if (!decide (optS none = V.non)) = true then _ else _) from ?_)
        rw [if_neg (show ¬ (!decide (optS none = V.non)) = true by rw [decide_eq_true (show optS none = V.non from rfl)]; decide)]
        rw [hPv]
        refine ⟨ws, _, _, _, rfl, sx, hc, ?_, hax, blx⟩
        rw [tk, List.flatMap_append, List.flatMap_cons, List.flatMap_nil, List.append_nil, eB, List.append_nil]
        exact lg
      | some z =>
        have eB : plainB n b = plainF n b.i ++ b.t.map fun x => (x, z) := by unfold plainB; rw [hw]
        rw [eB, List.length_append] at tot
        refine (show (if (!decide (optS (some z) = V.non)) = true then _ else _) from ?_)
        rw [if_pos (show (!decide (optS (some z) = V.non)) = true by rw [decide_eq_false (show ¬ optS (some z) = V.non from fun q => by cases q)]; rfl)]
        refine ⟨.inl ⟨rfl, _, SqL.of hc⟩, _, b.i, rfl, ⟨ti, us, rfl, h4, h5⟩, by omega, fun w2 t2 H2 s2 nt2 ht2 lg2 => ?_⟩
        have hc2 := s2 _ _ hc
        have wl2 := lg2.len
        walk_at "rd"
        refine ⟨_, hc2, _, ht2, Nat.le_of_lt (len_big (by omega)), ?_⟩
        have kt : KT H2 (upd H2 cn (HO.lst (ws ++ w2))) := KT.lst hc2
        have sc := same_ch (o := HO.lst (ws ++ w2)) (sx.trans s2) ncn
        have hc3 := upd_same (H := H2) (a := cn) (o := HO.lst (ws ++ w2))
        have lg3 : LG (upd H2 cn (HO.lst (ws ++ w2))) (ws ++ w2) ((bs.take i).flatMap (plainB n) ++ plainF n b.i) := paired_append ((lg.kt (KT.same s2)).kt kt) (lg2.kt kt)
        have hax3 := kt _ _ (s2 _ _ hax)
        have blx3 := (blx.kt (KT.same s2)).kt kt
        have htt3 := kt _ _ (s2 _ _ h2)
        generalize upd H2 cn (HO.lst (ws ++ w2)) = H3 at sc hc3 lg3 hax3 blx3 htt3 ⊢
        clear kt
        refine ⟨.inl ⟨rfl, _, SqL.of hc3⟩, ?_⟩
        walk_at "rd"
        refine lcW ?_
        walk_at "rd"
        refine ⟨⟨_, SqT.of htt3⟩, ?_⟩
        refine gc_tup (fun H v c => IsC H v c) (fun _ _ _ _ h k => h.kt k) (fun j => b.t[j]?.bind fun x => some (x, z)) htt3 (by rw [List.length_map]; omega) (fun j x Hx A B gx sy hA _ => ?_) (fun o ys H4 s4 no ho pr => ?_)
        · rw [List.getElem?_map] at gx
          cases e : b.t[j]? with
          | none => rw [e] at gx; cases gx
          | some y =>
            rw [e] at gx hA
            have ex := Option.some.inj gx
            subst ex
            refine (show (if true = true then tTup (tCons (tVar 5) (tCons (tVar 2) tNil)) _ Hx A else B Hx) from ?_)
            rw [if_pos rfl]
            refine ⟨.int y, rfl, .str z, rfl, (by show 2 ≤ sizeLine; decide), fun tp ntp => ?_⟩
            exact hA _ (y, z) _ rfl (same_upd ntp) ⟨tp, rfl, upd_same⟩
        · rw [List.length_map, fm_range (L := b.t) (fun x => some (x, z)), List.filterMap_eq_map'] at pr
          have hc4 := s4 _ _ hc3
          have yl := Paired.length pr
          walk_at "rd"
          refine ⟨_, hc4, _, ho, Nat.le_of_lt (len_big (by rw [lg3.len, yl, List.length_append]; omega)), ?_⟩
          have kt : KT H4 (upd H4 cn (HO.lst (ws ++ w2 ++ ys))) := KT.lst hc4
          rw [hPv]
          refine ⟨ws ++ w2 ++ ys, _, _, _, rfl, same_ch (sc.trans s4) ncn, upd_same, ?_, kt _ _ (s4 _ _ hax3), (blx3.kt (KT.same s4)).kt kt⟩
          rw [tk, List.flatMap_append, List.flatMap_cons, List.flatMap_nil, List.append_nil, eB, ← List.append_assoc]
          exact paired_append ((lg3.kt (KT.same s4)).kt kt) (Paired.mapP pr fun v c h => h.kt kt)
end

/-! ### overlay: a def with a star parameter -/
abbrev sOv : Stmt := topS 38
section
variable {X : Cx} {CX : CXT} {k : Nat} {f : Addr} {sp : Sp} {E : XK} {x : Str} {p pos : Pos} {e : Expr} {es : List Expr} {t : TA}
/-- f(e, ..), f a def of the text that takes any number of arguments -/
theorem pe_callR (F : L2.FnR X.prog X.w X.K X.mg X.base CX k f sp) (hr : Room k X.A) (hg : Gl X x) (hm : X.mg x = some (.ref f)) (hk : PySem.W.keepIn X.K (.ref f) = true) (hx : Passes CX X E) (ha : PA X (e :: es) t) (hd : (x == ("__debug__" : Str)) = false := by decide)
    (he : starEach (e :: es) X.env = (false, eval e X.env) :: starEach es X.env := by rfl) (hpl : (backTo pos (starEach es X.env)).any (·.1) = false := by rfl) : PE X (.Call (.Name x p) (e :: es) [] pos) (fun σ H Q => t σ H fun vs H1 => sp vs H1 Q E) := by
  refine ⟨fun pins s σ H Q I h => ?_⟩
  refine wpAny_Call_Name_kw (ld_glob I hg hm ?_ hd)
  refine PySem.W.callWith_K (h₀ := X.base) I.ok.mod.kin hk (thn (ha.run pos pins s σ H _ I h) fun us s1 q => ?_) he hpl
  obtain ⟨vs, H1, I1, r, q⟩ := q
  exact ⟨I1.kIn, wpAny_call (L2.run_fnR F hr hx I1 r q)⟩
end
section
variable {P : Program} {w : World} {K : PySem.W.Frag} {mg : Str → Option Value} {base : Heap}
theorem scOv : FnScope ["house", "forms", "log", "form"] ["house", "forms"] (defScope sOv) := ⟨rfl, rfl, rfl, by decide +kernel, rfl, by decide +kernel, by decide +kernel⟩
/-- its promise, the forms in a tuple -/
def spOv0 (C : Addr) (Tb : List NdefX.NTab) : Sp := fun vs H Q _ => ∃ (p o : Addr) (r : Nat) (D : List Pr) (own : List Addr) (xs : List V) (bss : List (List Blk)), vs = [.ref p, .ref o] ∧ HouseAt C H p r D own ∧ H o = some (.tup xs) ∧ Paired (FormAt H 12) xs bss ∧ (bss.flatMap (plainF 12)).length ≤ 1000 ∧ NdefX.TabsN Tb H ∧
  ∀ v H', Xt H H' → NdefX.TabsN Tb H' → FormAt H' 12 v (formF D r (bss.flatMap (plainF 12))) → Q v H'
def spOv (C : Addr) (Tb : List NdefX.NTab) : Sp := fun vs H Q _ => ∃ (p : Addr) (r : Nat) (D : List Pr) (own : List Addr) (xs : List V) (bss : List (List Blk)), vs = .ref p :: xs ∧ HouseAt C H p r D own ∧ Paired (FormAt H 12) xs bss ∧ xs.length ≤ 100 ∧ (bss.flatMap (plainF 12)).length ≤ 1000 ∧ NdefX.TabsN Tb H ∧
  ∀ v H', Xt H H' → NdefX.TabsN Tb H' → FormAt H' 12 v (formF D r (bss.flatMap (plainF 12))) → Q v H'
theorem ok_ov {f C f1 f2 : Addr} {fd fd1 fd2 : FuncData} {Tb : List NdefX.NTab} (F : Fun K "overlay" "overlay" sOv f fd) (T : Bi mg) (d_plain_log : Df P w K mg base "plain_log" ["form"] 14 (spPlg 12) f1 fd1) (d_form_of : Df P w K mg base "form_of" ["house", "log"] 50 (spFo C Tb) f2 fd2) : L2.FnR P w K mg base CX0 51 f (spOv C Tb) := by
  obtain ⟨oc, od, kV, doc, pm, an, cdv, ct, osl, rfl, lk, hcd⟩ := F.ex
  refine L2.FnR.imp (StX.fn_star (k := 50) (sp := spOv0 C Tb) (ps := ["house"]) (pv := "forms") (N := ["house", "forms", "log", "form"]) lk hcd scOv StX.cxUp_none (StX.bind_star1 (B := fun vs => bindArgs (PySem.W.fnOf "overlay" "overlay" (defArgs sOv) (defBody sOv) (defScope sOv) .none kV doc pm an cdv ct) ⟨vs, []⟩) (p1 := "house") (pv := "forms") (fun _ => rfl) fun _ _ _ => rfl) fun A0 outer s H vs Q E hr h => ?_) fun vs H Q E h => ?_
  · obtain ⟨p, o, r, D, own, xs, bss, rfl, hh, ho, pf, len, hTb, ret⟩ := h
    suffices z : ∃ t, PSs (cxOf CX0 P w K mg base ["house", "forms", "log", "form"] "overlay" (defScope sOv) f cdv A0 outer s H E).nox (defBody sOv) t ∧ t { nx := fun _ H' => Q .non H', rt := Q } (L2.start ["house", "forms", "log", "form"] [.ref p, .ref o]) H from z.elim fun t q => ⟨t, q.1.nox, q.2⟩
    refine ⟨_, (pss_cons (ps_set (i := 2) scOv.nd rfl (Or.inl rfl) (pe_lst pa_nil))
      (pss_cons (ps_for PassesOwn.never rfl (pi_tup (pv 1)) (pg_name (i := 3) scOv.nd rfl (Or.inl rfl))
      (pss_one (ps_expr (pe_bm PySem.F.plainAttrs_list PySem.F.slot_list_extend PySem.F.type_list_extend mt_extend (pv 2) (pa_cons (pe_call d_plain_log.ok (hr.mono (by decide)) (by rfl) d_plain_log.at_ d_plain_log.kp d_plain_log.b .nil pass0 (pa_cons (pv 3) pa_nil)) pa_nil)))))
      (pss_one (ps_ret (pe_call d_form_of.ok (hr.mono (by decide)) (by rfl) d_form_of.at_ d_form_of.kp d_form_of.b .nil pass0 (pa_cons (pv 0) (pa_cons (pv 2) pa_nil))))))), ?_⟩
    walk_at "rd"
    refine ⟨Nat.zero_le _, fun cn ncn => ?_⟩
    have s1 := same_upd (o := HO.lst []) ncn
    have hcn := upd_same (H := H) (a := cn) (o := HO.lst [])
    generalize upd H cn (HO.lst []) = H1 at s1 hcn ⊢
    have ho1 := s1 _ _ ho
    have pf1 : Paired (FormAt H1 12) xs bss := Paired.mapP pf fun v b h => h.kt (KT.same s1)
    refine for_iterW ?_
    unfold iTup
    walk_at "rd"
    obtain ⟨Pv, hPv⟩ : ∃ Pv : Nat → L2.St → Hp → Prop, Pv = (fun i σ Hx => ∃ (ws : List V) (v3 : Option V), σ = [some (.ref p), some (.ref o), some (.ref cn), v3] ∧ Same H Hx ∧ Hx cn = some (.lst ws) ∧ LG Hx ws ((bss.take i).flatMap (plainF 12)) ∧ Hx o = some (.tup xs) ∧ Paired (FormAt Hx 12) xs bss) := ⟨_, rfl⟩
    refine ⟨⟨_, SqT.of ho1⟩, for_tup (K := K) (a := o) (xs := xs) Pv (by rw [hPv]; exact ⟨[], none, rfl, s1, hcn, .nil, ho1, pf1⟩) (fun i σ Hx _ pv => by rw [hPv] at pv; obtain ⟨_, _, _, _, _, _, h, _⟩ := pv; exact SqT.of h) (fun i v σ Hx gv pv => ?_) (fun σ Hx pv => ?_)⟩
    rotate_left
    · rw [hPv] at pv
      obtain ⟨ws, v3, rfl, sx, hc, lg, _, _⟩ := pv
      rw [Paired.length pf, List.take_length] at lg
      walk_at "rd"
      exact ⟨p, cn, r, D, own, ws, _, rfl, hh.same sx, hc, lg, len, tabs_same hTb sx, fun v H' x tt fm => ret v H' ((Xt.of sx).trans x) tt fm⟩
    rw [hPv] at pv
    obtain ⟨ws, v3, rfl, sx, hc, lg, hox, pfx⟩ := pv
    obtain ⟨b, gb, fb⟩ := lget pfx gv
    have tk : bss.take (i + 1) = bss.take i ++ [b] := by rw [List.take_add_one, gb]; rfl
    have tot : ((bss.take (i + 1)).flatMap (plainF 12)).length ≤ 1000 := by
      have e : (bss.flatMap (plainF 12)).length = ((bss.take (i + 1)).flatMap (plainF 12)).length + ((bss.drop (i + 1)).flatMap (plainF 12)).length := by
        rw [← List.length_append, ← List.flatMap_append, List.take_append_drop]
      omega
    rw [tk, List.flatMap_append, List.flatMap_cons, List.flatMap_nil, List.append_nil, List.length_append] at tot
    have wl := lg.len
    walk_at "rd"
    refine ⟨.inl ⟨rfl, _, SqL.of hc⟩, v, b, rfl, fb, by omega, fun w2 t2 H2 s2 nt2 ht2 lg2 => ?_⟩
    have hc2 := s2 _ _ hc
    have wl2 := lg2.len
    walk_at "rd"
    refine ⟨_, hc2, _, ht2, Nat.le_of_lt (len_big (by omega)), ?_⟩
    have kt : KT H2 (upd H2 cn (HO.lst (ws ++ w2))) := KT.lst hc2
    rw [hPv]
    refine ⟨ws ++ w2, _, rfl, same_ch (sx.trans s2) ncn, upd_same, ?_, kt _ _ (s2 _ _ hox), Paired.mapP pfx fun v b h => (h.kt (KT.same s2)).kt kt⟩
    rw [tk, List.flatMap_append, List.flatMap_cons, List.flatMap_nil, List.append_nil]
    exact paired_append ((lg.kt (KT.same s2)).kt kt) (lg2.kt kt)
  · obtain ⟨p, r, D, own, xs, bss, rfl, hh, pf, xl, len, hTb, ret⟩ := h
    refine ⟨[.ref p], xs, rfl, rfl, Nat.le_of_lt (len_big (by omega)), fun o no => ?_⟩
    have s1 := same_upd (o := HO.tup xs) no
    exact ⟨p, o, r, D, own, xs, bss, rfl, hh.same s1, upd_same, Paired.mapP pf fun v b h => h.kt (KT.same s1), len, tabs_same hTb s1, fun v H' x t fm => ret v H' ((Xt.of s1).trans x) t fm⟩
end

/-! ### the length of a plain log; overlaid forms -/
theorem sum_flat {α β γ : Type} {f : α → List β} {g : α → List γ} : ∀ l : List α, (∀ a ∈ l, (f a).length ≤ (g a).length) → (l.flatMap f).length ≤ (l.flatMap g).length
  | [], _ => Nat.le_refl _
  | a :: l, h => by
    rw [List.flatMap_cons, List.flatMap_cons, List.length_append, List.length_append]
    exact Nat.add_le_add (h a List.mem_cons_self) (sum_flat l fun b hb => h b (List.mem_cons_of_mem _ hb))
theorem Sm.up1 {H : Hp} : ∀ {n : Nat} {x y : V}, Sm H n x y → Sm H (n + 1) x y
  | 0, x, y, h => .inl h
  | n + 1, x, y, h => by
    rcases h with h | ⟨a, b, xs, ys, e1, e2, h1, h2, h3⟩
    · exact .inl h
    · exact .inr ⟨a, b, xs, ys, e1, e2, h1, Paired.mapP h2 fun _ _ q => Sm.up1 q, h3⟩
theorem sm_up {H : Hp} {m : Nat} {x y : V} (h : Sm H m x y) : ∀ {n : Nat}, m ≤ n → Sm H n x y
  | 0, l => by rw [Nat.le_zero.mp l] at h; exact h
  | n + 1, l => by
    by_cases e : m = n + 1
    · rw [← e]
      exact h
    · exact Sm.up1 (sm_up h (Nat.lt_succ_iff.mp (Nat.lt_of_le_of_ne l e)))
theorem keep_split (P K : List Int) (nd : P.Nodup) (sub : ∀ x ∈ K, x ∈ P) : (P.filter fun x => decide (x ∉ K)).length + (upF K).length ≤ P.length := by
  have h1 : (upF K).length ≤ (P.filter fun x => decide (x ∈ K)).length := int_sub_len2 (up_nd (upF_up K)) fun x hx => List.mem_filter.mpr ⟨sub x ((upF_mem K x).mp hx), decide_eq_true ((upF_mem K x).mp hx)⟩
  have h2 : ∀ l : List Int, (l.filter fun x => decide (x ∉ K)).length + (l.filter fun x => decide (x ∈ K)).length = l.length := fun l => by
    induction l with
    | nil => rfl
    | cons a l ih =>
      by_cases c : a ∈ K
      · rw [List.filter_cons_of_neg (by simpa using c), List.filter_cons_of_pos (by simpa using c), List.length_cons, List.length_cons]
        omega
      · rw [List.filter_cons_of_pos (by simpa using c), List.filter_cons_of_neg (by simpa using c), List.length_cons, List.length_cons]
        omega
  have := h2 P
  omega
theorem plain_len {D : List Pr} {L : List Cl} : ∀ (n m : Nat) (R : List Int), (plainF n (blkF D L m R)).length ≤ R.length
  | 0, _, _ => Nat.zero_le _
  | n + 1, 0, R => Nat.zero_le _
  | n + 1, m + 1, R => by
    have hs := pcsF_spec D R
    rw [plainF_succ, blkF_succ, List.flatMap_map]
    have h1 : ((pcsF D R).flatMap fun P => plainB n (blkP D L m P)).length ≤ ((pcsF D R).flatMap fun P => P).length := sum_flat (f := fun P => plainB n (blkP D L m P)) (g := fun P => P) _ fun P hP => by
      show (plainB n (blkP D L m P)).length ≤ P.length
      unfold plainB blkP
      cases e : wordP L P with
      | none => exact Nat.zero_le _
      | some w =>
        show (plainF n (blkF D L m (P.filter fun x => decide (x ∉ keepL D L 12 P))) ++ (upF (keepL D L 12 P)).map fun x => (x, w)).length ≤ _
        rw [List.length_append, List.length_map]
        have := keep_split P (keepL D L 12 P) (up_nd (hs.part hP).1) (keepL_sub 12 P)
        have := plain_len (D := D) (L := L) n m (P.filter fun x => decide (x ∉ keepL D L 12 P))
        omega
    refine Nat.le_trans h1 (int_sub_len2 ?_ fun x hx => ?_)
    · refine List.pairwise_flatMap.mpr ⟨fun P hP => up_nd (hs.part hP).1, List.Pairwise.imp_of_mem (fun {a b} ma mb h x hx y hy e => ?_) hs.asc⟩
      subst e
      have := hs.apart ma mb hx hy
      rw [this] at h
      omega
    · obtain ⟨P, hP, hx⟩ := List.mem_flatMap.mp hx
      exact hs.sub_of hP x hx
theorem plain_form_len {D : List Pr} {r : Nat} {L : List Cl} : (plainF 12 (formF D r L)).length ≤ r := by
  have := plain_len (D := D) (L := L) 12 12 (rg r)
  rw [rg_len] at this
  exact this
theorem ov_len {D : List Pr} {r : Nat} : ∀ Ls : List (List Cl), ((Ls.map (formF D r)).flatMap (plainF 12)).length ≤ Ls.length * r
  | [] => Nat.zero_le _
  | L :: Ls => by
    rw [List.map_cons, List.flatMap_cons, List.length_append, List.length_cons, Nat.succ_mul]
    have := ov_len (D := D) (r := r) Ls
    have := plain_form_len (D := D) (r := r) (L := L)
    omega
theorem ov_alk {D : List Pr} {r : Nat} (hr : r ≤ 12) : ∀ Ls : List (List Cl), AlkP D (rg r) ((Ls.map (formF D r)).flatMap (plainF 12)) (Ls.flatMap id)
  | [] => alk_refl _ _ _
  | L :: Ls => by
    rw [List.map_cons, List.flatMap_cons, List.flatMap_cons]
    exact alk_app (form_plain hr) (ov_alk hr Ls)
theorem ov_form {D : List Pr} {r : Nat} (hr : r ≤ 12) (Ls : List (List Cl)) : formF D r ((Ls.map (formF D r)).flatMap (plainF 12)) = formF D r (Ls.flatMap id) := form_alk hr (ov_alk hr Ls)
/-- a def of the text that takes any number of arguments -/
structure DfR (P : Program) (w : World) (K : PySem.W.Frag) (mg : Str → Option Value) (base : Heap) (x : Str) (k : Nat) (sp : Sp) (f : Addr) : Prop where
  at_ : mg x = some (.ref f)
  kp : PySem.W.keepIn K (.ref f) = true
  ok : L2.FnR P w K mg base CX0 k f sp
/-- forms that overlay is handed -/
theorem use_ov {C p : Addr} {Tb : List NdefX.NTab} {r : Nat} {D : List Pr} {own : List Addr} {H : Hp} {Q : VK} {E : XK} {xs : List V} {Ls : List (List Cl)} (hh : HouseAt C H p r D own) (pf : Paired (FormAt H 12) xs (Ls.map (formF D r))) (len : Ls.length ≤ 60) (hTb : NdefX.TabsN Tb H)
    (q : ∀ v H', Xt H H' → NdefX.TabsN Tb H' → FormAt H' 12 v (formF D r (Ls.flatMap id)) → Q v H') : spOv C Tb (.ref p :: xs) H Q E := by
  have r12 := hh.r12
  refine ⟨p, r, D, own, xs, _, rfl, hh, pf, by rw [Paired.length pf, List.length_map]; omega, Nat.le_trans (ov_len Ls) (Nat.le_trans (Nat.mul_le_mul len r12) (by decide)), hTb, fun v H' x t fm => ?_⟩
  rw [ov_form r12] at fm
  exact q v H' x t fm
theorem rg_bd {r : Nat} : ∀ x ∈ rg r, 0 ≤ x ∧ x < (r : Int) := fun y hy => by
  unfold rg at hy
  obtain ⟨k, hk, rfl⟩ := List.mem_map.mp hy
  have h9 := List.mem_range.mp hk
  exact ⟨Int.natCast_nonneg k, Int.ofNat_lt.mpr h9⟩

/-! ### a law's end with tables of code objects -/
section
variable {P : Program} {w : World} {K : PySem.W.Frag} {mg : Str → Option Value} {base : Heap} {k : Nat} {f : Addr} {fd : FuncData} {ps : List Str} {sp : Sp}
/-- the promise, asked where the tables are empty -/
def spUn : List Addr → Sp → Sp
  | [], sp => sp
  | a :: as, sp => fun vs H Q E => H a = some (.tbl #[]) ∧ spUn as sp vs (upd H a (TbO a)) (fun v H' => H' a = some (TbO a) ∧ ∀ tb' : Array Value, Q v (upd H' a (.tbl tb'))) E
theorem FnOk.untbs (F : FnOk P w K mg base CX0 k f fd ps sp) : ∀ as : List Addr, FnOk P w K mg base CX0 k f fd ps (spUn as sp)
  | [] => F
  | a :: as => FnOk.untb a (FnOk.untbs F as)
/-- a law's promise, its tables told as tables -/
def spLawT (K : PySem.W.Frag) (as : List Addr) : Sp := fun vs H Q _ => ∃ (a : Addr) (ns : List Int), vs = [.ref a] ∧ SqL K H a (ns.map V.int) ∧ ns.length ≤ 63 ∧ (∀ t ∈ as, H t = some (TbO t)) ∧ ∀ H', Same H H' → Q (.bl true) H'
theorem sqL_updT {H : Hp} {a t : Addr} {xs : List V} {o : HO} {tb : Array Value} (h : SqL K H a xs) (ht : H t = some (.tbl tb)) : SqL K (upd H t o) a xs := by
  rcases h with (h | ⟨ob, h⟩) | h
  · refine .inl (.inl ?_)
    rw [upd_ne fun z => by rw [z, ht] at h; cases h]
    exact h
  · refine .inl (.inr ⟨ob, ?_⟩)
    rw [upd_ne fun z => by rw [z, ht] at h; cases h]
    exact h
  · exact .inr h
theorem spUn_law {all : List Addr} {l : Addr} {ns : List Int} (l63 : ns.length ≤ 63) {E : XK} : ∀ (as done : List Addr) (H : Hp) (Q : VK), (∀ t ∈ all, t ∈ as ∨ t ∈ done) → (∀ t ∈ as, H t = some (.tbl #[])) → as.Nodup → (∀ t ∈ as, t ∉ done) → (∀ t ∈ done, H t = some (TbO t)) → SqL K H l (ns.map V.int) →
    (∀ H' : Hp, (∀ t ∈ done, H' t = some (TbO t)) → Q (.bl true) H') → spUn as (spLawT K all) [.ref l] H Q E
  | [], done, H, Q, hall, _, _, _, hd, hS, q => ⟨l, ns, rfl, hS, l63, fun t ht => hd t ((hall t ht).resolve_left (by intro z; cases z)), fun H' s => q H' fun t ht => s _ _ (hd t ht)⟩
  | a :: as, done, H, Q, hall, hT, nd, nn, hd, hS, q => by
    have ha := hT a List.mem_cons_self
    obtain ⟨n1, n2⟩ := List.nodup_cons.mp nd
    have nad : a ∉ done := nn a List.mem_cons_self
    refine ⟨ha, spUn_law l63 as (a :: done) _ _ (fun t ht => ?_) (fun t ht => ?_) n2 (fun t ht => ?_) (fun t ht => ?_) (sqL_updT hS ha) fun H' h' => ⟨h' a List.mem_cons_self, fun tb' => q _ fun t ht => ?_⟩⟩
    · rcases hall t ht with z | z
      · rcases List.mem_cons.mp z with rfl | z
        · exact .inr List.mem_cons_self
        · exact .inl z
      · exact .inr (List.mem_cons_of_mem _ z)
    · rw [upd_ne fun z => n1 (by rw [← z]; exact ht)]
      exact hT t (List.mem_cons_of_mem _ ht)
    · intro z
      rcases List.mem_cons.mp z with rfl | z
      · exact n1 ht
      · exact nn t (List.mem_cons_of_mem _ ht) z
    · rcases List.mem_cons.mp ht with rfl | ht
      · exact upd_same
      · rw [upd_ne fun z => nad (by rw [← z]; exact ht)]
        exact hd t ht
    · rw [upd_ne fun z => nad (by rw [← z]; exact ht)]
      exact h' t (List.mem_cons_of_mem _ ht)
end
/-- a def's code object and its table, at a law's head -/
structure TabH (q : Program) (K : Params → PySem.W.Frag) (x : Str) (c t : Addr) : Prop where
  rec_ : ∃ d, (recsOf q).find? (fun e => e.name == x) = some d
  tab : ∀ w : World, PySem.W.tabIn (K w.params) x = some (c, t)
  out : ∀ w : World, (K w.params).lookup t = none
theorem TabH.of {q : Program} {K : Params → PySem.W.Frag} {x : Str} {f c t : Addr} {oc oc2 : Value} {od od2 : Option Addr} {sl sl2 : Array (Option Value)} {fd : FuncData} {vs : Array Value} (r : ((recsOf q).find? (fun e => e.name == x)).isSome = true)
    (n : ∀ w : World, PySem.W.nsIn (K w.params) mainGlobals x = some (some (.ref f))) (l : ∀ w : World, (K w.params).lookup f = some ⟨oc, od, .func fd, sl⟩) (e : fd.code = .ref c) (l2 : ∀ w : World, (K w.params).lookup c = some ⟨oc2, od2, .fields vs, sl2⟩) (v : vs[11]? = some (.ref t)) (o : ∀ w : World, (K w.params).lookup t = none) : TabH q K x c t :=
  ⟨Option.isSome_iff_exists.mp r, fun w => by unfold PySem.W.tabIn; rw [n w]; simp only [l w, e, l2 w, v], o⟩
theorem walkT {l : PySem.W.OpenLaw} {k : Nat} {q : Program} {loose : List Str} {XP : (Str → Option Value) → Heap → Prop} {YP : World → Heap → Prop} {d : DefRec} {K : Params → PySem.W.Frag} {cs : List (Addr × Addr)} (hn : l.most = some 63) (hdf : d.params.defaults = []) (hr : Room k callerA)
    (hY : ∀ (w : World) (h : Heap), YP w h → (K w.params).In h) (nd : (cs.map (·.2)).Nodup) (ht : ∀ p ∈ cs, ∃ x, TabH q K x p.1 p.2)
    (F : ∀ (w : World) (mg : Str → Option Value) (fa : Addr) (h : Heap), (K w.params).In h → h.Ns mainGlobals mg → mg d.name = some (.ref fa) →
      ∃ fd : FuncData, (∀ (s : Shared) (u : Value), BindsTo s fd ⟨[u], []⟩ [("script", u)]) ∧ ∀ base : Heap, (K w.params).In base → base.Ns mainGlobals mg → (∀ p ∈ cs, LamX.TabB base mg p.1 p.2) → FnOk l.prog w (K w.params) mg base CX0 k fa fd ["script"] (spLawT (K w.params) (cs.map (·.2)))) :
    PySem.W.WalkO q loose XP YP l.row.toRowW d [] (fun f vs => PySem.call f vs) := by
  refine Att.attach_callB hn hdf fun w s₀ s₁ mg mb fa o pm cd doc a vs ns G Y ho hd hcd hmg hobj hints hlen hbits hg => ?_
  have KX := hY w _ Y
  obtain ⟨fd, hb, hF⟩ := F w mg fa _ KX G.T.g hmg
  have ts : ∀ p ∈ cs, PySem.W.CodeHd s₁.heap p.1 p.2 ∧ s₁.heap.get? p.2 = some { cls := .none, data := .fields #[] } := fun p hp => by
    obtain ⟨x, h⟩ := ht p hp
    obtain ⟨dd, hdd⟩ := h.rec_
    exact PySem.W.tab_of G.T KX hdd (h.tab w)
  refine LamX.law_callTs (cs := cs) KX G.T.g G.T.b G.T.builtins G.T.nolimit hg (fun p hp => (ts p hp).2) (fun p hp => by obtain ⟨x, h⟩ := ht p hp; exact h.out w) (fun p hp => (ts p hp).1) G.T.bmain hobj hints (Nat.le_trans hlen (by decide)) hr
    (fun base h1 h2 h3 => FnOk.untbs (hF base h1 h2 h3) (cs.map (·.2))) hb (fun H hH hS => ?_) fun H e s' z => z
  refine spUn_law hlen (cs.map (·.2)) [] H (fun v _ => v = V.bl true) (fun t h => .inl h) (fun t h => ?_) nd (fun t _ z => by cases z) (fun t z => by cases z) hS fun H' _ => rfl
  obtain ⟨p, hp, rfl⟩ := List.mem_map.mp h
  exact hH p hp

/-! ### a law's end with tables, some told as tables, some as they are -/
section
variable {P : Program} {w : World} {K : PySem.W.Frag} {mg : Str → Option Value} {base : Heap}
def spLawM (K : PySem.W.Frag) (as bs : List Addr) : Sp := fun vs H Q _ => ∃ (a : Addr) (ns : List Int), vs = [.ref a] ∧ SqL K H a (ns.map V.int) ∧ ns.length ≤ 63 ∧ (∀ t ∈ as, H t = some (TbO t)) ∧ (∀ t ∈ bs, H t = some (.tbl #[])) ∧ ∀ H', Xt H H' → Q (.bl true) H'
theorem spUnM_law {all bs : List Addr} {l : Addr} {ns : List Int} (l63 : ns.length ≤ 63) {E : XK} : ∀ (as done : List Addr) (H : Hp) (Q : VK), (∀ t ∈ all, t ∈ as ∨ t ∈ done) → (∀ t ∈ as, H t = some (.tbl #[])) → as.Nodup → (∀ t ∈ as, t ∉ done) → (∀ t ∈ done, H t = some (TbO t)) → (∀ t ∈ bs, H t = some (.tbl #[])) → (∀ t ∈ bs, t ∉ as) →
    SqL K H l (ns.map V.int) → (∀ H' : Hp, (∀ t ∈ done, H' t = some (TbO t)) → Q (.bl true) H') → spUn as (spLawM K all bs) [.ref l] H Q E
  | [], done, H, Q, hall, _, _, _, hd, hb, _, hS, q => ⟨l, ns, rfl, hS, l63, fun t ht => hd t ((hall t ht).resolve_left (by intro z; cases z)), hb, fun H' x => q H' fun t ht => x.tb (hd t ht)⟩
  | a :: as, done, H, Q, hall, hT, nd, nn, hd, hb, nb, hS, q => by
    have ha := hT a List.mem_cons_self
    obtain ⟨n1, n2⟩ := List.nodup_cons.mp nd
    have nad : a ∉ done := nn a List.mem_cons_self
    refine ⟨ha, spUnM_law l63 as (a :: done) _ _ (fun t ht => ?_) (fun t ht => ?_) n2 (fun t ht => ?_) (fun t ht => ?_) (fun t ht => ?_) (fun t ht z => nb t ht (List.mem_cons_of_mem _ z)) (sqL_updT hS ha) fun H' h' => ⟨h' a List.mem_cons_self, fun tb' => q _ fun t ht => ?_⟩⟩
    · rcases hall t ht with z | z
      · rcases List.mem_cons.mp z with e | z
        · exact .inr (by rw [e]; exact List.mem_cons_self)
        · exact .inl z
      · exact .inr (List.mem_cons_of_mem _ z)
    · rw [upd_ne fun z => n1 (by rw [← z]; exact ht)]
      exact hT t (List.mem_cons_of_mem _ ht)
    · intro z
      rcases List.mem_cons.mp z with e | z
      · exact n1 (by rw [← e]; exact ht)
      · exact nn t (List.mem_cons_of_mem _ ht) z
    · rcases List.mem_cons.mp ht with e | ht
      · rw [e]
        exact upd_same
      · rw [upd_ne fun z => nad (by rw [← z]; exact ht)]
        exact hd t ht
    · rw [upd_ne fun z => nb t ht (by rw [z]; exact List.mem_cons_self)]
      exact hb t ht
    · rw [upd_ne fun z => nad (by rw [← z]; exact ht)]
      exact h' t (List.mem_cons_of_mem _ ht)
end
theorem walkM {l : PySem.W.OpenLaw} {k : Nat} {q : Program} {loose : List Str} {XP : (Str → Option Value) → Heap → Prop} {YP : World → Heap → Prop} {d : DefRec} {K : Params → PySem.W.Frag} {cs ds : List (Addr × Addr)} (hn : l.most = some 63) (hdf : d.params.defaults = []) (hr : Room k callerA)
    (hY : ∀ (w : World) (h : Heap), YP w h → (K w.params).In h) (nd : ((cs ++ ds).map (·.2)).Nodup) (ht : ∀ p ∈ cs ++ ds, ∃ x, TabH q K x p.1 p.2)
    (F : ∀ (w : World) (mg : Str → Option Value) (fa : Addr) (h : Heap), (K w.params).In h → h.Ns mainGlobals mg → mg d.name = some (.ref fa) →
      ∃ fd : FuncData, (∀ (s : Shared) (u : Value), BindsTo s fd ⟨[u], []⟩ [("script", u)]) ∧ ∀ base : Heap, (K w.params).In base → base.Ns mainGlobals mg → (∀ p ∈ cs ++ ds, LamX.TabB base mg p.1 p.2) → FnOk l.prog w (K w.params) mg base CX0 k fa fd ["script"] (spLawM (K w.params) (cs.map (·.2)) (ds.map (·.2)))) :
    PySem.W.WalkO q loose XP YP l.row.toRowW d [] (fun f vs => PySem.call f vs) := by
  refine Att.attach_callB hn hdf fun w s₀ s₁ mg mb fa o pm cd doc a vs ns G Y ho hd hcd hmg hobj hints hlen hbits hg => ?_
  have KX := hY w _ Y
  obtain ⟨fd, hb, hF⟩ := F w mg fa _ KX G.T.g hmg
  have tabs : ∀ p ∈ cs ++ ds, PySem.W.CodeHd s₁.heap p.1 p.2 ∧ s₁.heap.get? p.2 = some { cls := .none, data := .fields #[] } := fun p hp => by
    obtain ⟨x, h⟩ := ht p hp
    obtain ⟨rc, hrc⟩ := h.rec_
    exact PySem.W.tab_of G.T KX hrc (h.tab w)
  rw [List.map_append] at nd
  obtain ⟨nd1, _, nd3⟩ := List.nodup_append.mp nd
  refine LamX.law_callTs (cs := cs ++ ds) KX G.T.g G.T.b G.T.builtins G.T.nolimit hg (fun p hp => (tabs p hp).2) (fun p hp => by obtain ⟨x, h⟩ := ht p hp; exact h.out w) (fun p hp => (tabs p hp).1) G.T.bmain hobj hints (Nat.le_trans hlen (by decide)) hr
    (fun base h1 h2 h3 => FnOk.untbs (hF base h1 h2 h3) (cs.map (·.2))) hb (fun H hH hS => ?_) fun H e s' z => z
  refine spUnM_law hlen (cs.map (·.2)) [] H (fun v _ => v = V.bl true) (fun t h => .inl h) (fun t h => ?_) nd1 (fun t _ z => by cases z) (fun t z => by cases z) (fun t h => ?_) (fun t h z => nd3 t z t h rfl) hS fun H' _ => rfl
  · obtain ⟨p, hp, rfl⟩ := List.mem_map.mp h
    exact hH p (List.mem_append_left _ hp)
  · obtain ⟨p, hp, rfl⟩ := List.mem_map.mp h
    exact hH p (List.mem_append_right _ hp)
/-- two tables of nested defs -/
theorem tabs2 {t1 t2 : Addr} {n1 n2 : Nat → Nat → Str} {H : Hp} (h1 : H t1 = some (.tbl #[])) (h2 : H t2 = some (.tbl #[])) : NdefX.TabsN [(t1, n1), (t2, n2)] H := fun p hp => by
  rcases List.mem_cons.mp hp with e | hp
  · rw [e]
    exact NdefX.TabN.nil h1
  · rw [List.mem_singleton.mp hp]
    exact NdefX.TabN.nil h2
theorem hu21 {t1 t2 : Addr} {n1 n2 : Nat → Nat → Str} (ne : t1 ≠ t2) : ∀ p ∈ [(t1, n1), (t2, n2)], p.1 = t1 → p.2 = n1 := fun p hp e => by
  rcases List.mem_cons.mp hp with z | hp
  · rw [z]
  · rw [List.mem_singleton.mp hp] at e
    exact absurd e.symm ne
theorem hu22 {t1 t2 : Addr} {n1 n2 : Nat → Nat → Str} (ne : t1 ≠ t2) : ∀ p ∈ [(t1, n1), (t2, n2)], p.1 = t2 → p.2 = n2 := fun p hp e => by
  rcases List.mem_cons.mp hp with z | hp
  · rw [z] at e
    exact absurd e ne
  · rw [List.mem_singleton.mp hp]

/-! ### forms compared -/
def wD : Option Str → PyData
  | none => .none
  | some w => .str w
def frmD : Nat → List Blk → PyData
  | 0, _ => .tuple []
  | n + 1, bs => .tuple (bs.map fun b => .tuple [wD b.w, .tuple (b.t.map .int), frmD n b.i])
/-- the words of a form are texts, its depth is bounded -/
def FmOk : Nat → List Blk → Prop
  | 0, bs => bs = []
  | n + 1, bs => ∀ b ∈ bs, (∀ w, b.w = some w → PyData.strOk w = true) ∧ FmOk n b.i
theorem dp_form {K : PySem.W.Frag} {H : Hp} : ∀ {n : Nat} {v : V} {bs : List Blk}, FormAt H n v bs → Dp K H v (frmD n bs)
  | 0, v, bs, h => by
    obtain ⟨a, xs, rfl, h1, h2, h3⟩ := h
    rw [h2] at h1
    exact .tup (SqT.of h1) .nil
  | n + 1, v, bs, h => by
    obtain ⟨a, xs, rfl, h1, h2, h3⟩ := h
    refine .tup (SqT.of h1) ?_
    clear h1 h2
    induction h3 with
    | nil => exact .nil
    | @cons _ b _ _ r _ ih =>
      obtain ⟨a1, t, i, ys, rfl, k1, k2, k3, k4, k5⟩ := r.ex
      refine .cons (.tup (SqT.of k1) (.cons ?_ (.cons (.tup (SqT.of k2) (dp_ints _)) (.cons (dp_form ⟨i, ys, rfl, k4, k5⟩) .nil)))) ih
      cases b.w with
      | none => exact .non
      | some z => exact .str z
theorem eqv_ints : ∀ T U : List Int, PyData.eqvAll (T.map .int) (U.map .int) = true ↔ T = U
  | [], [] => by simp [PyData.eqvAll]
  | [], _ :: _ => by simp [PyData.eqvAll]
  | _ :: _, [] => by simp [PyData.eqvAll]
  | x :: T, y :: U => by
    simp only [List.map_cons, PyData.eqvAll, PyData.eqv, Bool.and_eq_true, beq_iff_eq, List.cons.injEq, eqv_ints T U]
theorem eqv_w : ∀ o p : Option Str, PyData.eqv (wD o) (wD p) = true ↔ o = p
  | none, none => by simp [wD, PyData.eqv]
  | none, some _ => by simp [wD, PyData.eqv]
  | some _, none => by simp [wD, PyData.eqv]
  | some x, some y => by simp [wD, PyData.eqv]
theorem blk_ext : ∀ {b c : Blk}, b.w = c.w → b.t = c.t → b.i = c.i → b = c
  | .mk _ _ _, .mk _ _ _, h1, h2, h3 => by
    have h1' := h1
    have h2' := h2
    have h3' := h3
    unfold Blk.w at h1'
    unfold Blk.t at h2'
    unfold Blk.i at h3'
    subst h1'
    subst h2'
    subst h3'
    rfl
theorem frm_eqv : ∀ (n : Nat) (bs cs : List Blk), FmOk n bs → FmOk n cs → (PyData.eqv (frmD n bs) (frmD n cs) = true ↔ bs = cs)
  | 0, bs, cs, h, k => by
    rw [show bs = [] from h, show cs = [] from k]
    simp [frmD, PyData.eqv, PyData.eqvAll]
  | n + 1, bs, cs, h, k => by
    have go : ∀ bs cs : List Blk, FmOk (n + 1) bs → FmOk (n + 1) cs → (PyData.eqvAll (bs.map fun b => .tuple [wD b.w, .tuple (b.t.map .int), frmD n b.i]) (cs.map fun b => .tuple [wD b.w, .tuple (b.t.map .int), frmD n b.i]) = true ↔ bs = cs) := fun bs => by
      induction bs with
      | nil => intro cs _ _; cases cs <;> simp [PyData.eqvAll]
      | cons b bs ih =>
        intro cs h k
        cases cs with
        | nil => simp [PyData.eqvAll]
        | cons c cs =>
          have e := ih cs (fun x hx => h x (List.mem_cons_of_mem _ hx)) fun x hx => k x (List.mem_cons_of_mem _ hx)
          have ei := frm_eqv n b.i c.i (h b List.mem_cons_self).2 (k c List.mem_cons_self).2
          simp only [List.map_cons, PyData.eqvAll, PyData.eqv, Bool.and_eq_true, and_true, e, ei, eqv_w, eqv_ints, List.cons.injEq]
          constructor
          · rintro ⟨⟨e1, e2, e3⟩, e4⟩
            exact ⟨blk_ext e1 e2 e3, e4⟩
          · rintro ⟨rfl, rfl⟩
            exact ⟨⟨rfl, rfl, rfl⟩, rfl⟩
    exact go bs cs h k
theorem lay_ints : ∀ T : List Int, PyData.canLayAll0 (T.map .int) = true
  | [] => rfl
  | x :: T => by
    simp only [List.map_cons, PyData.canLayAll0, PyData.canLay0, lay_ints T, Bool.and_self]
theorem lay_form : ∀ (n : Nat) (bs : List Blk), FmOk n bs → (frmD n bs).canLay0 = true
  | 0, _, _ => rfl
  | n + 1, bs, h => by
    have go : ∀ bs : List Blk, FmOk (n + 1) bs → PyData.canLayAll0 (bs.map fun b => .tuple [wD b.w, .tuple (b.t.map .int), frmD n b.i]) = true := fun bs => by
      induction bs with
      | nil => intro _; rfl
      | cons b bs ih =>
        intro h
        have e := ih fun x hx => h x (List.mem_cons_of_mem _ hx)
        have ei := lay_form n b.i (h b List.mem_cons_self).2
        have ew : (wD b.w).canLay0 = true := by
          cases z : b.w with
          | none => rfl
          | some w => exact (h b List.mem_cons_self).1 w z
        simp only [List.map_cons, PyData.canLayAll0, PyData.canLay0, e, ei, ew, lay_ints, Bool.and_self]
    exact go bs h
theorem dep_form : ∀ (n : Nat) (bs : List Blk), (frmD n bs).depth ≤ 2 * n + 1
  | 0, _ => Nat.le_refl _
  | n + 1, bs => by
    have go : ∀ bs : List Blk, PyData.depthAll (bs.map fun b => .tuple [wD b.w, .tuple (b.t.map .int), frmD n b.i]) ≤ 2 * n + 2 := fun bs => by
      induction bs with
      | nil => exact Nat.zero_le _
      | cons b bs ih =>
        have ei := dep_form n b.i
        have ew : (wD b.w).depth = 0 := by cases b.w <;> rfl
        simp only [List.map_cons, PyData.depthAll, PyData.depth, ew, dep_ints]
        omega
    have := go bs
    show PyData.depthAll _ + 1 ≤ _
    omega
theorem shaped_form {bs : List Blk} (h : FmOk 12 bs) : SeqAt.shaped (frmD 12 bs) = true := by
  unfold SeqAt.shaped
  rw [lay_form 12 bs h, Bool.true_and, decide_eq_true_iff]
  exact Nat.le_trans (dep_form 12 bs) (by decide)
theorem wordP_word {L : List Cl} {Q : List Int} {w : Str} (h : wordP L Q = some w) : ∃ c ∈ L, c.2 = w := by
  unfold wordP at h
  cases e : lastIn Q L with
  | none => rw [e] at h; cases h
  | some c =>
    rw [e] at h
    exact ⟨c, List.mem_reverse.mp (List.mem_of_find?_eq_some e), Option.some.inj h⟩
theorem blk_ok {D : List Pr} {L : List Cl} (hL : ∀ c ∈ L, PyData.strOk c.2 = true) : ∀ (n : Nat) (R : List Int), FmOk n (blkF D L n R)
  | 0, _ => rfl
  | n + 1, R => fun b hb => by
    rw [blkF_succ] at hb
    obtain ⟨P, hP, rfl⟩ := List.mem_map.mp hb
    unfold blkP
    cases e : wordP L P with
    | none =>
      refine ⟨fun w h => (by cases h), ?_⟩
      cases n with
      | zero => rfl
      | succ n => exact fun b hb => by cases hb
    | some w =>
      refine ⟨fun w' h => ?_, blk_ok hL n _⟩
      obtain ⟨c, hc, ec⟩ := wordP_word e
      have : w = w' := Option.some.inj h
      rw [← this, ← ec]
      exact hL c hc
theorem form_ok {D : List Pr} {r : Nat} {L : List Cl} (hL : ∀ c ∈ L, PyData.strOk c.2 = true) : FmOk 12 (formF D r L) := blk_ok hL 12 _
theorem eq_form {K : PySem.W.Frag} {H : Hp} {x y : V} {bs cs : List Blk} {Q : VK} (hx : FormAt H 12 x bs) (hy : FormAt H 12 y cs) (ob : FmOk 12 bs) (oc : FmOk 12 cs) (q1 : bs = cs → Q (.bl true) H) (q2 : bs ≠ cs → Q (.bl false) H) : rEqD K x y H Q := by
  refine ⟨_, _, dp_form hx, dp_form hy, shaped_form ob, shaped_form oc, ?_⟩
  have e := frm_eqv 12 bs cs ob oc
  cases h : PyData.eqv (frmD 12 bs) (frmD 12 cs) with
  | true => exact q1 (e.mp h)
  | false => exact q2 fun z => by rw [e.mpr z] at h; cases h
theorem ne_form {K : PySem.W.Frag} {H : Hp} {x y : V} {bs cs : List Blk} {Q : VK} (hx : FormAt H 12 x bs) (hy : FormAt H 12 y cs) (ob : FmOk 12 bs) (oc : FmOk 12 cs) (q1 : bs = cs → Q (.bl false) H) (q2 : bs ≠ cs → Q (.bl true) H) : rNeD K x y H Q := by
  refine ⟨_, _, dp_form hx, dp_form hy, shaped_form ob, shaped_form oc, ?_⟩
  have e := frm_eqv 12 bs cs ob oc
  cases h : PyData.eqv (frmD 12 bs) (frmD 12 cs) with
  | true => exact q1 (e.mp h)
  | false => exact q2 fun z => by rw [e.mpr z] at h; cases h

/-! ### the blocks of a form: the theory -/
def preF : Nat → List Blk → List Blk
  | 0, _ => []
  | n + 1, bs => bs.flatMap fun b => b :: preF n b.i
theorem preF_nil : ∀ n, preF n [] = []
  | 0 => rfl
  | _ + 1 => rfl
theorem preF_one (n : Nat) (b : Blk) : preF (n + 1) [b] = b :: preF n b.i := by
  show [b].flatMap _ = _
  rw [List.flatMap_cons, List.flatMap_nil, List.append_nil]
/-- the rooms of a block, in the order of its blocks -/
def rmsB (b : Blk) : List Int := (preF 13 [b]).flatMap Blk.t
theorem rmsB_eq (b : Blk) : rmsB b = b.t ++ (preF 12 b.i).flatMap Blk.t := by
  unfold rmsB
  rw [preF_one, List.flatMap_cons]
theorem blkP_none {D : List Pr} {L : List Cl} {k : Nat} {P : List Int} (e : wordP L P = none) : blkP D L k P = .mk none P [] := by
  unfold blkP
  rw [e]
theorem blkP_some {D : List Pr} {L : List Cl} {k : Nat} {P : List Int} {w : Str} (e : wordP L P = some w) : blkP D L k P = .mk (some w) (upF (keepL D L 12 P)) (blkF D L k (P.filter fun x => decide (x ∉ keepL D L 12 P))) := by
  unfold blkP
  rw [e]
theorem blkP_w {D : List Pr} {L : List Cl} {k : Nat} {P : List Int} : (blkP D L k P).w = wordP L P := by
  cases e : wordP L P with
  | none => rw [blkP_none e]; rfl
  | some w => rw [blkP_some e]; rfl
theorem pre_sub {D : List Pr} {L : List Cl} : ∀ (m k : Nat) (R : List Int), ∀ x ∈ (preF m (blkF D L k R)).flatMap Blk.t, x ∈ R
  | 0, _, _, _, h => by cases h
  | _ + 1, 0, _, _, h => by cases h
  | m + 1, k + 1, R, x, h => by
    rw [blkF_succ] at h
    obtain ⟨b, hb, hx⟩ := List.mem_flatMap.mp h
    obtain ⟨c, hc, hb⟩ := List.mem_flatMap.mp hb
    obtain ⟨P, hP, rfl⟩ := List.mem_map.mp hc
    refine (pcsF_spec D R).sub_of hP _ ?_
    cases e : wordP L P with
    | none =>
      rw [blkP_none e] at hb
      rcases List.mem_cons.mp hb with z | z
      · rw [z] at hx
        exact hx
      · rw [show (Blk.mk none P []).i = [] from rfl, preF_nil] at z
        cases z
    | some w =>
      rw [blkP_some e] at hb
      rcases List.mem_cons.mp hb with z | z
      · rw [z] at hx
        exact keepL_sub _ _ _ ((upF_mem _ _).mp hx)
      · exact (List.mem_filter.mp (pre_sub m k _ x (List.mem_flatMap.mpr ⟨b, z, hx⟩))).1
theorem pre_all {D : List Pr} {L : List Cl} : ∀ (n m k : Nat) (R : List Int), R.length ≤ n → n ≤ m → n ≤ k → ∀ x ∈ R, x ∈ (preF m (blkF D L k R)).flatMap Blk.t
  | 0, _, _, R, hR, _, _, x, hx => by
    rw [List.length_eq_zero_iff.mp (Nat.le_zero.mp hR)] at hx
    cases hx
  | n + 1, 0, _, _, _, h, _, _, _ => by cases h
  | n + 1, _ + 1, 0, _, _, _, h, _, _ => by cases h
  | n + 1, m + 1, k + 1, R, hR, hm, hk, x, hx => by
    have hs := pcsF_spec D R
    obtain ⟨P, hP, xP⟩ := hs.cov x hx
    have pl : P.length ≤ R.length := int_sub_len2 (up_nd (hs.part hP).1) (hs.sub_of hP)
    rw [blkF_succ]
    have key : ∃ b ∈ blkP D L k P :: preF m (blkP D L k P).i, x ∈ b.t := by
      cases e : wordP L P with
      | none =>
        rw [blkP_none e]
        exact ⟨_, List.mem_cons_self, xP⟩
      | some w =>
        rw [blkP_some e]
        by_cases c : x ∈ keepL D L 12 P
        · exact ⟨_, List.mem_cons_self, (upF_mem _ _).mpr c⟩
        · obtain ⟨y, yP, yk⟩ := keepL_ne (D := D) (n := 11) e
          have lt : (P.filter fun x => decide (x ∉ keepL D L 12 P)).length < P.length := filter_lt yP (by simpa using yk)
          have := pre_all (D := D) (L := L) n m k (P.filter fun x => decide (x ∉ keepL D L 12 P)) (by omega) (Nat.le_of_succ_le_succ hm) (Nat.le_of_succ_le_succ hk) x (List.mem_filter.mpr ⟨xP, decide_eq_true c⟩)
          obtain ⟨b, hb, hx⟩ := List.mem_flatMap.mp this
          exact ⟨b, List.mem_cons_of_mem _ hb, hx⟩
    obtain ⟨b, hb, hx⟩ := key
    exact List.mem_flatMap.mpr ⟨b, List.mem_flatMap.mpr ⟨_, List.mem_map.mpr ⟨P, hP, rfl⟩, hb⟩, hx⟩
theorem pre_of {D : List Pr} {L : List Cl} : ∀ (m k : Nat) (R : List Int), ∀ b ∈ preF m (blkF D L k R), ∃ k' P, b = blkP D L k' P ∧ P.Nodup ∧ ∀ x ∈ P, x ∈ R
  | 0, _, _, _, h => by cases h
  | _ + 1, 0, _, _, h => by cases h
  | m + 1, k + 1, R, b, h => by
    rw [blkF_succ] at h
    obtain ⟨c, hc, hb⟩ := List.mem_flatMap.mp h
    obtain ⟨P, hP, rfl⟩ := List.mem_map.mp hc
    have hs := pcsF_spec D R
    rcases List.mem_cons.mp hb with z | z
    · exact ⟨k, P, z, up_nd (hs.part hP).1, hs.sub_of hP⟩
    · cases e : wordP L P with
      | none =>
        rw [blkP_none e, show (Blk.mk none P []).i = [] from rfl, preF_nil] at z
        cases z
      | some w =>
        rw [blkP_some e] at z
        obtain ⟨k', P', e1, e2, e3⟩ := pre_of m k _ b z
        exact ⟨k', P', e1, e2, fun x hx => hs.sub_of hP x (List.mem_filter.mp (e3 x hx)).1⟩
theorem pre_rlen {D : List Pr} {L : List Cl} : ∀ (m k : Nat) (R : List Int), ((preF m (blkF D L k R)).flatMap Blk.t).length ≤ R.length ∧ (preF m (blkF D L k R)).length ≤ R.length
  | 0, _, _ => ⟨Nat.zero_le _, Nat.zero_le _⟩
  | _ + 1, 0, _ => ⟨Nat.zero_le _, Nat.zero_le _⟩
  | m + 1, k + 1, R => by
    have hs := pcsF_spec D R
    have key : ∀ P ∈ pcsF D R, ((blkP D L k P :: preF m (blkP D L k P).i).flatMap Blk.t).length ≤ P.length ∧ (blkP D L k P :: preF m (blkP D L k P).i).length ≤ P.length := fun P hP => by
      cases e : wordP L P with
      | none =>
        rw [blkP_none e, show (Blk.mk none P []).i = [] from rfl, preF_nil, List.flatMap_cons, List.flatMap_nil, List.append_nil]
        exact ⟨Nat.le_refl _, List.length_pos_iff.mpr (hs.ne hP)⟩
      | some w =>
        rw [blkP_some e, List.flatMap_cons, List.length_append, List.length_cons]
        obtain ⟨y, yP, yk⟩ := keepL_ne (D := D) (n := 11) e
        have h1 := keep_split P (keepL D L 12 P) (up_nd (hs.part hP).1) (keepL_sub 12 P)
        obtain ⟨h2, h3⟩ := pre_rlen (D := D) (L := L) m k (P.filter fun x => decide (x ∉ keepL D L 12 P))
        have h4 : 0 < (upF (keepL D L 12 P)).length := List.length_pos_iff.mpr fun z => by
          have := (upF_mem _ _).mpr yk
          rw [z] at this
          cases this
        exact ⟨Nat.le_trans (Nat.add_le_add_left h2 _) (by show (upF (keepL D L 12 P)).length + _ ≤ _; omega), by show (preF m (blkF D L k (P.filter fun x => decide (x ∉ keepL D L 12 P)))).length + 1 ≤ _; omega⟩
    have flat : ((pcsF D R).flatMap fun P => P).length ≤ R.length := by
      refine int_sub_len2 ?_ fun x hx => ?_
      · refine List.pairwise_flatMap.mpr ⟨fun P hP => up_nd (hs.part hP).1, List.Pairwise.imp_of_mem (fun {a b} ma mb h x hx y hy e => ?_) hs.asc⟩
        subst e
        have := hs.apart ma mb hx hy
        rw [this] at h
        omega
      · obtain ⟨P, hP, hx⟩ := List.mem_flatMap.mp hx
        exact hs.sub_of hP x hx
    have e1 : preF (m + 1) (blkF D L (k + 1) R) = (pcsF D R).flatMap fun P => blkP D L k P :: preF m (blkP D L k P).i := by
      rw [blkF_succ]
      show ((pcsF D R).map _).flatMap _ = _
      rw [List.flatMap_map]
    rw [e1, List.flatMap_assoc]
    exact ⟨Nat.le_trans (sum_flat (g := fun P => P) _ fun P hP => (key P hP).1) flat, Nat.le_trans (sum_flat (g := fun P => P) _ fun P hP => (key P hP).2) flat⟩
theorem rms_of {D : List Pr} {L : List Cl} {k : Nat} {P : List Int} (nd : P.Nodup) : (∀ x ∈ rmsB (blkP D L k P), x ∈ P) ∧ (rmsB (blkP D L k P)).length ≤ P.length := by
  rw [rmsB_eq]
  cases e : wordP L P with
  | none =>
    rw [blkP_none e, show (Blk.mk none P []).i = [] from rfl, preF_nil, List.flatMap_nil, List.append_nil]
    exact ⟨fun x hx => hx, Nat.le_refl _⟩
  | some w =>
    rw [blkP_some e]
    refine ⟨fun x hx => ?_, ?_⟩
    · rcases List.mem_append.mp hx with z | z
      · exact keepL_sub _ _ _ ((upF_mem _ _).mp z)
      · exact (List.mem_filter.mp (pre_sub 12 k _ x z)).1
    · rw [List.length_append]
      have h1 := keep_split P (keepL D L 12 P) nd (keepL_sub 12 P)
      have h2 := (pre_rlen (D := D) (L := L) 12 k (P.filter fun x => decide (x ∉ keepL D L 12 P))).1
      show (upF (keepL D L 12 P)).length + ((preF 12 (blkF D L k (P.filter fun x => decide (x ∉ keepL D L 12 P)))).flatMap Blk.t).length ≤ _
      omega
theorem rms_all {D : List Pr} {L : List Cl} {k : Nat} {P : List Int} (h12 : P.length ≤ 12) (hk : P.length ≤ k + 1) : ∀ x ∈ P, x ∈ rmsB (blkP D L k P) := fun x hx => by
  rw [rmsB_eq]
  cases e : wordP L P with
  | none =>
    rw [blkP_none e]
    exact List.mem_append_left _ hx
  | some w =>
    rw [blkP_some e]
    by_cases c : x ∈ keepL D L 12 P
    · exact List.mem_append_left _ ((upF_mem _ _).mpr c)
    · obtain ⟨y, yP, yk⟩ := keepL_ne (D := D) (n := 11) e
      have lt : (P.filter fun x => decide (x ∉ keepL D L 12 P)).length < P.length := filter_lt yP (by simpa using yk)
      exact List.mem_append_right _ (pre_all _ 12 k _ (Nat.le_refl _) (by omega) (by omega) x (List.mem_filter.mpr ⟨hx, decide_eq_true c⟩))
/-- the block holds all the rooms -/
def hldB (Q : List Int) (b : Blk) : Bool := Q.all fun x => decide (x ∈ rmsB b)
theorem hldB_iff {Q : List Int} {b : Blk} : hldB Q b = true ↔ ∀ x ∈ Q, x ∈ rmsB b := by
  unfold hldB
  rw [List.all_eq_true]
  exact ⟨fun h x hx => of_decide_eq_true (h x hx), fun h x hx => decide_eq_true (h x hx)⟩
theorem flat_last {α β : Type} {f : α → List β} : ∀ {l : List α} {a : α}, a ∈ l → (∀ b ∈ l, b ≠ a → f b = []) → (l.flatMap f).getLast? = (f a).getLast?
  | b :: l, a, m, h => by
    rw [List.flatMap_cons, List.getLast?_append]
    by_cases ml : a ∈ l
    · rw [flat_last ml fun c hc => h c (List.mem_cons_of_mem _ hc)]
      by_cases e : b = a
      · rw [e]
        cases (f a).getLast? <;> rfl
      · rw [h b List.mem_cons_self e]
        cases (f a).getLast? <;> rfl
    · rcases List.mem_cons.mp m with e | m
      · subst e
        have : l.flatMap f = [] := List.flatMap_eq_nil_iff.mpr fun c hc => h c (List.mem_cons_of_mem _ hc) fun z => ml (by rw [← z]; exact hc)
        rw [this]
        rfl
      · exact absurd m ml
/-- the last block that holds a part has its word -/
theorem small_word {D : List Pr} {L : List Cl} {Q : List Int} (hQ : Part D Q) : ∀ (n m k : Nat) (R : List Int), R.length ≤ n → n ≤ m → n ≤ k → R.length ≤ 12 → (∀ x ∈ Q, x ∈ R) → ∃ b, ((preF m (blkF D L k R)).filter (hldB Q)).getLast? = some b ∧ b.w = wordP L Q
  | 0, _, _, R, hR, _, _, _, sub => by
    obtain ⟨_, s, hs, _⟩ := hQ
    have := sub s hs
    rw [List.length_eq_zero_iff.mp (Nat.le_zero.mp hR)] at this
    cases this
  | n + 1, 0, _, _, _, h, _, _, _ => by cases h
  | n + 1, _ + 1, 0, _, _, _, h, _, _ => by cases h
  | n + 1, m + 1, k + 1, R, hR, hm, hk, h12, sub => by
    have hs := pcsF_spec D R
    obtain ⟨_, s, sQ, hr⟩ := id hQ
    obtain ⟨P, hP, sP⟩ := hs.cov s (sub s sQ)
    have QP := hs.within hQ sub hP sQ sP
    have partP := hs.part hP
    have pl : P.length ≤ R.length := int_sub_len2 (up_nd partP.1) (hs.sub_of hP)
    have e1 : preF (m + 1) (blkF D L (k + 1) R) = (pcsF D R).flatMap fun P => blkP D L k P :: preF m (blkP D L k P).i := by
      rw [blkF_succ]
      show ((pcsF D R).map _).flatMap _ = _
      rw [List.flatMap_map]
    have inP : ∀ P' : List Int, P'.Nodup → ∀ b ∈ blkP D L k P' :: preF m (blkP D L k P').i, ∀ x ∈ rmsB b, x ∈ P' := fun P' nd b hb x hx => by
      rcases List.mem_cons.mp hb with z | z
      · rw [z] at hx
        exact (rms_of nd).1 x hx
      · cases e : wordP L P' with
        | none =>
          rw [blkP_none e, show (Blk.mk none P' []).i = [] from rfl, preF_nil] at z
          cases z
        | some w =>
          rw [blkP_some e] at z
          obtain ⟨k', P2, e1, e2, e3⟩ := pre_of m k _ b z
          rw [e1] at hx
          exact (List.mem_filter.mp (e3 x ((rms_of e2).1 x hx))).1
    have none_ : ∀ P' ∈ pcsF D R, P' ≠ P → (blkP D L k P' :: preF m (blkP D L k P').i).filter (hldB Q) = [] := fun P' hP' ne => by
      rw [List.filter_eq_nil_iff]
      intro b hb h
      have := inP P' (up_nd (hs.part hP').1) b hb s (hldB_iff.mp h s sQ)
      exact ne (hs.apart hP' hP this sP)
    rw [e1, List.filter_flatMap, flat_last hP none_]
    have hold : hldB Q (blkP D L k P) = true := hldB_iff.mpr fun x hx => rms_all (by omega) (by omega) x (QP x hx)
    rw [List.filter_cons_of_pos hold]
    cases e : wordP L P with
    | none =>
      refine ⟨blkP D L k P, ?_, by rw [blkP_w, e]; exact (wordP_sub e QP).symm⟩
      rw [blkP_none e, show (Blk.mk none P []).i = [] from rfl, preF_nil]
      rfl
    | some w =>
      have ei : (blkP D L k P).i = blkF D L k (P.filter fun x => decide (x ∉ keepL D L 12 P)) := by rw [blkP_some e]; rfl
      have ki := keepL_iff 12 P w (Nat.le_trans pl h12) partP e
      by_cases hx : ∃ x ∈ Q, x ∈ keepL D L 12 P
      · obtain ⟨x, xQ, xk⟩ := hx
        refine ⟨blkP D L k P, ?_, by rw [blkP_w, e]; exact (((ki x).mp xk).2 Q hQ xQ QP).symm⟩
        have : (preF m (blkP D L k P).i).filter (hldB Q) = [] := by
          rw [ei, List.filter_eq_nil_iff]
          intro b hb h
          obtain ⟨k', P2, e1, e2, e3⟩ := pre_of m k _ b hb
          have hb2 := hldB_iff.mp h x xQ
          rw [e1] at hb2
          exact of_decide_eq_true (List.mem_filter.mp (e3 x ((rms_of e2).1 x hb2))).2 xk
        rw [this]
        rfl
      · have no : ∀ x ∈ Q, x ∉ keepL D L 12 P := fun x xQ xk => hx ⟨x, xQ, xk⟩
        obtain ⟨y, yP, yk⟩ := keepL_ne (D := D) (n := 11) e
        have lt : (P.filter fun x => decide (x ∉ keepL D L 12 P)).length < P.length := filter_lt yP (by simpa using yk)
        obtain ⟨b, h1, h2⟩ := small_word hQ n m k (P.filter fun x => decide (x ∉ keepL D L 12 P)) (by omega) (Nat.le_of_succ_le_succ hm) (Nat.le_of_succ_le_succ hk) (by omega) fun x hx => List.mem_filter.mpr ⟨QP x hx, decide_eq_true (no x hx)⟩
        refine ⟨b, ?_, h2⟩
        rw [ei, List.getLast?_cons, h1]
        rfl

/-! ### blocks, block_rooms, smallest_block, word_by_form, silent_form -/
abbrev sBlc : Stmt := topS 33
abbrev sBrm : Stmt := topS 0
theorem BlksAt.up1 {H : Hp} : ∀ {n : Nat} {xs : List V} {bs : List Blk}, BlksAt H n xs bs → BlksAt H (n + 1) xs bs
  | 0, xs, bs, h => by
    rw [h.1, h.2]
    exact ⟨Nat.zero_le _, .nil⟩
  | n + 1, xs, bs, h => ⟨h.1, Paired.mapP h.2 fun v b q => by
    obtain ⟨a, t, i, ys, e, h1, h2, h3, h4, h5⟩ := q.ex
    exact ⟨a, t, i, ys, e, h1, h2, h3, h4, BlksAt.up1 h5⟩⟩
theorem BlksAt.up {H : Hp} {n : Nat} {xs : List V} {bs : List Blk} (h : BlksAt H n xs bs) : ∀ {m : Nat}, n ≤ m → BlksAt H m xs bs
  | 0, l => by rw [Nat.le_zero.mp l] at h; exact h
  | m + 1, l => by
    by_cases e : n = m + 1
    · rw [← e]
      exact h
    · exact (BlksAt.up h (Nat.lt_succ_iff.mp (Nat.lt_of_le_of_ne l e))).up1
/-- a block of a form -/
def IsB (H : Hp) (v : V) (b : Blk) : Prop := BlkV H (BlksAt H 12) v b
theorem IsB.kt {H H' : Hp} {v : V} {b : Blk} (h : IsB H v b) (k : KT H H') : IsB H' v b := by
  obtain ⟨a, t, i, ys, e, h1, h2, h3, h4, h5⟩ := h.ex
  exact ⟨a, t, i, ys, e, k _ _ h1, k _ _ h2, h3, k _ _ h4, h5.kt k⟩
theorem BlkV.isB {H : Hp} {n : Nat} {v : V} {b : Blk} (h : BlkV H (BlksAt H n) v b) (l : n ≤ 12) : IsB H v b := by
  obtain ⟨a, t, i, ys, e, h1, h2, h3, h4, h5⟩ := h.ex
  exact ⟨a, t, i, ys, e, h1, h2, h3, h4, h5.up l⟩
theorem lc2W {wi : TI} {g : TG} {tt : TT} {wi1 : TI} {g1 : TG} {tt1 : TT} {te : TE} {vs vs1 : List Nat} {σ : L2.St} {H : Hp} {Q : VK} (h : wi σ H fun J H1 => tLc2 (fun _ H R => R J H) g tt wi1 g1 tt1 te vs vs1 σ H1 Q) : tLc2 wi g tt wi1 g1 tt1 te vs vs1 σ H Q := h
theorem lc2_blk {K : PySem.W.Frag} {a : Addr} {ws : List V} {bs : List Blk} {v : V} {H1 : Hp} {Q : VK} (ha : H1 a = some (.lst ws)) (pb : Paired (IsB H1) ws bs) (len : (bs.flatMap Blk.t).length ≤ 1000)
    (q : ∀ o H', Same H1 H' → H1 o = none → H' o = some (.lst ((bs.flatMap Blk.t).map V.int)) → Q (.ref o) H') :
    tLc2 (fun _ H R => R (Itl K a) H) (gTup K 3 (gCons (gName 1) (gCons (gName 2) (gCons (gName 1) gNil)))) tYes (iTup K (tVar 2)) (gName 3) tYes (tVar 3) [1, 2, 1, 3] [3] [some v, none, none, none] H1 Q := by
  intro D nD
  have wl := Paired.length pb
  refine ⟨fun j m Hx => m = ws.length - j ∧ j ≤ ws.length ∧ Same H1 Hx ∧ Hx D = some (.lst (((bs.take j).flatMap Blk.t).map V.int)), ⟨_, rfl, Nat.zero_le _, same_upd nD, upd_same⟩, ?_⟩
  rintro j mm Hx ⟨rfl, hj, sx, hD⟩
  by_cases lt : j < ws.length
  · refine .inr ⟨⟨ws, ws[j], SqL.of (sx _ _ ha), List.getElem?_eq_getElem lt⟩, fun H' => Same H1 H' ∧ H' D = some (.lst (((bs.take (j + 1)).flatMap Blk.t).map V.int)), fun H' q => ⟨_, by omega, rfl, lt, q.1, q.2⟩, ?_⟩
    rintro v' H' ⟨rfl, ev⟩
    have e2 := ev _ (SqL.of (sx _ _ ha))
    obtain ⟨b, gb, bv⟩ := lget pb e2
    obtain ⟨tb, tt, ti, us, rfl, h1, h2, h3, h4, h5⟩ := bv.ex
    have tk : bs.take (j + 1) = bs.take j ++ [b] := by rw [List.take_add_one, gb]; rfl
    have tl : ((bs.take j).flatMap Blk.t).length + b.t.length ≤ 1000 := by
      have e : (bs.flatMap Blk.t).length = ((bs.take (j + 1)).flatMap Blk.t).length + ((bs.drop (j + 1)).flatMap Blk.t).length := by
        rw [← List.length_append, ← List.flatMap_append, List.take_append_drop]
      rw [tk, List.flatMap_append, List.flatMap_cons, List.flatMap_nil, List.append_nil, List.length_append] at e
      omega
    rw [tk, List.flatMap_append, List.flatMap_cons, List.flatMap_nil, List.append_nil]
    refine ⟨tb, _, rfl, SqT.of (sx _ _ h1), rfl, _, _, rfl, _, _, rfl, _, _, rfl, rfl, rfl, iteT (B := True) ?_⟩
    have h2x := sx _ _ h2
    refine ⟨.ref tt, rfl, tt, rfl, ⟨_, SqT.of h2x⟩, ?_⟩
    refine ⟨fun k m Hy => m = b.t.length - k ∧ k ≤ b.t.length ∧ Same H1 Hy ∧ Hy D = some (.lst (((bs.take j).flatMap Blk.t ++ b.t.take k).map V.int)), ⟨_, rfl, Nat.zero_le _, sx, by rw [List.take_zero, List.append_nil]; exact hD⟩, ?_⟩
    rintro k mk Hy ⟨rfl, hk, sy, hDy⟩
    have h2y := sy _ _ h2
    by_cases lk : k < b.t.length
    · refine .inr ⟨⟨_, .int b.t[k], SqT.of h2y, by rw [List.getElem?_map, List.getElem?_eq_getElem lk]; rfl⟩, fun H' => Same H1 H' ∧ H' D = some (.lst (((bs.take j).flatMap Blk.t ++ b.t.take (k + 1)).map V.int)), fun H' q => ⟨_, by omega, rfl, lk, q.1, q.2⟩, ?_⟩
      rintro x H2 ⟨rfl, ev2⟩
      have e3 := ev2 _ (SqT.of h2y)
      rw [List.getElem?_map, List.getElem?_eq_getElem lk] at e3
      have e4 := Option.some.inj e3
      subst e4
      refine ⟨rfl, iteT (B := True) ?_⟩
      refine ⟨_, rfl, _, hDy, len_big (by rw [List.length_map, List.length_append, List.length_take]; omega), same_ch sy nD, ?_⟩
      rw [upd_same, List.take_add_one, List.getElem?_eq_getElem lk, ← List.append_assoc, List.map_append, List.map_append, List.map_append]
      rfl
    · refine .inl ⟨⟨_, SqT.of h2y, by rw [List.length_map]; omega⟩, sy, ?_⟩
      have et : b.t.take k = b.t := List.take_of_length_le (by omega)
      rw [et] at hDy
      exact hDy
  · refine .inl ⟨⟨ws, SqL.of (sx _ _ ha), by omega⟩, q D Hx sx nD ?_⟩
    rw [List.take_of_length_le (by omega)] at hD
    exact hD
section
variable {P : Program} {w : World} {K : PySem.W.Frag} {mg : Str → Option Value} {base : Heap}
theorem scBlc : FnScope ["form", "found", "block"] ["form"] (defScope sBlc) := ⟨rfl, rfl, rfl, by decide +kernel, rfl, by decide +kernel, by decide +kernel⟩
def spBlc (n : Nat) : Sp := fun vs H Q _ => ∃ (v : V) (bs : List Blk), vs = [v] ∧ FormAt H n v bs ∧ n ≤ 13 ∧ (preF n bs).length ≤ 1000 ∧ ∀ ws t H', Same H H' → H t = none → H' t = some (.lst ws) → Paired (IsB H') ws (preF n bs) → Q (.ref t) H'
theorem ok_blc {f : Addr} {fd : FuncData} (F : Fun K "blocks" "blocks" sBlc f fd) (T : Bi mg) (bd : Binds K fd ["form"] []) (hmg : mg "blocks" = some (.ref f)) : ∀ n, FnOk P w K mg base CX0 (n + 2) f fd ["form"] (spBlc n) := by
  intro n
  induction n with
  | zero =>
    refine F.ok scBlc (fun vs H Q E h => ?_) (fun cdv A0 outer s H vs Q E hr h => ?_)
    · obtain ⟨v, bs, rfl, _⟩ := h
      rfl
    · obtain ⟨v, bs, rfl, ⟨a, xs, rfl, ha, hx, hb⟩, _, _, ret⟩ := h
      subst hx
      subst hb
      refine ⟨_, (pss_cons (ps_set (i := 1) scBlc.nd rfl (Or.inl rfl) (pe_lst pa_nil))
      (pss_cons (ps_for PassesOwn.never rfl (pi_tup (pv 0)) (pg_name (i := 2) scBlc.nd rfl (Or.inl rfl))
      (pss_cons (ps_expr (pe_bm PySem.F.plainAttrs_list PySem.F.slot_list_append PySem.F.type_list_append mt_append (pv 1) (pa_cons (pv 2) pa_nil)))
        (pss_one (ps_never))))
      (pss_one (ps_ret (pv 1))))), ?_⟩
      walk_at "rd"
      refine ⟨Nat.zero_le _, fun cn ncn => ?_⟩
      have s1 := same_upd (o := HO.lst []) ncn
      have hcn := upd_same (H := H) (a := cn) (o := HO.lst [])
      generalize upd H cn (HO.lst []) = H1 at s1 hcn ⊢
      refine for_iterW ?_
      unfold iTup
      walk_at "rd"
      refine ⟨⟨_, SqT.of (s1 _ _ ha)⟩, for_tup (K := K) (a := a) (xs := []) (fun _ σ Hx => σ = [some (.ref a), some (.ref cn), none] ∧ Hx = H1) ⟨rfl, rfl⟩ (fun i σ Hx _ pv => by rw [pv.2]; exact SqT.of (s1 _ _ ha)) (fun i v σ Hx gv pv => by cases gv) (fun σ Hx pv => ?_)⟩
      obtain ⟨rfl, rfl⟩ := pv
      walk_at "rd"
      exact ret [] cn Hx s1 ncn hcn .nil
  | succ n ih =>
    refine F.ok scBlc (fun vs H Q E h => ?_) (fun cdv A0 outer s H vs Q E hr h => ?_)
    · obtain ⟨v, bs, rfl, _⟩ := h
      rfl
    · obtain ⟨v, bs, rfl, ⟨a, xs, rfl, ha, xl, pb⟩, n13, pl, ret⟩ := h
      refine ⟨_, (pss_cons (ps_set (i := 1) scBlc.nd rfl (Or.inl rfl) (pe_lst pa_nil))
      (pss_cons (ps_for PassesOwn.never rfl (pi_tup (pv 0)) (pg_name (i := 2) scBlc.nd rfl (Or.inl rfl))
      (pss_cons (ps_expr (pe_bm PySem.F.plainAttrs_list PySem.F.slot_list_append PySem.F.type_list_append mt_append (pv 1) (pa_cons (pv 2) pa_nil)))
        (pss_one (ps_expr (pe_bm PySem.F.plainAttrs_list PySem.F.slot_list_extend PySem.F.type_list_extend mt_extend (pv 1) (pa_cons (pe_call ih hr (by rfl) hmg F.kp bd .nil pass0 (pa_cons (pe_ix ix_tup (pv 2) pe_int (fun _ _ => rfl)) pa_nil)) pa_nil))))))
      (pss_one (ps_ret (pv 1))))), ?_⟩
      walk_at "rd"
      refine ⟨Nat.zero_le _, fun cn ncn => ?_⟩
      have s1 := same_upd (o := HO.lst []) ncn
      have hcn := upd_same (H := H) (a := cn) (o := HO.lst [])
      generalize upd H cn (HO.lst []) = H1 at s1 hcn ⊢
      have ha1 := s1 _ _ ha
      have bl1 : BL H1 n xs bs := BL.kt pb (KT.same s1)
      refine for_iterW ?_
      unfold iTup
      walk_at "rd"
      obtain ⟨gB, hgB⟩ : ∃ gB : Blk → List Blk, gB = fun b => b :: preF n b.i := ⟨_, rfl⟩
      have eP : preF (n + 1) bs = bs.flatMap gB := by rw [hgB]; rfl
      rw [eP] at pl ret
      obtain ⟨Pv, hPv⟩ : ∃ Pv : Nat → L2.St → Hp → Prop, Pv = (fun i σ Hx => ∃ (ws : List V) (v2 : Option V), σ = [some (.ref a), some (.ref cn), v2] ∧ Same H Hx ∧ Hx cn = some (.lst ws) ∧ Paired (IsB Hx) ws ((bs.take i).flatMap gB) ∧ Hx a = some (.tup xs) ∧ BL Hx n xs bs) := ⟨_, rfl⟩
      refine ⟨⟨_, SqT.of ha1⟩, for_tup (K := K) (a := a) (xs := xs) Pv (by rw [hPv]; exact ⟨[], none, rfl, s1, hcn, .nil, ha1, bl1⟩) (fun i σ Hx _ pv => by rw [hPv] at pv; obtain ⟨_, _, _, _, _, _, h, _⟩ := pv; exact SqT.of h) (fun i v σ Hx gv pv => ?_) (fun σ Hx pv => ?_)⟩
      rotate_left
      · rw [hPv] at pv
        obtain ⟨ws, v2, rfl, sx, hc, lg, _, _⟩ := pv
        rw [Paired.length pb, List.take_length] at lg
        walk_at "rd"
        exact ret ws cn Hx sx ncn hc lg
      rw [hPv] at pv
      obtain ⟨ws, v2, rfl, sx, hc, lg, hax, blx⟩ := pv
      obtain ⟨b, gb, bv⟩ := lget blx gv
      have ib : IsB Hx v b := BlkV.isB bv (by omega)
      obtain ⟨tb, tt, ti, us, rfl, h1, h2, h3, h4, h5⟩ := bv.ex
      have tk : bs.take (i + 1) = bs.take i ++ [b] := by rw [List.take_add_one, gb]; rfl
      have tot : ((bs.take (i + 1)).flatMap gB).length ≤ 1000 := by
        have e : (bs.flatMap gB).length = ((bs.take (i + 1)).flatMap gB).length + ((bs.drop (i + 1)).flatMap gB).length := by
          rw [← List.length_append, ← List.flatMap_append, List.take_append_drop]
        omega
      rw [tk, List.flatMap_append, List.flatMap_cons, List.flatMap_nil, List.append_nil, List.length_append] at tot
      have egB : gB b = b :: preF n b.i := by rw [hgB]
      rw [egB, List.length_cons] at tot
      have wl := Paired.length lg
      walk_at "rd"
      refine ⟨.inl ⟨rfl, _, SqL.of hc⟩, ws, hc, len_big (by omega), ?_⟩
      have kt1 : KT Hx (upd Hx cn (HO.lst (ws ++ [V.ref tb]))) := KT.lst hc
      have sc1 := same_ch (o := HO.lst (ws ++ [V.ref tb])) sx ncn
      have hc1 := upd_same (H := Hx) (a := cn) (o := HO.lst (ws ++ [V.ref tb]))
      have lg1 : Paired (IsB (upd Hx cn (HO.lst (ws ++ [V.ref tb])))) (ws ++ [V.ref tb]) ((bs.take i).flatMap gB ++ [b]) := Paired.snoc (Paired.mapP lg fun v b h => h.kt kt1) (ib.kt kt1)
      have hax1 := kt1 _ _ hax
      have blx1 := blx.kt kt1
      have h11 := kt1 _ _ h1
      have h41 := kt1 _ _ h4
      have h51 := h5.kt kt1
      generalize upd Hx cn (HO.lst (ws ++ [V.ref tb])) = H2 at sc1 hc1 lg1 hax1 blx1 h11 h41 h51 ⊢
      refine ⟨.inl ⟨rfl, _, SqL.of hc1⟩, ?_⟩
      refine ⟨_, SqT.of h11, _, atI_nat (j := 2) rfl, .ref ti, b.i, rfl, ⟨ti, us, rfl, h41, h51⟩, by omega, by omega, fun w2 t2 H3 s3 nt2 ht2 lg2 => ?_⟩
      have hc3 := s3 _ _ hc1
      have wl2 := Paired.length lg2
      refine ⟨_, rfl, _, hc3, _, ht2, Nat.le_of_lt (len_big (by rw [List.length_append, List.length_singleton]; omega)), ?_⟩
      have kt3 : KT H3 (upd H3 cn (HO.lst (ws ++ [V.ref tb] ++ w2))) := KT.lst hc3
      rw [hPv]
      refine ⟨ws ++ [V.ref tb] ++ w2, _, rfl, same_ch (sc1.trans s3) ncn, upd_same, ?_, kt3 _ _ (s3 _ _ hax1), (blx1.kt (KT.same s3)).kt kt3⟩
      rw [tk, List.flatMap_append, List.flatMap_cons, List.flatMap_nil, List.append_nil, egB]
      have e : (bs.take i).flatMap gB ++ b :: preF n b.i = (bs.take i).flatMap gB ++ [b] ++ preF n b.i := by rw [List.append_assoc]; rfl
      rw [e]
      exact paired_append (Paired.mapP lg1 fun v b h => (h.kt (KT.same s3)).kt kt3) (Paired.mapP lg2 fun v b h => h.kt kt3)
end

/-! ### a dict comprehension with two fors: the model's turns -/
abbrev dx2 (kx vx ta ia tb ib : Expr) (ca cb : List Expr) (sc : Scope) (ps : Pos) : Expr := .DictComp kx vx [⟨ta, ia, ca, 0⟩, ⟨tb, ib, cb, 0⟩] sc ps
/-- the tests of a clause, one behind the other -/
abbrev testsB (cs : List Expr) (e : Env) : Sem Bool := forIn cs true fun c b => if b = true then (isTrue c e (eval c e)) >>= fun z => pure (ForInStep.yield z) else pure (ForInStep.yield b)
section
variable {p : Program} {w : World} {A : Around} {kx vx ta ia tb ib : Expr} {ca cb : List Expr} {sc : Scope} {ps : Pos} {it acc : Value} {D : Addr} {e : Env}
abbrev badE (p : Program) (w : World) (A : Around) (e : Env) (R : Result → Shared → Prop) : Value → Shared → Prop := notedBy (model p w) A e fun x s => R (.error x) s
theorem d2_first : compTurn (dx2 kx vx ta ia tb ib ca cb sc ps) 0 it acc e = (standAt ia.pos >>= fun _ => pyNext it >>= fun r => match r with
    | none => pure (.done .next)
    | some v => letOwnedTupleGo ta it v >>= fun _ => assign ta e v >>= fun _ => testsB ca e >>= fun ok =>
      if ok = true then eval ib e >>= fun x => standAt ib.pos >>= fun _ => foldedSetIterable ib e x >>= fun x => holding [x] (pyIter x) >>= fun i1 => runOwn (.compStart (dx2 kx vx ta ia tb ib ca cb sc ps) 1 i1 acc e) e >>= fun _ => again (.compLoop (dx2 kx vx ta ia tb ib ca cb sc ps) 0 it acc e)
      else again (.compLoop (dx2 kx vx ta ia tb ib ca cb sc ps) 0 it acc e)) := by rfl
theorem d2_second : compTurn (dx2 kx vx ta ia tb ib ca cb sc ps) 1 it (.ref D) e = (standAt ib.pos >>= fun _ => pyNext it >>= fun r => match r with
    | none => pure (.done .next)
    | some v => letOwnedTupleGo tb it v >>= fun _ => assign tb e v >>= fun _ => testsB cb e >>= fun ok =>
      if ok = true then (eval kx e >>= fun k => holding [k] (eval vx e) >>= fun v => standAt { kx.pos with endLine := vx.pos.endLine, endCol := vx.pos.endCol } >>= fun _ => holding [k, v] (dictSet D k v)) >>= fun _ => again (.compLoop (dx2 kx vx ta ia tb ib ca cb sc ps) 1 it (.ref D) e)
      else again (.compLoop (dx2 kx vx ta ia tb ib ca cb sc ps) 1 it (.ref D) e)) := by rfl
/-- the start of the second clause -/
theorem d2_start {R : Result → Shared → Prop} {s : Shared} (h1 : codeAny (model p w) A (.compLoop (dx2 kx vx ta ia tb ib ca cb sc ps) 1 it acc e) R s)
    (h2 : wpAny (model p w) A (pyIter it) (fun i s => codeAny (model p w) A (.compLoop (dx2 kx vx ta ia tb ib ca cb sc ps) 1 i acc e) R s) (badE p w A e R) s) : codeAny (model p w) A (.compStart (dx2 kx vx ta ia tb ib ca cb sc ps) 1 it acc e) R s := by
  apply codeAny_of_tree
  refine (wpAny_notedAt (m := compStart (dx2 kx vx ta ia tb ib ca cb sc ps) 1 it acc e) (pos := theWindowsPlace) ?_ : wpAny _ _ (Sem.onRaise _ _) _ _ _)
  unfold compStart
  apply wpAny_bind
  apply wpAny_askSetting
  apply wpAny_ite
  split
  · exact wpAny_pure ⟨rfl, h1⟩
  · exact wpAny_bind (wpAny_rule (wpAny_bind (wpAny_standAt (wpAny_bind (wpAny_mono h2 (fun i s h => wpAny_pure ⟨rfl, h⟩) fun _ _ h => h)))))
end
/-- a loop of a comprehension's clause: what a turn leaves, and the end -/
theorem turns_ok {Y : Cx} (hc : Y.calm = true) {pins : List (Addr × Obj)} {σ : L2.St} {kx vx ta ia tb ib : Expr} {ca cb : List Expr} {sc : Scope} {ps : Pos} {k : Nat} {it : Addr} {acc : Value} {R : Result → Shared → Prop} {tg : Expr} {q : Pos} {rest : Value → Sem PySem.Fin} {J : It} {fp : List Addr} {tn : Nat → Heap → Prop}
    (eq : compTurn (dx2 kx vx ta ia tb ib ca cb sc ps) k (.ref it) acc Y.env = (standAt q >>= fun _ => pyNext (.ref it) >>= fun r => match r with
      | none => pure (.done .next)
      | some v => letOwnedTupleGo tg (.ref it) v >>= fun _ => rest v))
    (T : Turn Y.prog Y.w Y.K tg J fp it tn) (own : ∀ H : Hp, (∀ b ∈ fp, H b = none) → ∀ b ∈ fp, FpOk Y pins H b) (W : Nat → Nat → Hp → Prop)
    (turn : ∀ i n H, W i n H → (J.stop i H ∧ ∀ s, Inv Y pins σ H s → R (.ok .next) s) ∨ (J.go i H ∧ ∀ (v : Value) x H1 h s, J.yld i H x H1 → RelV x v → Inv Y (pins ++ pinsAt fp h) σ H1 s → ∀ Z : Shared → Prop,
      (∀ σ9 H9 s9, Inv Y (pins ++ pinsAt fp h) σ9 H9 s9 → σ.length = σ9.length → (∀ (j : Nat) v, σ[j]? = some (some v) → σ9[j]? = some (some v)) → (∃ n', n' < n ∧ W (i + 1) n' H9) → Z s9) →
        wpAny (model Y.prog Y.w) Y.A (rest v) (fun f s => f = .again (.compLoop (dx2 kx vx ta ia tb ib ca cb sc ps) k (.ref it) acc Y.env) ∧ Z s) (fun _ _ => False) s))
    {s0 : Shared} {H0 : Hp} {n0 : Nat} (I0 : Inv Y pins σ H0 s0) (t0 : tn 0 s0.heap) (f0 : ∀ b ∈ fp, H0 b = none) (w0 : W 0 n0 H0) : codeAny (model Y.prog Y.w) Y.A (.compLoop (dx2 kx vx ta ia tb ib ca cb sc ps) k (.ref it) acc Y.env) R s0 := by
  refine codeAny_loop rfl (fun n s => ∃ i H, Inv Y pins σ H s ∧ tn i s.heap ∧ (∀ b ∈ fp, H b = none) ∧ W i n H) (fun n s hI => ?_) n0 ⟨0, H0, I0, t0, f0, w0⟩
  obtain ⟨i, H, I, st, nf, w⟩ := hI
  show wpAny _ Y.A (Sem.onRaise (compTurn (dx2 kx vx ta ia tb ib ca cb sc ps) k (.ref it) acc Y.env) fun x => noteFrame x Y.env >>= fun _ => theTreesLotGoes x) _ _ s
  refine wpAny_noted ?_
  rw [eq]
  apply wpAny_bind
  apply wpAny_standAt
  apply wpAny_bind
  rcases turn i n H w with ⟨stop, fin⟩ | ⟨go, step⟩
  · refine thnF (T.done Y rfl rfl rfl hc i pins s σ H (fun _ _ => False) I (own H nf) st stop) fun r s1 h1 => ?_
    obtain ⟨rfl, I1⟩ := h1
    exact wpAny_pure (fin s1 I1)
  · refine thnF (T.item Y rfl rfl rfl hc i pins s σ H (fun _ _ => False) I (own H nf) st go) fun r s1 h1 => ?_
    obtain ⟨u, rfl, h2⟩ := h1
    refine wpAny_bind (thnF h2 fun _ s2 h3 => ?_)
    obtain ⟨x, H1, I1, ru, y, st1, n1⟩ := h3
    have ob := T.obj _ _ st1
    refine thnF (step u x H1 s2.heap s2 y ru (I1.pinned (own H1 n1) ob) (fun s => ∃ m, m < n ∧ ∃ i H, Inv Y pins σ H s ∧ tn i s.heap ∧ (∀ b ∈ fp, H b = none) ∧ W i m H) fun σ9 H9 s9 I9 hl hk w9 => ?_) fun f s3 h => ?_
    · obtain ⟨n', ln, w'⟩ := w9
      have pin9 : ∀ b ∈ fp, ∀ o, s2.heap.get? b = some o → s9.heap.get? b = some o ∧ H9 b = none := fun b hb o e => by
        have z := I9.pin (b, o) (List.mem_append_right _ (List.mem_append_right _ (mem_pinsAt hb e)))
        exact ⟨z.1, z.2.1⟩
      exact ⟨n', ln, i + 1, H9, I9.unpinned.weak hl hk, T.keep _ _ _ st1 fun b hb o e => (pin9 b hb o e).1, fun b hb => (ob b hb).elim fun o z => (pin9 b hb o z.1).2, w'⟩
    · obtain ⟨rfl, z⟩ := h
      exact ⟨rfl, z⟩
/-- {k: v for .. in .. for .. in ..}: the dict stands at D -/
def tDc2 (wa : TI) (ga : TG) (ua : TT) (wb : TI) (gb : TG) (ub : TT) (tk tv : TE) (va vb : List Nat) : TE := fun σ H Q => wa σ H fun J H0 => ∀ D, H0 D = none → ∃ W : Nat → Nat → Hp → Prop, (∃ n, W 0 n (upd H0 D (.dK []))) ∧ ∀ i n H, W i n H →
  (J.stop i H ∧ Q (.ref D) H) ∨ (J.go i H ∧ ∃ Z : Hp → Prop, (∀ H, Z H → ∃ n', n' < n ∧ W (i + 1) n' H) ∧ ∀ x H1, J.yld i H x H1 → ga x (wipe σ va) H1 fun σ1 H2 => wipe σ1 va = wipe σ va ∧ ua σ1 H2 fun c H3 =>
    if c = true then wb σ1 H3 fun G H4 => ∃ V1 : Nat → Nat → Hp → Prop, (∃ n, V1 0 n H4) ∧ ∀ j k H, V1 j k H →
      (G.stop j H ∧ Z H) ∨ (G.go j H ∧ ∃ Y : Hp → Prop, (∀ H, Y H → ∃ k', k' < k ∧ V1 (j + 1) k' H) ∧ ∀ x H5, G.yld j H x H5 → gb x (wipe σ1 vb) H5 fun σ2 H6 => wipe σ2 vb = wipe σ1 vb ∧ ub σ2 H6 fun c H7 =>
        if c = true then tk σ2 H7 fun a H8 => tv σ2 H8 fun b H9 => ∃ kvs k, a = kV k ∧ H9 D = some (.dK kvs) ∧ kvs.length < sizeLine ∧ Y (upd H9 D (.dK (putK kvs k b))) else Y H7)
    else Z H3)
section
variable {X : Cx}
theorem pe_dc2 {kx vx ta ia tb ib : Expr} {ca cb : List Expr} {sc : Scope} {own : List (Str × Nat)} {vb : List Nat} {ps : Pos} {wa wb : TI} {ga gb : TG} {ua ub : TT} {tk tv : TE} (hc : X.calm = true) (hN : X.N.Nodup) (pa : PI X ta ia wa) (ok : BlkOk X.N X.env.scope sc own) (hv : ∀ i ∈ vb, i ∈ own.map (·.2))
    (h1 : ∀ (s : Shared) (H : Hp) (C : Addr) (cl : List (Str × Addr)) (fp : List Addr), PG (X.blk s H sc (compEnvC sc cl C X.env) fp) ta ga) (h2 : ∀ (s : Shared) (H : Hp) (C : Addr) (cl : List (Str × Addr)) (fp : List Addr), PTs (X.blk s H sc (compEnvC sc cl C X.env) fp) ca ua)
    (h3 : ∀ (s : Shared) (H : Hp) (C : Addr) (cl : List (Str × Addr)) (fp : List Addr), PI (X.blk s H sc (compEnvC sc cl C X.env) fp) tb ib wb) (h4 : ∀ (s : Shared) (H : Hp) (C : Addr) (cl : List (Str × Addr)) (fp : List Addr), PG (X.blk s H sc (compEnvC sc cl C X.env) fp) tb gb)
    (h5 : ∀ (s : Shared) (H : Hp) (C : Addr) (cl : List (Str × Addr)) (fp : List Addr), PTs (X.blk s H sc (compEnvC sc cl C X.env) fp) cb ub) (h6 : ∀ (s : Shared) (H : Hp) (C : Addr) (cl : List (Str × Addr)) (fp : List Addr), PE (X.blk s H sc (compEnvC sc cl C X.env) fp) kx tk)
    (h7 : ∀ (s : Shared) (H : Hp) (C : Addr) (cl : List (Str × Addr)) (fp : List Addr), PE (X.blk s H sc (compEnvC sc cl C X.env) fp) vx tv) (n1 : ∀ x, foldedSetIterable ia X.env x = pure x := by intro _; rfl) (n2 : ∀ e x, foldedSetIterable ib e x = pure x := by intro _ _; rfl) :
    PE X (dx2 kx vx ta ia tb ib ca cb sc ps) (tDc2 wa ga ua wb gb ub tk tv (own.map (·.2)) vb) := by
  constructor
  intro pins s σ H Q I h
  unfold dx2
  rw [arm_eval_DictComp]
  have cells : ∀ y ∈ sc.names, y.2 = .free → ∃ c, X.env.cells.lookup y.1 = some c := fun y hy e => (ok.free y hy e).elim (fun k => I.ok.has _ (.inl k)) fun k => I.ok.has _ (.inr k)
  refine wpAny_comprehension_free rfl n1 (closure_ok cells) ok.kind (fun y hy e => by rw [ok.uniq y hy, e]) (thn (pa.run pins s σ H _ I h) fun _ _ hx => thn hx fun _ s0 h0 => ?_)
  obtain ⟨it, fp, tn, J, H0, rfl, I0, T, t0, f0, q⟩ := h0
  refine wpAny_newObj_type ?_
  refine newEnv_comp ?_
  obtain ⟨D, eD⟩ : ∃ D, s0.heap.objs.size = D := ⟨_, rfl⟩
  obtain ⟨W, ⟨n0, w0⟩, turn⟩ := q D (I0.hok.fresh (Nat.le_of_eq eD))
  rw [eD]
  obtain ⟨s3, e3⟩ : ∃ s3 : Shared, s3 = { s0 with heap := s0.heap.push { cls := .type "dict", data := .dict #[] } } := ⟨_, rfl⟩
  have I3 : Inv X pins σ (upd H0 D (.dK [])) s3 := by
    rw [e3]
    refine I0.laid (t' := s0.toks) (fun b o e => Heap.get?_push_of_some _ e) (Nat.le_of_eq eD) ?_
    rw [← eD]
    exact dk_empty s0.heap I0.big
  have k3 : s3.heap = s0.heap.push { cls := .type "dict", data := .dict #[] } := by rw [e3]
  have f3 : ∀ b ∈ fp, FpOk X pins (upd H0 D (.dK [])) b ∧ b < s3.heap.objs.size := fun b hb => by
    obtain ⟨o, e, _⟩ := T.obj _ _ t0 b hb
    have lt := Heap.lt_size e
    refine ⟨⟨?_, (f0 b hb).2⟩, by rw [k3, Heap.size_push]; exact Nat.lt_succ_of_lt lt⟩
    rw [upd_ne (by rw [← eD]; exact Nat.ne_of_lt lt)]
    exact (f0 b hb).1
  have t3 : tn 0 s3.heap := T.keep _ _ _ t0 fun b _ o e => by rw [k3]; exact Heap.get?_push_of_some _ e
  have B := block_start I3 ok hN f3
  obtain ⟨H3, eH⟩ : ∃ H3, H3 = upd H0 D (.dK []) := ⟨_, rfl⟩
  rw [← eH] at I3 f3 B w0
  obtain ⟨ce, ee⟩ : ∃ ce, ce = compEnvC sc (cellsFrom (s3.heap.objs.size + 1) sc.names (cloFrom X.env.cells sc.names [])) s3.heap.objs.size X.env := ⟨_, rfl⟩
  obtain ⟨s4, e4⟩ : ∃ s4 : Shared, s4 = { s3 with heap := pushCells (s3.heap.push { cls := .type "dict", data := .dict #[] }) sc.names } := ⟨_, rfl⟩
  have t4 : tn 0 s4.heap := T.keep _ _ _ t3 fun b _ o e => by rw [e4]; exact pushCells_keeps _ _ _ _ (Heap.get?_push_of_some _ e)
  have p1 := h1 s3 H3 s3.heap.objs.size (cellsFrom (s3.heap.objs.size + 1) sc.names (cloFrom X.env.cells sc.names [])) fp
  have p2 := h2 s3 H3 s3.heap.objs.size (cellsFrom (s3.heap.objs.size + 1) sc.names (cloFrom X.env.cells sc.names [])) fp
  have p3 := h3 s3 H3 s3.heap.objs.size (cellsFrom (s3.heap.objs.size + 1) sc.names (cloFrom X.env.cells sc.names [])) fp
  have p4 := h4 s3 H3 s3.heap.objs.size (cellsFrom (s3.heap.objs.size + 1) sc.names (cloFrom X.env.cells sc.names [])) fp
  have p5 := h5 s3 H3 s3.heap.objs.size (cellsFrom (s3.heap.objs.size + 1) sc.names (cloFrom X.env.cells sc.names [])) fp
  have p6 := h6 s3 H3 s3.heap.objs.size (cellsFrom (s3.heap.objs.size + 1) sc.names (cloFrom X.env.cells sc.names [])) fp
  have p7 := h7 s3 H3 s3.heap.objs.size (cellsFrom (s3.heap.objs.size + 1) sc.names (cloFrom X.env.cells sc.names [])) fp
  suffices goal : codeAny (model X.prog X.w) X.A (.compStart (dx2 kx vx ta ia tb ib ca cb sc ps) 0 (.ref it) (.ref D) ce) (compPost (model X.prog X.w) X.A X.xe none (EP X pins σ Q) (.ref D) s3.heap.objs.size) s4 by
    rw [ee, e4, e3] at goal
    exact goal
  rw [← ee] at p1 p2 p3 p4 p5 p6 p7 B
  rw [← e4] at B
  have cl : ce.locals = s3.heap.objs.size := by rw [ee]; rfl
  have nf : ∀ b ∈ fp, H3 b = none := fun b hb => (f3 b hb).1.1
  obtain ⟨Y, eY⟩ : ∃ Y, Y = X.blk s3 H3 sc ce fp := ⟨_, rfl⟩
  have own0 : ∀ H : Hp, (∀ b ∈ fp, H b = none) → ∀ b ∈ fp, FpOk (X.blk s3 H3 sc ce fp) [] H b := fun H hn b hb => ⟨hn b hb, (B.ok.exf b hb).1, B.ok.exfs b hb, .inl hb, fun x c e => (B.ok.exf b hb).2 x c e, fun p hp => nomatch (show p ∈ ([] : List (Addr × Obj)) from hp)⟩
  have loop : codeAny (model X.prog X.w) X.A (.compLoop (dx2 kx vx ta ia tb ib ca cb sc ps) 0 (.ref it) (.ref D) ce) (compPost (model X.prog X.w) X.A X.xe none (EP X pins σ Q) (.ref D) s3.heap.objs.size) s4 := by
    refine turns_ok (Y := X.blk s3 H3 sc ce fp) hc (pins := []) (σ := wipe σ (own.map (·.2))) d2_first T own0 W (fun i n H wi => ?_) B t4 nf w0
    rcases turn i n H wi with ⟨stop, qq⟩ | ⟨go, Z, hZ, step⟩
    · refine .inl ⟨stop, fun s9 I9 => ?_⟩
      have I10 : Inv X pins σ H s9 := I3.call' (ch := fp) I9.os I9.base I9.hok I9.bare fun b hb => (f3 b hb).1.2.elim fun g1 g => ⟨g.2.1, g1, g.2.2.1, g.2.2.2⟩
      have nC : H ce.locals = none := I9.free
      obtain ⟨m, hm, _⟩ := I9.loc
      have hm : s9.heap.Ns ce.locals m := hm
      rw [cl] at hm nC
      obtain ⟨g0, g1, g2, g3, g4, g5⟩ := I3.fpOk (H' := H) (Nat.le_refl _) nC
      exact ⟨m, hm, fun _ sb => ⟨.ref D, H, I10.turned (t' := s9.toks) (fun b _ hb e => (sb.2 b hb).trans e) g0 g1 g3 g4 g5, rfl, qq⟩⟩
    · refine .inr ⟨go, fun v x H1 hh s5 y rv I5 Zs fin => ?_⟩
      refine wpAny_bind (thnF (p1.run _ s5 _ H1 x v _ I5 rv (step x H1 y)) fun _ s6 h6 => ?_)
      obtain ⟨σ6, H6, I6, w6, q6⟩ := h6
      refine wpAny_bind (thnF (p2.run _ s6 σ6 H6 _ I6 q6) fun c s7 h7 => ?_)
      obtain ⟨H7, I7, q7⟩ := h7
      have len6 : (wipe σ (own.map (·.2))).length = σ6.length := by rw [← w6, wipe_length]
      have kp6 : ∀ (j : Nat) v, (wipe σ (own.map (·.2)))[j]? = some (some v) → σ6[j]? = some (some v) ∧ j ∉ own.map (·.2) := fun j v e => by
        rw [← w6] at e
        exact wipe_some e
      cases c with
      | false => exact wpAny_pure ⟨rfl, fin σ6 H7 s7 I7 len6 (fun j v e => (kp6 j v e).1) (hZ H7 q7)⟩
      | true =>
        refine wpAny_bind (thnF (p3.run _ s7 σ6 H7 _ I7 q7) fun xv s8 hx => ?_)
        refine wpAny_bind (wpAny_standAt (wpAny_bind (wpAny_of_eq (n2 _ _) (wpAny_bind (wpAny_holding (thnF hx fun itv s9 h9 => ?_))))))
        obtain ⟨i1, fp1, tn1, J1, H9, rfl, I9, T1, t9, f9, V1, ⟨k0, v0⟩, turn1⟩ := h9
        have run1 : codeAny (model X.prog X.w) X.A (.compLoop (dx2 kx vx ta ia tb ib ca cb sc ps) 1 (.ref i1) (.ref D) ce) (fun r s => match r with
            | .ok _ => Zs s
            | .error _ => False) s9 := by
          refine turns_ok (Y := X.blk s3 H3 sc ce fp) hc (pins := [] ++ pinsAt fp hh) (σ := wipe σ6 vb) d2_second T1 (fun _ hn b hb => ⟨hn b hb, (f9 b hb).2⟩) V1 (fun j k H vj => ?_) (I9.weak (wipe_length _ _) fun _ _ e => (wipe_some e).1) t9 (fun b hb => (f9 b hb).1) v0
          rcases turn1 j k H vj with ⟨stop1, z1⟩ | ⟨go1, Y1, hY, step1⟩
          · refine .inl ⟨stop1, fun sa Ia => fin _ H sa Ia (len6.trans (wipe_length σ6 vb).symm) (fun j v e => ?_) (hZ H z1)⟩
            obtain ⟨e1, e2⟩ := kp6 j v e
            exact (wipe_out fun z => e2 (hv j z)).trans e1
          · refine .inr ⟨go1, fun v x Ha hb sa y rv Ia Zb finb => ?_⟩
            refine wpAny_bind (thnF (p4.run _ sa _ Ha x v _ Ia rv (step1 x Ha y)) fun _ sc1 hc1 => ?_)
            obtain ⟨σA, HA, IA, wA, qA⟩ := hc1
            have lenA : (wipe σ6 vb).length = σA.length := by rw [← wA, wipe_length]
            have kpA : ∀ (j : Nat) v, (wipe σ6 vb)[j]? = some (some v) → σA[j]? = some (some v) := fun j v e => by
              rw [← wA] at e
              exact (wipe_some e).1
            refine wpAny_bind (thnF (p5.run _ sc1 σA HA _ IA qA) fun c sB hB => ?_)
            obtain ⟨HB, IB, qB⟩ := hB
            cases c with
            | false => exact wpAny_pure ⟨rfl, finb σA HB sB IB lenA kpA (hY HB qB)⟩
            | true =>
              refine wpAny_bind (wpAny_bind (thnF (p6.run _ sB σA HB _ IB qB) fun ku sC hC => ?_))
              obtain ⟨a, HC, IC, ra, qC⟩ := hC
              refine wpAny_bind (wpAny_holding (thnF (p7.run _ sC σA HC _ IC qC) fun vu sD hD => ?_))
              obtain ⟨b, HD, ID, rb, kvs, kk, rfl, hDD, hz, nx⟩ := hD
              exact wpAny_bind (wpAny_standAt (wpAny_holding (d_dictSet (X := X.blk s3 H3 sc ce fp) ID hDD hz ra rb fun sE IE => wpAny_pure ⟨rfl, finb σA _ sE IE lenA kpA (hY _ nx)⟩)))
        apply wpAny_bind
        apply wpAny_runOwn ?_
        rw [Around.mark_none]
        refine codeAny_mono (d2_start run1 (T1.self X.A 0 _ _ _ t9 run1)) fun r sz hr => ?_
        cases r with
        | ok f => exact wpAny_pure ⟨rfl, hr⟩
        | error e => exact hr.elim
  exact codeAny_compStart_dict loop (T.self X.A 0 _ _ _ t4 loop)
end

/-! ### words_by_form -/
abbrev sWoF : Stmt := topS 34
theorem rg_nd (r : Nat) : (rg r).Nodup := by
  unfold rg
  refine List.pairwise_map.mpr (List.Pairwise.imp (fun {a b} h z => h ?_) (List.nodup_range (n := r)))
  have z : ((a : Nat) : Int) = (b : Nat) := z
  omega
theorem pre_part {D : List Pr} {L : List Cl} : ∀ (m k : Nat) (R : List Int), ∀ b ∈ preF m (blkF D L k R), ∃ k' P, b = blkP D L k' P ∧ Part D P ∧ ∀ x ∈ P, x ∈ R
  | 0, _, _, _, h => by cases h
  | _ + 1, 0, _, _, h => by cases h
  | m + 1, k + 1, R, b, h => by
    rw [blkF_succ] at h
    obtain ⟨c, hc, hb⟩ := List.mem_flatMap.mp h
    obtain ⟨P, hP, rfl⟩ := List.mem_map.mp hc
    have hs := pcsF_spec D R
    rcases List.mem_cons.mp hb with z | z
    · exact ⟨k, P, z, hs.part hP, hs.sub_of hP⟩
    · cases e : wordP L P with
      | none =>
        rw [blkP_none e, show (Blk.mk none P []).i = [] from rfl, preF_nil] at z
        cases z
      | some w =>
        rw [blkP_some e] at z
        obtain ⟨k', P', e1, e2, e3⟩ := pre_part m k _ b z
        exact ⟨k', P', e1, e2, fun x hx => hs.sub_of hP x (List.mem_filter.mp (e3 x hx)).1⟩
/-- each room is a top of one block -/
theorem tops_perm {D : List Pr} {L : List Cl} {r : Nat} (r12 : r ≤ 12) : ((preF 13 (formF D r L)).flatMap Blk.t).Nodup ∧ ∀ x, x ∈ (preF 13 (formF D r L)).flatMap Blk.t ↔ x ∈ rg r := by
  have sub := pre_sub (D := D) (L := L) 13 12 (rg r)
  have all := pre_all (D := D) (L := L) 12 13 12 (rg r) (by rw [rg_len]; exact r12) (by decide) (Nat.le_refl _)
  have len := (pre_rlen (D := D) (L := L) 13 12 (rg r)).1
  have ndr : (rg r).Nodup := rg_nd r
  refine ⟨pig_nd _ (rg r) ndr all ?_, fun x => ⟨sub x, all x⟩⟩
  have h1 := pig _ (rg r) ndr all
  exact Nat.le_antisymm h1 len
/-- the word of a room's block is the room's last word -/
theorem top_word {D : List Pr} {L : List Cl} {r : Nat} (r12 : r ≤ 12) : ∀ b ∈ preF 13 (formF D r L), ∀ x ∈ b.t, b.w = wordP L [x] := fun b hb x hx => by
  obtain ⟨k, P, e, p, sub⟩ := pre_part 13 12 (rg r) b hb
  have l1 : P.length ≤ 12 := by
    have := int_sub_len2 (up_nd p.1) sub
    rw [rg_len] at this
    omega
  rw [e, blkP_w]
  have one : Part D [x] := ⟨List.pairwise_singleton _ _, x, List.mem_singleton.mpr rfl, fun u hu => by rw [List.mem_singleton.mp hu]; exact .base (List.mem_singleton.mpr rfl)⟩
  cases ew : wordP L P with
  | none =>
    rw [e, blkP_none ew] at hx
    exact (wordP_sub ew fun u hu => by rw [List.mem_singleton.mp hu]; exact hx).symm
  | some w =>
    rw [e, blkP_some ew] at hx
    have hx2 : x ∈ upF (keepL D L 12 P) := hx
    obtain ⟨xP, xk⟩ := (keepL_iff 12 P w l1 p ew x).mp ((upF_mem _ _).mp hx2)
    exact (xk _ one (List.mem_singleton.mpr rfl) fun u hu => by rw [List.mem_singleton.mp hu]; exact xP).symm
theorem rg_up (r : Nat) : Up (rg r) := by
  unfold rg
  refine List.pairwise_map.mpr (List.Pairwise.imp (fun {a b} h => ?_) (List.pairwise_lt_range (n := r)))
  have h : a < b := h
  show ((a : Nat) : Int) < (b : Nat)
  omega
theorem u1w {n : Nat} (h : n + 64 < cLine) : n + 1 < cLine := by omega
theorem dc2W {wa : TI} {ga : TG} {ua : TT} {wb : TI} {gb : TG} {ub : TT} {tk tv : TE} {va vb : List Nat} {σ : L2.St} {H : Hp} {Q : VK} (h : wa σ H fun J H1 => tDc2 (fun _ H R => R J H) ga ua wb gb ub tk tv va vb σ H1 Q) : tDc2 wa ga ua wb gb ub tk tv va vb σ H Q := h
/-- the entries of the dict of words -/
def entB (b : Blk) : List (Key × V) := b.t.map fun x => ((Sum.inl x : Key), optS b.w)
theorem ent_keys : ∀ bs : List Blk, (bs.flatMap entB).map (·.1) = (bs.flatMap Blk.t).map Sum.inl
  | [] => rfl
  | b :: bs => by
    rw [List.flatMap_cons, List.flatMap_cons, List.map_append, List.map_append, ent_keys bs]
    congr 1
    unfold entB
    rw [List.map_map]
    rfl
theorem val_ent {kvs : List (Key × V)} {k : Key} {v : V} (h : (k, v) ∈ kvs) (nd : (kvs.map (·.1)).Nodup) : valV kvs k = some v := by
  induction kvs with
  | nil => cases h
  | cons p kvs ih =>
    obtain ⟨n1, n2⟩ := List.nodup_cons.mp nd
    rcases List.mem_cons.mp h with e | e
    · rw [← e]
      exact valV_pos rfl
    · have ne : ¬ p.1 = k := fun z => n1 (List.mem_map.mpr ⟨_, e, z.symm⟩)
      rw [valV_neg ne]
      exact ih e n2
theorem val_no {kvs : List (Key × V)} {k : Key} (h : k ∉ kvs.map (·.1)) : valV kvs k = none := by
  induction kvs with
  | nil => rfl
  | cons p kvs ih =>
    rw [List.map_cons, List.mem_cons, not_or] at h
    rw [valV_neg fun z => h.1 z.symm]
    exact ih h.2
section
variable {P : Program} {w : World} {K : PySem.W.Frag} {mg : Str → Option Value} {base : Heap}
theorem scWoF : FnScope ["form", "words", "word", "tops", "_", "room"] ["form"] (defScope sWoF) := ⟨rfl, rfl, rfl, by decide +kernel, rfl, by decide +kernel, by decide +kernel⟩
def spWoF : Sp := fun vs H Q _ => ∃ (v : V) (D : List Pr) (L : List Cl) (r : Nat), vs = [v] ∧ FormAt H 12 v (formF D r L) ∧ r ≤ 12 ∧
  ∀ t H', Same H H' → H t = none → H' t = some (.lst ((rg r).map fun x => optS (wordP L [x]))) → Q (.ref t) H'
theorem ok_wof2 {f f1 : Addr} {fd fd1 : FuncData} (F : Fun K "words_by_form" "words_by_form" sWoF f fd) (T : Bi mg) (d_blocks : Df P w K mg base "blocks" ["form"] 15 (spBlc 13) f1 fd1) : FnOk P w K mg base CX0 16 f fd ["form"] spWoF := by
  refine F.ok scWoF (fun vs H Q E h => ?_) (fun cdv A0 outer s H vs Q E hr h => ?_)
  · obtain ⟨v, D, L, r, rfl, _⟩ := h
    rfl
  · obtain ⟨v, D, L, r, rfl, fm, r12, ret⟩ := h
    refine ⟨_, (pss_cons (ps_set (i := 1) scWoF.nd rfl (Or.inr rfl) (pe_dc2 (own := [("word", 2), ("tops", 3), ("_", 4), ("room", 5)]) (vb := [5]) (ga := gTup K 3 (gCons (gName 2) (gCons (gName 3) (gCons (gName 4) gNil)))) (gb := gName 5) (wb := iTup K (tVar 3)) (tk := tVar 5) (tv := tVar 2) (by rfl) scWoF.nd (pi_list (pe_call d_blocks.ok (hr.mono (by decide)) (by rfl) d_blocks.at_ d_blocks.kp d_blocks.b .nil pass0 (pa_cons (pv 0) pa_nil))) (blkOk_by (N := ["form", "words", "word", "tops", "_", "room"]) (sc := defScope sWoF) (by decide +kernel)) (by decide) (fun _ _ _ _ _ => pg_tup rfl (pgs_cons (pg_name (i := 2) scWoF.nd rfl (Or.inl rfl)) (pgs_cons (pg_name (i := 3) scWoF.nd rfl (Or.inl rfl)) (pgs_cons (pg_name (i := 4) scWoF.nd rfl (Or.inl rfl)) pgs_nil)))) (fun _ _ _ _ _ => pts_nil) (fun _ _ _ _ _ => (pi_tup (pv 3))) (fun _ _ _ _ _ => pg_name (i := 5) scWoF.nd rfl (Or.inl rfl)) (fun _ _ _ _ _ => pts_nil) (fun _ _ _ _ _ => (pv 5)) (fun _ _ _ _ _ => (pv 2))))
      (pss_one (ps_ret (pe_lc (own := [("room", 5)]) (te := tDGet (tVar 1) (tVar 5)) (by rfl) scWoF.nd (pi_list (pe_callB (call_sortedDI rfl) (by rfl) T.sorted (by decide +kernel) (pa_cons (pv 1) pa_nil))) (blkOk_by (N := ["form", "words", "word", "tops", "_", "room"]) (sc := defScope sWoF) (by decide +kernel)) (fun _ _ _ _ _ => pg_name (i := 5) scWoF.nd rfl (Or.inl rfl)) (fun _ _ _ _ _ => pts_nil) (fun _ _ _ _ _ => (pe_dget (u1w hr.units) (pv 1) (pv 5) (fun _ _ => rfl))))))), ?_⟩
    have fm13 : FormAt H 13 v (formF D r L) := by
      obtain ⟨a, xs, e, h1, h2⟩ := fm
      exact ⟨a, xs, e, h1, h2.up (by decide)⟩
    have bl12 : (preF 13 (formF D r L)).length ≤ 12 := by
      have := (pre_rlen (D := D) (L := L) 13 12 (rg r)).2
      rw [rg_len] at this
      unfold formF
      omega
    obtain ⟨nd, mem⟩ := tops_perm (D := D) (L := L) r12
    have tw := top_word (D := D) (L := L) r12
    obtain ⟨B, eB⟩ : ∃ B, B = preF 13 (formF D r L) := ⟨_, rfl⟩
    rw [← eB] at bl12 nd mem tw
    have tl12 : (B.flatMap Blk.t).length ≤ 12 := by
      have := (pre_rlen (D := D) (L := L) 13 12 (rg r)).1
      rw [rg_len] at this
      rw [eB]
      unfold formF
      omega
    refine sq1 fun N hN => ?_
    walk_at "rd"
    refine dc2W ?_
    walk_at "rd"
    refine ⟨v, _, rfl, fm13, Nat.le_refl _, by rw [← eB]; omega, fun ws t H1 s1 nt ht pw => ⟨t, rfl, ⟨_, SqL.of ht⟩, ?_⟩⟩
    rw [← eB] at pw
    have wl := Paired.length pw
    intro d nd0
    refine ⟨fun j m Hx => m = B.length - j ∧ j ≤ B.length ∧ Same H1 Hx ∧ Hx d = some (.dK ((B.take j).flatMap entB)), ⟨_, rfl, Nat.zero_le _, same_upd nd0, upd_same⟩, ?_⟩
    rintro j mm Hx ⟨rfl, hj, sx, hD⟩
    by_cases lt : j < B.length
    · obtain ⟨b, gb⟩ : ∃ b, B[j]? = some b := ⟨_, List.getElem?_eq_getElem lt⟩
      obtain ⟨x0, gx0⟩ : ∃ x, ws[j]? = some x := ⟨_, List.getElem?_eq_getElem (by omega : j < ws.length)⟩
      have tk : B.take (j + 1) = B.take j ++ [b] := by rw [List.take_add_one, gb]; rfl
      have eT : B.flatMap Blk.t = (B.take j).flatMap Blk.t ++ (b.t ++ (B.drop (j + 1)).flatMap Blk.t) := by
        have e : B.flatMap Blk.t = (B.take (j + 1)).flatMap Blk.t ++ (B.drop (j + 1)).flatMap Blk.t := by
          rw [← List.flatMap_append, List.take_append_drop]
        rw [tk, List.flatMap_append, List.flatMap_cons, List.flatMap_nil, List.append_nil, List.append_assoc] at e
        exact e
      refine .inr ⟨⟨ws, x0, SqL.of (sx _ _ ht), gx0⟩, fun H' => Same H1 H' ∧ H' d = some (.dK ((B.take (j + 1)).flatMap entB)), fun H' q => ⟨_, by omega, rfl, lt, q.1, q.2⟩, ?_⟩
      rintro v' H' ⟨rfl, ev⟩
      have e2 := ev _ (SqL.of (sx _ _ ht))
      obtain ⟨b', gb', bv⟩ := lget pw e2
      rw [gb] at gb'
      have eb := Option.some.inj gb'
      subst eb
      obtain ⟨tb, tt, ti, us, rfl, h1, h2, h3, h4, h5⟩ := bv.ex
      rw [tk, List.flatMap_append, List.flatMap_cons, List.flatMap_nil, List.append_nil]
      simp only [wipe]
      walk_at "rd"
      have sx' : Same H1 H' := sx
      have h2x := sx' _ _ h2
      refine ⟨_, SqT.of (sx' _ _ h1), rfl, _, _, rfl, _, _, rfl, _, _, rfl, rfl, ?_⟩
      rw [if_pos trivial]
      refine ⟨.ref tt, rfl, tt, rfl, ⟨_, SqT.of h2x⟩, ?_⟩
      have enb : entB b = b.t.map fun x => ((Sum.inl x : Key), optS b.w) := rfl
      refine ⟨fun k m Hy => m = b.t.length - k ∧ k ≤ b.t.length ∧ Same H1 Hy ∧ Hy d = some (.dK ((B.take j).flatMap entB ++ (b.t.take k).map fun x => ((Sum.inl x : Key), optS b.w))), ⟨_, rfl, Nat.zero_le _, sx', by rw [List.take_zero, List.map_nil, List.append_nil]; exact hD⟩, ?_⟩
      rintro k mk Hy ⟨rfl, hk, sy, hDy⟩
      have h2y := sy _ _ h2
      by_cases lk : k < b.t.length
      · obtain ⟨u, eu⟩ : ∃ u, b.t[k]? = some u := ⟨_, List.getElem?_eq_getElem lk⟩
        have tk2 : b.t.take (k + 1) = b.t.take k ++ [u] := by rw [List.take_add_one, eu]; rfl
        refine .inr ⟨⟨_, .int u, SqT.of h2y, by rw [List.getElem?_map, eu]; rfl⟩, fun H2 => Same H1 H2 ∧ H2 d = some (.dK ((B.take j).flatMap entB ++ (b.t.take (k + 1)).map fun x => ((Sum.inl x : Key), optS b.w))), fun H2 q => ⟨_, by omega, rfl, lk, q.1, q.2⟩, ?_⟩
        rintro x2 H3 ⟨rfl, ev2⟩
        have e3 := ev2 _ (SqT.of h2y)
        rw [List.getElem?_map, eu] at e3
        have e4 : V.int u = x2 := Option.some.inj e3
        subst e4
        have no : (Sum.inl u : Key) ∉ ((B.take j).flatMap entB ++ (b.t.take k).map fun x => ((Sum.inl x : Key), optS b.w)).map (·.1) := by
          have ek : ((b.t.take k).map fun x => ((Sum.inl x : Key), optS b.w)).map (·.1) = (b.t.take k).map Sum.inl := by rw [List.map_map]; rfl
          rw [List.map_append, ent_keys, ek, ← List.map_append]
          intro z
          obtain ⟨y, hy, ey⟩ := List.mem_map.mp z
          have ey : y = u := Sum.inl.inj ey
          subst ey
          have nd2 := nd
          rw [eT, ← List.take_append_drop k b.t, List.append_assoc, ← List.append_assoc] at nd2
          have hd : y ∈ b.t.drop k ++ (B.drop (j + 1)).flatMap Blk.t := by
            refine List.mem_append_left _ (List.mem_of_getElem? (i := 0) ?_)
            rw [List.getElem?_drop]
            exact eu
          exact (List.nodup_append.mp nd2).2.2 y hy y hd rfl
        have vn := val_no no
        refine iteT (B := True) ?_
        refine ⟨_, Sum.inl u, rfl, hDy, len_big ?_, same_ch sy nd0, ?_⟩
        · have e5 := congrArg List.length (ent_keys (B.take j))
          rw [List.length_map, List.length_map] at e5
          have e6 : ((B.take j).flatMap Blk.t).length + b.t.length ≤ 12 := by
            have := congrArg List.length eT
            rw [List.length_append, List.length_append] at this
            omega
          rw [List.length_append, List.length_map, List.length_take, e5]
          omega
        · rw [upd_same, putK_new _ vn, tk2, List.map_append, ← List.append_assoc]
          rfl
      · refine .inl ⟨⟨_, SqT.of h2y, by rw [List.length_map]; omega⟩, sy, ?_⟩
        have et : b.t.take k = b.t := List.take_of_length_le (by omega)
        rw [et] at hDy
        exact hDy
    · refine .inl ⟨⟨ws, SqL.of (sx _ _ ht), by omega⟩, ?_⟩
      rw [List.take_of_length_le (by omega)] at hD
      refine hN _ _ ?_
      clear hN
      have s02 := s1.trans sx
      walk_at "rd"
      refine lcW ?_
      walk_at "rd"
      have ek := ent_keys B
      refine ⟨_, .inl hD, B.flatMap Blk.t, ek, by omega, fun ys p pm so np => ?_⟩
      have ey : ys = rg r := by
        have upy := up_of pm nd so
        refine up_uniq upy (rg_up r) fun x => ?_
        exact pm.mem_iff.trans (mem x)
      subst ey
      have s3 := same_upd (o := HO.lst ((rg r).map V.int)) np
      have hp := upd_same (H := Hx) (a := p) (o := HO.lst ((rg r).map V.int))
      have hD3 := s3 _ _ hD
      generalize upd Hx p (HO.lst ((rg r).map V.int)) = H3 at s3 hp hD3 ⊢
      have ndk : ((B.flatMap entB).map (·.1)).Nodup := by
        rw [ek]
        exact List.pairwise_map.mpr (List.Pairwise.imp (fun {a b} h z => h (Sum.inl.inj z)) nd)
      have vw : ∀ x ∈ rg r, valV (B.flatMap entB) (Sum.inl x : Key) = some (optS (wordP L [x])) := fun x hx => by
        obtain ⟨b, hb, hxb⟩ := List.mem_flatMap.mp ((mem x).mpr hx)
        refine val_ent (List.mem_flatMap.mpr ⟨b, hb, ?_⟩) ndk
        rw [← tw b hb x hxb]
        exact List.mem_map.mpr ⟨x, hxb, rfl⟩
      refine ⟨⟨_, SqL.of hp⟩, gc_list (fun _ v (b : V) => v = b) (fun _ _ _ _ h _ => h) (fun j => (rg r)[j]?.bind fun x => some (optS (wordP L [x]))) hp (by rw [List.length_map, rg_len]; omega) (fun j x Hx A B0 gx sx2 hA hB => ?_) fun o ys H4 s4 no ho pr => ?_⟩
      · obtain ⟨z, gz, rfl⟩ : ∃ z, (rg r)[j]? = some z ∧ x = V.int z := by
          rw [List.getElem?_map] at gx
          cases e : (rg r)[j]? with
          | none => rw [e] at gx; cases gx
          | some u => rw [e] at gx; exact ⟨u, rfl, (Option.some.inj gx).symm⟩
        unfold tDGet
        walk_at "rd"
        rw [if_pos trivial]
        refine ⟨_, ?_, hA (optS (wordP L [z])) _ Hx (by rw [gz]; rfl) (Same.refl _) rfl⟩
        have h := DGet.k (k := Sum.inl z) (sx2 _ _ hD3)
        rw [vw z (List.mem_of_getElem? gz)] at h
        exact h
      · rw [List.length_map, fm_range (L := rg r) (fun x => some (optS (wordP L [x]))), List.filterMap_eq_map'] at pr
        have ey : ys = (rg r).map fun x => optS (wordP L [x]) := by
          have : ∀ {us vs : List V}, Paired (fun (v b : V) => v = b) us vs → us = vs := fun {us vs} h => by
            induction h with
            | nil => rfl
            | cons r _ ih => rw [r, ih]
          exact this pr
        rw [ey] at ho
        exact ret o H4 (s02.trans (s3.trans s4)) ((s02.trans s3).free no) ho
end

/-! ### called_rooms, called_by_form, obeys_pairs, keeps_form -/
abbrev sCrm : Stmt := topS 7
abbrev sCbf : Stmt := topS 35
theorem sm_none {H H1 : Hp} {t : Addr} (s : Same H H1) (n : H1 t = none) : H t = none := by
  cases e : H t with
  | none => rfl
  | some o =>
    rw [s _ _ e] at n
    cases n
/-- the rooms with a word -/
def calF (ws : List (Option Str)) : List Int := ((List.range ws.length).filter fun i => (ws[i]?.join).isSome).map fun i : Nat => (i : Int)
section
variable {P : Program} {w : World} {K : PySem.W.Frag} {mg : Str → Option Value} {base : Heap}
theorem scCrm : FnScope ["words", "room", "word"] ["words"] (defScope sCrm) := ⟨rfl, rfl, rfl, by decide +kernel, rfl, by decide +kernel, by decide +kernel⟩
def spCrm : Sp := fun vs H Q _ => ∃ (l : Addr) (ws : List (Option Str)), vs = [.ref l] ∧ H l = some (.lst (ws.map optS)) ∧ ws.length ≤ 1000 ∧ ∀ t H', Same H H' → H t = none → H' t = some (.lst ((calF ws).map V.int)) → Q (.ref t) H'
theorem ok_crm {f : Addr} {fd : FuncData} (F : Fun K "called_rooms" "called_rooms" sCrm f fd) (T : Bi mg) : FnOk P w K mg base CX0 1 f fd ["words"] spCrm := by
  refine F.ok scCrm (fun vs H Q E h => ?_) (fun cdv A0 outer s H vs Q E hr h => ?_)
  · obtain ⟨l, ws, rfl, _⟩ := h
    rfl
  · obtain ⟨l, ws, rfl, hl, len, ret⟩ := h
    refine ⟨_, (pss_one (ps_ret (pe_lc (own := [("room", 1), ("word", 2)]) (g := gTup K 2 (gCons (gName 1) (gCons (gName 2) gNil))) (by rfl) scCrm.nd (pi_enum (by rfl) T.enumerate (pa_cons (pv 0) pa_nil)) (blkOk_by (N := ["words", "room", "word"]) (sc := defScope sCrm) (by decide +kernel)) (fun _ _ _ _ _ => pg_tup rfl (pgs_cons (pg_name (i := 1) scCrm.nd rfl (Or.inl rfl)) (pgs_cons (pg_name (i := 2) scCrm.nd rfl (Or.inl rfl)) pgs_nil))) (fun _ _ _ _ _ => (pts_one (pt_cmpR op_notN (pv 2) pe_non (nomark _)))) (fun _ _ _ _ _ => (pv 1))))), ?_⟩
    walk_at "rd"
    refine lcW ?_
    walk_at "rd"
    refine ⟨_, rfl, l, ws.map optS, rfl, SqL.of hl, fun c nc => ?_⟩
    obtain ⟨Pv, hPv⟩ : ∃ Pv : Nat → Hp → Prop, Pv = (fun i H' => Same H H' ∧ H' c = some (.lst ((((List.range i).filter fun j => (ws[j]?.join).isSome).map fun j : Nat => (j : Int)).map V.int))) := ⟨_, rfl⟩
    refine lc_it (walk_enum (xs := ws.map optS)) Pv (by rw [hPv]; exact ⟨same_upd nc, upd_same⟩) (fun i H' _ pv => by rw [hPv] at pv; exact SqL.of (pv.1 _ _ hl)) (fun i x Hx H' hi pv y => ?_) (fun H' pv => ?_)
    · rw [List.length_map] at hi
      have nxt : ∀ H', Same H H' → H' c = some (.lst ((((List.range (i + 1)).filter fun j => (ws[j]?.join).isSome).map fun j : Nat => (j : Int)).map V.int)) → Pv (i + 1) H' := fun H' h1 h2 => by
        rw [hPv]
        exact ⟨h1, h2⟩
      rw [hPv] at pv
      obtain ⟨sm, hc⟩ := pv
      obtain ⟨T0, x1, y1, rfl, nT, rfl, gx, gy⟩ := y
      obtain ⟨o, ho⟩ : ∃ o, ws[i]? = some o := ⟨ws[i], List.getElem?_eq_getElem hi⟩
      have ex : x1 = V.int (i : Nat) := (Option.some.inj gx).symm
      have ey : y1 = optS o := by
        have gy2 : (ws.map optS)[i]? = some y1 := gy
        rw [List.getElem?_map, ho] at gy2
        exact (Option.some.inj gy2).symm
      subst ex
      subst ey
      have ncT : c ≠ T0 := ne_of_none hc nT
      have rs : (((List.range (i + 1)).filter fun j => (ws[j]?.join).isSome).map fun j : Nat => (j : Int)) = (((List.range i).filter fun j => (ws[j]?.join).isSome).map fun j : Nat => (j : Int)) ++ (if o.isSome then [(i : Int)] else []) := by
        rw [List.range_succ, List.filter_append, List.map_append]
        congr 1
        rw [List.filter_cons, ho, List.filter_nil]
        cases o <;> rfl
      have rl : ((((List.range i).filter fun j => (ws[j]?.join).isSome).map fun j : Nat => (j : Int)).map V.int).length ≤ i := by
        rw [List.length_map, List.length_map]
        have := List.length_filter_le (fun j => (ws[j]?.join).isSome) (List.range i)
        rw [List.length_range] at this
        exact this
      simp only [wipe]
      walk_at "rd"
      refine ⟨_, SqT.of upd_same, rfl, _, _, rfl, _, _, rfl, ?_⟩
      refine ⟨rfl, ?_⟩
      cases o with
      | none =>
        refine nxt _ (sm.trans (same_upd nT)) ?_
        rw [upd_ne ncT, rs]
        show _ = some (HO.lst ((_ ++ []).map V.int))
        rw [List.append_nil]
        exact hc
      | some z =>
        refine ⟨_, (upd_ne ncT).trans hc, len_big (by omega), nxt _ (same_ch (sm.trans (same_upd nT)) nc) ?_⟩
        rw [upd_same, rs]
        show _ = some (HO.lst ((_ ++ [(i : Int)]).map V.int))
        rw [List.map_append]
        rfl
    · rw [hPv] at pv
      obtain ⟨sm, hc⟩ := pv
      rw [List.length_map] at hc
      exact ret c _ sm nc hc
/-- the called rooms of a log -/
def cldF (r : Nat) (L : List Cl) : List Int := (rg r).filter fun x => (wordP L [x]).isSome
theorem cal_rg (r : Nat) (L : List Cl) : calF ((rg r).map fun x => wordP L [x]) = cldF r L := by
  unfold calF cldF rg
  rw [List.length_map, List.length_map, List.length_range, List.filter_map]
  congr 1
  refine List.filter_congr fun i hi => ?_
  have := List.mem_range.mp hi
  rw [List.getElem?_map, List.getElem?_map, List.getElem?_range this]
  rfl
theorem cld_up (r : Nat) (L : List Cl) : Up (cldF r L) := List.Pairwise.filter _ (rg_up r)
theorem cld_mem {r : Nat} {L : List Cl} {x : Int} : x ∈ cldF r L ↔ x ∈ rg r ∧ wordP L [x] ≠ none := by
  unfold cldF
  rw [List.mem_filter]
  cases wordP L [x] <;> simp
theorem scCbf : FnScope ["form"] ["form"] (defScope sCbf) := ⟨rfl, rfl, rfl, by decide +kernel, rfl, by decide +kernel, by decide +kernel⟩
def spCbf : Sp := fun vs H Q _ => ∃ (v : V) (D : List Pr) (L : List Cl) (r : Nat), vs = [v] ∧ FormAt H 12 v (formF D r L) ∧ r ≤ 12 ∧ ∀ t H', Same H H' → H t = none → H' t = some (.lst ((cldF r L).map V.int)) → Q (.ref t) H'
theorem ok_cbf {f f1 f2 : Addr} {fd fd1 fd2 : FuncData} (F : Fun K "called_by_form" "called_by_form" sCbf f fd) (T : Bi mg) (d_words_by_form : Df P w K mg base "words_by_form" ["form"] 16 spWoF f1 fd1) (d_called_rooms : Df P w K mg base "called_rooms" ["words"] 1 spCrm f2 fd2) : FnOk P w K mg base CX0 17 f fd ["form"] spCbf := by
  refine F.ok scCbf (fun vs H Q E h => ?_) (fun cdv A0 outer s H vs Q E hr h => ?_)
  · obtain ⟨v, D, L, r, rfl, _⟩ := h
    rfl
  · obtain ⟨v, D, L, r, rfl, hf, r12, ret⟩ := h
    refine ⟨_, (pss_one (ps_ret (pe_call d_called_rooms.ok (hr.mono (by decide)) (by rfl) d_called_rooms.at_ d_called_rooms.kp d_called_rooms.b .nil pass0 (pa_cons (pe_call d_words_by_form.ok (hr.mono (by decide)) (by rfl) d_words_by_form.at_ d_words_by_form.kp d_words_by_form.b .nil pass0 (pa_cons (pv 0) pa_nil)) pa_nil)))), ?_⟩
    walk_at "rd"
    refine ⟨v, D, L, r, rfl, hf, r12, fun t1 H1 s1 n1 h1 => ?_⟩
    refine ⟨t1, (rg r).map fun x => wordP L [x], rfl, (by rw [List.map_map]; exact h1), (by rw [List.length_map, rg_len]; omega), fun t H2 s2 n2 h2 => ?_⟩
    rw [cal_rg] at h2
    exact ret t H2 (s1.trans s2) (sm_none s1 n2) h2
end

/-! ### sorted(xs, key=len), xs a list of tuples -/
def leN (f : V → Nat) (a b : V) : Bool := decide ((f a : Int) ≤ (f b : Int))
def tSortLen (K : PySem.W.Frag) (te : TE) : TE := fun σ H Q => te σ H fun x H1 => ∃ (a : Addr) (xs : List V) (f : V → Nat), x = .ref a ∧ SqL K H1 a xs ∧ (∀ y ∈ xs, ∃ t ys, y = V.ref t ∧ SqT K H1 t ys ∧ ys.length = f y) ∧
  ∀ p, H1 p = none → Q (.ref p) (upd H1 p (.lst (xs.mergeSort (leN f))))
theorem vals_each : ∀ {xs : List V} {us : List Value}, Vals xs us → PySem.W.EachIs (fun u x => RelV x u) us xs
  | _, _, .nil => .nil
  | _, _, .cons r t => .cons r (vals_each t)
theorem each_vals : ∀ {us : List Value} {xs : List V}, PySem.W.EachIs (fun u x => RelV x u) us xs → Vals xs us
  | _, _, .nil => .nil
  | _, _, .cons r t => .cons r (each_vals t)
theorem pe_sortLen {X : Cx} {te : TE} {e : Expr} {p p2 kpos pos : Pos} (hu : X.A.units + 64 < cLine) (hg : Gl X "sorted") (hm : X.mg "sorted" = none) (hg2 : Gl X "len") (hm2 : X.mg "len" = none) (he : PE X e te)
    (b0 : starEach [e] X.env = (false, eval e X.env) :: starEach [] X.env := by rfl) (b1 : backTo pos (starEach [e] X.env) = (false, eval e X.env) :: backTo pos (starEach [] X.env) := by rfl) (b2 : (backTo pos (starEach [e] X.env)).any (·.1) = false := by rfl) :
    PE X (.Call (.Name "sorted" p) [e] [⟨some "key", .Name "len" p2, kpos⟩] pos) (tSortLen X.K te) := by
  refine ⟨fun pins s σ H Q I h => ?_⟩
  refine wpAny_Call_Name_kw (ld_blt I hg hm boot_sorted ?_)
  refine PyProof.Rows.callWith_kw ?_ b1 b2
  refine thn ((pa_cons he pa_nil b0).run pos pins s σ H (fun vs H1 => match vs with
    | [x] => ∃ (a : Addr) (xs : List V) (f : V → Nat), x = .ref a ∧ SqL X.K H1 a xs ∧ (∀ y ∈ xs, ∃ t ys, y = V.ref t ∧ SqT X.K H1 t ys ∧ ys.length = f y) ∧
    ∀ p, H1 p = none → Q (.ref p) (upd H1 p (.lst (xs.mergeSort (leN f))))
    | _ => False) I h) ?_
  rintro us s1 ⟨vs, H1, I1, r1, hv⟩
  match vs, r1, hv with
  | [x], r1, ⟨a, xs, f, ex, hs, hx, q⟩ => ?_
  subst ex
  obtain ⟨u, rfl, ru⟩ := vals1 r1
  cases ru
  show wpAny _ _ (evalAll [(do let v ← eval (.Name "len" p2) X.env; standAt pos; pure v)]) _ _ _
  refine wpAny_evalAll_cons (wpAny_bind (ld_blt I1 hg2 hm2 boot_len (wpAny_bind (wpAny_standAt (wpAny_pure (wpAny_evalAll_nil ?_))))))
  show wpAny _ _ (call (.builtin "sorted") [.ref a] [(Str.ofString "key", .builtin "len")]) _ _ _
  obtain ⟨its, rv, hl, hz⟩ := I1.list hs
  have each := vals_each rv
  refine PySem.W.sorted_key_data (b := false) (R := fun u x => RelV x u) (bs := xs) (fun x => .int (f x)) hl.isList each (PySem.W.AllAlike.of fun _ _ => by simp [PySem.W.alike]) (PySem.W.Sortable.others fun _ => ⟨by simp, by simp⟩) hz (fun x _ => ?_) (PyProof.Rows.ksk_s1 _ _) (fun _ => PyProof.Rows.ksk_l1 _ _) (fun _ => PyProof.Rows.ksk_t4 _ _) (fun v x rx hxm h tk kp => ?_) (fun out c h' tk kp hn hD _ eo => ?_)
  · show X.A.units + 2 + 0 < cLine
    omega
  · obtain ⟨t, ys, rfl, ht, e⟩ := hx x hxm
    cases (show v = Value.ref t from rx)
    obtain ⟨its2, rv2, ⟨o, ho, hc, n, hd⟩, hz2⟩ := I1.tuple ht
    have hlen := rv2.length
    have hn := line63
    refine PyProof.Rows.len_tuple (items := its2.toArray) ⟨o, kp _ _ ho, hc, n, hd⟩ (by simp only [List.size_toArray] <;> omega) ⟨h, _, rfl, fun _ _ z => z, ?_⟩
    rw [List.size_toArray, ← hlen, e]
    exact .int _ _
  · have hv := each_vals eo
    have ex : xs.mergeSort (PySem.W.dataLe false fun x => PyData.int (f x)) = xs.mergeSort (leN f) := by
      rw [PySem.W.dataLe_int]
      rfl
    rw [ex] at hv
    refine ⟨.ref (s1.heap.objs.size + 1), upd H1 (s1.heap.objs.size + 1) (.lst (xs.mergeSort (leN f))), I1.laid (t' := tk) kp (Nat.le_succ _) ⟨?_, out, c, hv, hD⟩, rfl, q _ (I1.hok.fresh (Nat.le_succ _))⟩
    rw [List.length_mergeSort]
    exact hz
/-! ### sorted(xs), xs a list of data -/
def rSortD (K : PySem.W.Frag) : List V → Hp → VK → Prop := fun vs H Q => ∃ (a : Addr) (xs : List V) (enc : V → PyData), vs = [V.ref a] ∧ SqL K H a xs ∧ (∀ y ∈ xs, Dp K H y (enc y) ∧ (enc y).depth ≤ 8 ∧ ∃ u r, enc y = .tuple (u :: r)) ∧ (∀ x ∈ xs, ∀ y ∈ xs, PySem.W.alike (enc x) (enc y) = true) ∧
  ∀ p, H p = none → Q (.ref p) (upd H p (.lst (xs.mergeSort (PySem.W.dataLe false enc))))
theorem cr_sortD {X : Cx} (hu : X.A.units + 64 < cLine) : CallR X (.builtin "sorted") (rSortD X.K) := by
  intro pins s σ H vs us Q I r h
  obtain ⟨a, xs, enc, rfl, hs, hx, hal, q⟩ := h
  obtain ⟨u, rfl, ru⟩ := vals1 r
  cases ru
  obtain ⟨its, rv, hl, hz⟩ := I.list hs
  have each := vals_each rv
  have er : PySem.W.EachIs (fun v b => ∃ as, PySem.Reads s.heap v (enc b) as) its xs := by
    have key : ∀ {us : List Value} {ys : List V}, PySem.W.EachIs (fun u x => RelV x u) us ys → (∀ y ∈ ys, y ∈ xs) → PySem.W.EachIs (fun v b => ∃ as, PySem.Reads s.heap v (enc b) as) us ys := by
      intro us ys h
      induction h with
      | nil => intro _; exact .nil
      | cons r t ih => intro hm; exact .cons (Dp.reads I _ _ _ (hx _ (hm _ List.mem_cons_self)).1 r) (ih fun y hy => hm y (List.mem_cons_of_mem _ hy))
    exact key each fun y hy => hy
  refine PySem.W.sorted_data (R := fun u x => RelV x u) (enc := enc) (bs := xs) hl.isList each er (fun d hd d' hd' => ?_) (.inl fun d hd => ?_) hz (fun x hxm => ?_) (fun out hol eo => ?_)
  · obtain ⟨x, h1, rfl⟩ := List.mem_map.mp hd
    obtain ⟨y, h2, rfl⟩ := List.mem_map.mp hd'
    exact hal x h1 y h2
  · obtain ⟨x, h1, rfl⟩ := List.mem_map.mp hd
    exact (hx x h1).2.2
  · have := (hx x hxm).2.1
    omega
  · have hv := each_vals eo
    obtain ⟨ep, he⟩ := PyProof.Rows.sortedAll_at s.heap its (List.toArray out)
    refine ⟨.ref (s.heap.objs.size + 1), upd H (s.heap.objs.size + 1) (.lst (xs.mergeSort (PySem.W.dataLe false enc))), I.laid (t' := s.toks) (fun _ _ => PyProof.Rows.sortedAll_old) (Nat.le_succ _) ⟨?_, out, ep, hv, he⟩, rfl, q _ (I.hok.fresh (Nat.le_succ _))⟩
    rw [List.length_mergeSort]
    exact hz

/-! ### sorted of a list of tuples of ints: in order -/
theorem ints_inj2 : ∀ {l m : List Int}, l.map V.int = m.map V.int → l = m
  | [], [], _ => rfl
  | [], _ :: _, h => by cases h
  | _ :: _, [], h => by cases h
  | x :: l, y :: m, h => by
    rw [List.map_cons, List.map_cons] at h
    obtain ⟨h1, h2⟩ := List.cons.inj h
    rw [V.int.inj h1, ints_inj2 h2]
theorem isR_uniq {H : Hp} {v : V} {l m : List Int} (h1 : IsR H v l) (h2 : IsR H v m) : l = m := by
  obtain ⟨t, rfl, h1⟩ := h1
  obtain ⟨u, e, h2⟩ := h2
  cases e
  rw [h1] at h2
  exact ints_inj2 (HO.tup.inj (Option.some.inj h2))
open Classical in
noncomputable def decT (H : Hp) (y : V) : List Int := if h : ∃ l, IsR H y l then Classical.choose h else []
theorem decT_eq {H : Hp} {y : V} {l : List Int} (h : IsR H y l) : decT H y = l := by
  have hx : ∃ l, IsR H y l := ⟨l, h⟩
  unfold decT
  rw [dif_pos hx]
  exact isR_uniq (Classical.choose_spec hx) h
theorem rl_dec {H : Hp} : ∀ {xs : List V} {L : List (List Int)}, RL H xs L → xs.map (decT H) = L ∧ ∀ y ∈ xs, IsR H y (decT H y)
  | _, _, .nil => ⟨rfl, fun y h => by cases h⟩
  | _, _, .cons r t => by
    obtain ⟨e, h⟩ := rl_dec t
    refine ⟨by rw [List.map_cons, decT_eq r, e], fun y hy => ?_⟩
    rcases List.mem_cons.mp hy with rfl | hy
    · rw [decT_eq r]
      exact r
    · exact h y hy
theorem rl_of_dec {H : Hp} : ∀ {xs : List V}, (∀ y ∈ xs, IsR H y (decT H y)) → RL H xs (xs.map (decT H))
  | [], _ => .nil
  | y :: xs, h => .cons (h y List.mem_cons_self) (rl_of_dec fun z hz => h z (List.mem_cons_of_mem _ hz))
theorem rl_perm {H : Hp} {xs ys : List V} {L : List (List Int)} (h : RL H xs L) (p : ys.Perm xs) : RL H ys (ys.map (decT H)) ∧ (ys.map (decT H)).Perm L := by
  obtain ⟨e, hm⟩ := rl_dec h
  refine ⟨rl_of_dec fun y hy => hm y (p.mem_iff.mp hy), ?_⟩
  rw [← e]
  exact p.map _
theorem sort_T {K : PySem.W.Frag} {H : Hp} {a : Addr} {xs : List V} {L : List (List Int)} {Q : VK} (ha : H a = some (.lst xs)) (tl : TL H xs L) (ne : ∀ l ∈ L, l ≠ [])
    (q : ∀ p ys L2 H', Same H H' → H p = none → H' p = some (.lst ys) → L2.Perm L → L2.Pairwise (fun a b => ¬ ltL b a) → TL H' ys L2 → Q (.ref p) H') : rSortD K [V.ref a] H Q := by
  have rl : RL H xs L := tl
  obtain ⟨e, hm⟩ := rl_dec rl
  refine ⟨a, xs, fun y => dataT (decT H y), rfl, SqL.of ha, fun y hy => ?_, fun x hx y hy => alike_T _ _, fun p np => ?_⟩
  · obtain ⟨t, et, ht⟩ := hm y hy
    rw [et] at ht ⊢
    refine ⟨.tup (SqT.of ht) (dp_ints _), ?_, ?_⟩
    · show PyData.depthAll ((decT H (V.ref t)).map PyData.int) + 1 ≤ 8
      rw [dep_ints]
      decide
    · have : decT H y ∈ L := by rw [← e]; exact List.mem_map.mpr ⟨y, hy, rfl⟩
      have := ne _ this
      rw [et] at this
      cases c : decT H (V.ref t) with
      | nil => exact absurd c this
      | cons u l => exact ⟨_, _, by show PyData.tuple ((decT H (V.ref t)).map PyData.int) = _; rw [c]; rfl⟩
  · obtain ⟨h1, h2⟩ := rl_perm rl (List.mergeSort_perm xs (PySem.W.dataLe false fun y => dataT (decT H y)))
    have s := same_upd (o := HO.lst (xs.mergeSort (PySem.W.dataLe false fun y => dataT (decT H y)))) np
    refine q p _ _ _ s np upd_same h2 ?_ (show RL _ _ _ from h1.kt (KT.same s))
    refine List.pairwise_map.mpr ?_
    have := PySem.W.sort_pairwise (PySem.W.sortLe_total (PyProof.Rows.listOrd itemOrd) false fun v => PySem.W.keyToks (dataT (decT H v))) xs
    refine List.Pairwise.imp (fun {x y} h => ?_) this
    have h : (!PySem.W.dataLt (dataT (decT H y)) (dataT (decT H x))) = true := h
    rw [Bool.not_eq_true'] at h
    intro z
    rw [(dataLt_T _ _).mpr z] at h
    cases h

/-! ### k69: _law_agreeing, _law_all_called, hides, order_matters -/
abbrev sLag : Stmt := topS 58
abbrev sLac : Stmt := topS 61
abbrev sHid : Stmt := topS 39
abbrev sOm : Stmt := topS 40
theorem wordP_wk {n : Nat} {L : List Cl} (ok : ∀ c ∈ L, wk n c.2) {R : List Int} {z : Str} (h : wordP L R = some z) : wk n z := by
  unfold wordP at h
  cases e : lastIn R L with
  | none => rw [e] at h; cases h
  | some c =>
    rw [e] at h
    have e2 : c.2 = z := Option.some.inj h
    unfold lastIn at e
    rw [← e2]
    exact ok c (List.mem_reverse.mp (List.mem_of_find?_eq_some e))
theorem path_part {D : List Pr} {ps : List Int} (h : IsP' D ps) : Part D (upF ps) := by
  obtain ⟨ne, nd, ch⟩ := h
  have l0 : 0 < ps.length := List.length_pos_iff.mpr ne
  have at_ : ∀ i, i < ps.length → ps.getD i 0 ∈ upF ps := fun i hi => by
    rw [upF_mem, List.getD_eq_getElem?_getD, List.getElem?_eq_getElem hi]
    exact List.getElem_mem hi
  have go : ∀ i, i < ps.length → Rch D (upF ps) (ps.getD 0 0) (ps.getD i 0) := fun i => by
    induction i with
    | zero => intro h; exact .base (at_ 0 h)
    | succ i ih => intro h; exact .step (ih (by omega)) (ch i h) (at_ _ h)
  refine ⟨upF_up _, ps.getD 0 0, at_ 0 l0, fun x hx => ?_⟩
  obtain ⟨i, hi, e⟩ := List.getElem_of_mem ((upF_mem _ _).mp hx)
  have := go i hi
  rw [List.getD_eq_getElem?_getD (i := i), List.getElem?_eq_getElem hi, Option.getD_some, e] at this
  exact this
theorem alk_path {D : List Pr} {r : Nat} {A A' : List Cl} (h : AlkP D (rg r) A A') {q : List Int} (p : IsP' D q) (inr : ∀ x ∈ q, 0 ≤ x ∧ x < (r : Int)) : wordP A q = wordP A' q := by
  have e : ∀ x, x ∈ upF q ↔ x ∈ q := fun x => upF_mem q x
  rw [← wordP_congr e A, ← wordP_congr e A']
  exact h _ (path_part p) fun z hz => by
    have := inr z ((e z).mp hz)
    exact mem_rg this.1 this.2
/-- two words on a path, unlike -/
def Om (D : List Pr) (A B : List Cl) (q : List Int) : Prop := IsP' D q ∧ wordP A q ≠ none ∧ wordP B q ≠ none ∧ wordP A q ≠ wordP B q
theorem om_words (A B : List Cl) (q : List Int) : wordP (A ++ B) q ≠ wordP (B ++ A) q ↔ wordP A q ≠ none ∧ wordP B q ≠ none ∧ wordP A q ≠ wordP B q := by
  rw [wordP_app, wordP_app]
  cases wordP A q with
  | none => cases wordP B q <;> simp
  | some x =>
    cases wordP B q with
    | none => simp
    | some y =>
      simp
      exact ⟨fun h e => h e.symm, fun h e => h e.symm⟩
theorem om_prt {D : List Pr} {A B : List Cl} {q : List Int} : Prt D (A ++ B) (B ++ A) q ↔ Om D A B q := by
  unfold Prt Om
  rw [om_words]
theorem om_alk {D : List Pr} {r : Nat} {A A' B B' : List Cl} (h : AlkP D (rg r) A A') (k : AlkP D (rg r) B B') (q : List Int) : (Om D A B q ∧ ∀ x ∈ q, 0 ≤ x ∧ x < (r : Int)) ↔ (Om D A' B' q ∧ ∀ x ∈ q, 0 ≤ x ∧ x < (r : Int)) := by
  unfold Om
  constructor
  · rintro ⟨⟨p, h1⟩, h2⟩
    rw [alk_path h p h2, alk_path k p h2] at h1
    exact ⟨⟨p, h1⟩, h2⟩
  · rintro ⟨⟨p, h1⟩, h2⟩
    rw [← alk_path h p h2, ← alk_path k p h2] at h1
    exact ⟨⟨p, h1⟩, h2⟩
theorem om_swap {D : List Pr} {A B : List Cl} {q : List Int} : Om D A B q ↔ Om D B A q := ⟨fun h => ⟨h.1, h.2.2.1, h.2.1, fun e => h.2.2.2 e.symm⟩, fun h => ⟨h.1, h.2.2.1, h.2.1, fun e => h.2.2.2 e.symm⟩⟩
/-- the rooms of the first log are called in the second -/
def acB (r : Nat) (A B : List Cl) : Bool := (cldF r A).all fun x => decide (x ∈ cldF r B)
section
variable {P : Program} {w : World} {K : PySem.W.Frag} {mg : Str → Option Value} {base : Heap}
theorem scHid : FnScope ["house", "first", "second"] ["house", "first", "second"] (defScope sHid) := ⟨rfl, rfl, rfl, by decide +kernel, rfl, by decide +kernel, by decide +kernel⟩
def spHid (tb_lies_in : Addr) : Sp := fun vs H Q _ => ∃ (p : Addr) (x y : V) (D : List Pr) (A B : List Cl) (r : Nat), vs = [.ref p, x, y] ∧ FormAt H 12 x (formF D r A) ∧ FormAt H 12 y (formF D r B) ∧ r ≤ 12 ∧ H tb_lies_in = some (TbO tb_lies_in) ∧ ∀ H', Same H H' → Q (.bl (acB r A B)) H'
theorem ok_hid {f f1 f2 tb_lies_in : Addr} {fd fd1 fd2 : FuncData} (F : Fun K "hides" "hides" sHid f fd) (d_called_by_form : Df P w K mg base "called_by_form" ["form"] 17 spCbf f1 fd1) (d_lies_in : Df P w K mg base "lies_in" ["rooms", "others"] 2 (spLi tb_lies_in) f2 fd2) : FnOk P w K mg base CX0 18 f fd ["house", "first", "second"] (spHid tb_lies_in) := by
  refine F.ok scHid (fun vs H Q E h => ?_) (fun cdv A0 outer s H vs Q E hr h => ?_)
  · obtain ⟨p, x, y, D, A, B, r, rfl, _⟩ := h
    rfl
  · obtain ⟨p, x, y, D, A, B, r, rfl, hx, hy, r12, ht, ret⟩ := h
    refine ⟨_, (pss_one (ps_ret (pe_call d_lies_in.ok (hr.mono (by decide)) (by rfl) d_lies_in.at_ d_lies_in.kp d_lies_in.b .nil pass0 (pa_cons (pe_call d_called_by_form.ok (hr.mono (by decide)) (by rfl) d_called_by_form.at_ d_called_by_form.kp d_called_by_form.b .nil pass0 (pa_cons (pv 1) pa_nil)) (pa_cons (pe_call d_called_by_form.ok (hr.mono (by decide)) (by rfl) d_called_by_form.at_ d_called_by_form.kp d_called_by_form.b .nil pass0 (pa_cons (pv 2) pa_nil)) pa_nil))))), ?_⟩
    walk_at "rd"
    refine ⟨x, D, A, r, rfl, hx, r12, fun t1 H1 s1 n1 h1 => ?_⟩
    refine ⟨y, D, B, r, rfl, hy.kt (KT.same s1), r12, fun t2 H2 s2 n2 h2 => ?_⟩
    have s12 := s1.trans s2
    exact ⟨t1, t2, _, _, rfl, .inl (s2 _ _ h1), .inl h2, s12 _ _ ht, ret _ s12⟩
theorem scOm : FnScope ["house", "first", "second", "early", "late"] ["house", "first", "second"] (defScope sOm) := ⟨rfl, rfl, rfl, by decide +kernel, rfl, by decide +kernel, by decide +kernel⟩
def spOm (C : Addr) : Sp := fun vs H Q _ => ∃ (p : Addr) (x y : V) (D : List Pr) (A B : List Cl) (r : Nat) (own : List Addr), vs = [.ref p, x, y] ∧ HouseAt C H p r D own ∧ FormAt H 12 x (formF D r A) ∧ FormAt H 12 y (formF D r B) ∧
  ∀ v H', Same H H' → BestOf H' (fun q => Om D A B q ∧ ∀ x ∈ q, 0 ≤ x ∧ x < (r : Int)) v → Q v H'
theorem ok_om {f C f1 f2 : Addr} {fd fd1 fd2 : FuncData} (F : Fun K "order_matters" "order_matters" sOm f fd) (d_plain_log : Df P w K mg base "plain_log" ["form"] 14 (spPlg 12) f1 fd1) (d_parting_path : Df P w K mg base "parting_path" ["house", "first", "second"] 4 (spPp C) f2 fd2) : FnOk P w K mg base CX0 15 f fd ["house", "first", "second"] (spOm C) := by
  refine F.ok scOm (fun vs H Q E h => ?_) (fun cdv A0 outer s H vs Q E hr h => ?_)
  · obtain ⟨p, x, y, D, A, B, r, own, rfl, _⟩ := h
    rfl
  · obtain ⟨p, x, y, D, A, B, r, own, rfl, hh, hx, hy, ret⟩ := h
    have r12 := hh.r12
    refine ⟨_, (pss_cons (ps_set (i := 3) scOm.nd rfl (Or.inl rfl) (pe_call d_plain_log.ok (hr.mono (by decide)) (by rfl) d_plain_log.at_ d_plain_log.kp d_plain_log.b .nil pass0 (pa_cons (pv 1) pa_nil)))
      (pss_cons (ps_set (i := 4) scOm.nd rfl (Or.inl rfl) (pe_call d_plain_log.ok (hr.mono (by decide)) (by rfl) d_plain_log.at_ d_plain_log.kp d_plain_log.b .nil pass0 (pa_cons (pv 2) pa_nil)))
      (pss_one (ps_ret (pe_call d_parting_path.ok (hr.mono (by decide)) (by rfl) d_parting_path.at_ d_parting_path.kp d_parting_path.b .nil pass0 (pa_cons (pv 0) (pa_cons (pe_op op_cat (pv 3) (pv 4)) (pa_cons (pe_op op_cat (pv 4) (pv 3)) pa_nil)))))))), ?_⟩
    walk_at "rd"
    have la : (plainF 12 (formF D r A)).length ≤ r := plain_form_len
    have lb : (plainF 12 (formF D r B)).length ≤ r := plain_form_len
    have ina : InR r (plainF 12 (formF D r A)) := fun c hc => rg_mem (plain_in 12 12 (rg r) c hc)
    have inb : InR r (plainF 12 (formF D r B)) := fun c hc => rg_mem (plain_in 12 12 (rg r) c hc)
    refine ⟨x, _, rfl, hx, by omega, fun u1 t1 H1 s1 n1 h1 g1 => ?_⟩
    refine ⟨y, _, rfl, hy.kt (KT.same s1), by omega, fun u2 t2 H2 s2 n2 h2 g2 => ?_⟩
    have h1 := s2 _ _ h1
    have g1 := g1.kt (KT.same s2)
    have ul1 := g1.len
    have ul2 := g2.len
    have s12 := s1.trans s2
    refine ⟨t1, t2, _, _, rfl, rfl, h1, h2, Nat.le_of_lt (len_big (by omega)), fun e1 ne1 => ?_⟩
    have s3 := same_upd (o := HO.lst (u1 ++ u2)) ne1
    have k1 := upd_same (H := H2) (a := e1) (o := HO.lst (u1 ++ u2))
    generalize upd H2 e1 (HO.lst (u1 ++ u2)) = H3 at s3 k1 ⊢
    refine ⟨t2, t1, _, _, rfl, rfl, s3 _ _ h2, s3 _ _ h1, Nat.le_of_lt (len_big (by omega)), fun e2 ne2 => ?_⟩
    have s4 := same_upd (o := HO.lst (u2 ++ u1)) ne2
    have k2 := upd_same (H := H3) (a := e2) (o := HO.lst (u2 ++ u1))
    generalize upd H3 e2 (HO.lst (u2 ++ u1)) = H4 at s4 k2 ⊢
    have s34 := s3.trans s4
    have s14 := s12.trans s34
    have G1 : LG H4 (u1 ++ u2) _ := paired_append (g1.kt (KT.same s34)) (g2.kt (KT.same s34))
    have G2' : LG H4 (u2 ++ u1) _ := paired_append (g2.kt (KT.same s34)) (g1.kt (KT.same s34))
    have app : ∀ {X Y : List Cl}, InR r X → InR r Y → InR r (X ++ Y) := fun hX hY c hc => (List.mem_append.mp hc).elim (hX c) (hY c)
    refine pp_of ⟨p, e1, e2, _, _, _, _, r, D, own, rfl, hh.same s14, s4 _ _ k1, G1, by rw [List.length_append]; omega, app ina inb, k2, G2', by rw [List.length_append]; omega, app inb ina, fun v H' s5 best => ret v H' (s14.trans s5) ?_⟩
    have e : ∀ q, (Prt D (plainF 12 (formF D r A) ++ plainF 12 (formF D r B)) (plainF 12 (formF D r B) ++ plainF 12 (formF D r A)) q ∧ ∀ x ∈ q, 0 ≤ x ∧ x < (r : Int)) ↔ (Om D A B q ∧ ∀ x ∈ q, 0 ≤ x ∧ x < (r : Int)) := fun q => by
      rw [om_prt]
      exact om_alk (form_plain r12) (form_plain r12) q
    rcases best with ⟨q, t, e1, e2, e3, e4⟩ | ⟨e1, e2⟩
    · exact .inl ⟨q, t, e1, e2, (e q).mp e3, fun q' hq' => e4 q' ((e q').mpr hq')⟩
    · exact .inr ⟨e1, fun q hq => e2 q ((e q).mpr hq)⟩
theorem scLag : FnScope ["one", "two", "calls", "call", "word"] ["one", "two"] (defScope sLag) := ⟨rfl, rfl, rfl, by decide +kernel, rfl, by decide +kernel, by decide +kernel⟩
def spLag : Sp := fun vs H Q _ => ∃ (a b : Addr) (us ws : List V) (A B : List Cl) (r : Nat), vs = [.ref a, .ref b] ∧ H a = some (.lst us) ∧ LG H us A ∧ H b = some (.lst ws) ∧ LG H ws B ∧ B.length ≤ 1000 ∧ InR r B ∧ (∀ c ∈ A, wk 17 c.2) ∧ (∀ c ∈ B, wk 17 c.2) ∧
  ∀ L zs t H', L.length = B.length → InR r L → (∀ c ∈ L, wk 17 c.2) → Same H H' → H t = none → H' t = some (.lst zs) → LG H' zs L → Q (.ref t) H'
theorem ok_lag {f f1 : Addr} {fd fd1 : FuncData} (F : Fun K "_law_agreeing" "_law_agreeing" sLag f fd) (d__law_word_of : Df P w K mg base "_law_word_of" ["log", "rooms"] 1 (spTopR K optW) f1 fd1) : FnOk P w K mg base CX0 2 f fd ["one", "two"] spLag := by
  refine F.ok scLag (fun vs H Q E h => ?_) (fun cdv A0 outer s H vs Q E hr h => ?_)
  · obtain ⟨a, b, us, ws, A, B, r, rfl, _⟩ := h
    rfl
  · obtain ⟨a, b, us, ws, A, B, r, rfl, ha, la, hb, lb, bl, inB, wA, wB, ret⟩ := h
    refine ⟨_, (pss_cons (ps_set (i := 2) scLag.nd rfl (Or.inl rfl) (pe_lst pa_nil))
      (pss_cons (ps_for PassesOwn.never rfl (pi_list (pv 1)) (pg_name (i := 3) scLag.nd rfl (Or.inl rfl))
      (pss_cons (ps_set (i := 4) scLag.nd rfl (Or.inl rfl) (pe_call d__law_word_of.ok (hr.mono (by decide)) (by rfl) d__law_word_of.at_ d__law_word_of.kp d__law_word_of.b .nil pass0 (pa_cons (pv 0) (pa_cons (pe_lst (pa_cons (pe_ix ix_tup (pv 3) pe_int (fun _ _ => rfl)) pa_nil)) pa_nil))))
        (pss_cons (ps_if (pt_cmpR op_isN (pv 4) pe_non (nomark _))
        (pss_one (ps_set (i := 4) scLag.nd rfl (Or.inl rfl) (pe_ix ix_tup (pv 3) pe_int (fun _ _ => rfl))))
        pss_nil)
        (pss_one (ps_expr (pe_bm PySem.F.plainAttrs_list PySem.F.slot_list_append PySem.F.type_list_append mt_append (pv 2) (pa_cons (pe_tup (pa_cons (pe_ix ix_tup (pv 3) pe_int (fun _ _ => rfl)) (pa_cons (pv 4) pa_nil))) pa_nil)))))))
      (pss_one (ps_ret (pv 2))))), ?_⟩
    walk_at "rd"
    refine ⟨by decide, fun c nc => ?_⟩
    have w0 := same_upd (o := HO.lst []) nc
    have hc0 := upd_same (H := H) (a := c) (o := HO.lst [])
    generalize upd H c (HO.lst []) = H0 at w0 hc0 ⊢
    refine for_iterW ?_
    walk_at "rd"
    obtain ⟨Pv, hPv⟩ : ∃ Pv : Nat → L2.St → Hp → Prop, Pv = (fun i σ H' => ∃ (v3 v4 : Option V) (zs : List V) (L : List Cl), σ = [some (.ref a), some (.ref b), some (.ref c), v3, v4] ∧ Same H H' ∧ H' c = some (.lst zs) ∧ LG H' zs L ∧ L.length = i ∧ InR r L ∧ ∀ c ∈ L, wk 17 c.2) := ⟨_, rfl⟩
    refine ⟨⟨_, SqL.of (w0 _ _ hb)⟩, for_list (xs := ws) Pv (by rw [hPv]; exact ⟨none, none, [], [], rfl, w0, hc0, .nil, rfl, fun c hc => (nomatch hc), fun c hc => (nomatch hc)⟩) (fun i σ H' _ pv => by rw [hPv] at pv; obtain ⟨_, _, _, _, _, sm, _⟩ := pv; exact SqL.of (sm _ _ hb)) (fun i x σ H' gx pv => ?_) (fun σ H' pv => ?_)⟩
    · rw [hPv] at pv
      obtain ⟨v3, v4, zs, L, rfl, sm, hcx, lz, ll, inL, wL⟩ := pv
      have il : i < ws.length := (List.getElem?_eq_some_iff.mp gx).1
      have wl := lb.len
      have zl := lz.len
      obtain ⟨d, gd, t, rfl, ht⟩ := pget lb gx
      have hd := List.mem_of_getElem? gd
      walk_at "rd"
      have ht := sm _ _ ht
      have done : ∀ (z : Str) (H1 : Hp), wk 17 z → Same H' H1 → tyV K "list" (V.ref c) H1 ∧ ∃ x, SqT K H1 t x ∧ ∃ x_3, atI x 0 = some x_3 ∧ 2 ≤ sizeLine ∧ ∀ (p : Addr), H1 p = none → ∃ x, upd H1 p (HO.tup [x_3, V.str z]) c = some (HO.lst x) ∧ x.length < sizeLine ∧ Pv (i + 1) [some (V.ref a), some (V.ref b), some (V.ref c), some (V.ref t), some (V.str z)] (upd (upd H1 p (HO.tup [x_3, V.str z])) c (HO.lst (x ++ [V.ref p]))) := fun z H1 hz s1 => by
        have hc1 := s1 _ _ hcx
        refine ⟨.inl ⟨rfl, _, SqL.of hc1⟩, _, SqT.of (s1 _ _ ht), _, atI_nat (j := 0) rfl, by decide, fun p np => ?_⟩
        have s2 := same_upd (o := HO.tup [V.int d.1, V.str z]) np
        have hp := upd_same (H := H1) (a := p) (o := HO.tup [V.int d.1, V.str z])
        generalize upd H1 p (HO.tup [V.int d.1, V.str z]) = H2 at s2 hp ⊢
        have hc2 := s2 _ _ hc1
        refine ⟨zs, hc2, len_big (by omega), ?_⟩
        rw [hPv]
        have kt := KT.lst (vs := zs) (o := HO.lst (zs ++ [V.ref p])) hc2
        refine ⟨_, _, zs ++ [V.ref p], L ++ [(d.1, z)], rfl, same_ch ((sm.trans s1).trans s2) nc, upd_same, ?_, by rw [List.length_append, ll]; rfl, ?_, ?_⟩
        · refine Paired.snoc ((lz.kt (KT.same (s1.trans s2))).kt kt) ⟨p, rfl, ?_⟩
          rw [upd_ne (fun e => by rw [e, hc2] at hp; cases hp)]
          exact hp
        · intro e he
          rcases List.mem_append.mp he with h | h
          · exact inL e h
          · rw [List.mem_singleton.mp h]; exact inB d hd
        · intro e he
          rcases List.mem_append.mp he with h | h
          · exact wL e h
          · rw [List.mem_singleton.mp h]; exact hz
      refine ⟨_, SqT.of ht, _, atI_nat (j := 0) rfl, by decide, fun p0 np0 => ?_⟩
      have s1 := same_upd (o := HO.lst [V.int d.1]) np0
      have hp0 := upd_same (H := H') (a := p0) (o := HO.lst [V.int d.1])
      generalize upd H' p0 (HO.lst [V.int d.1]) = H1 at s1 hp0 ⊢
      refine ⟨a, p0, us, A, [d.1], rfl, (sm.trans s1) _ _ ha, la.kt (KT.same (sm.trans s1)), .inl (SqL.of hp0), ?_⟩
      cases e : lastIn [d.1] A with
      | none =>
        show (if V.non = V.non then _ else _)
        rw [if_pos rfl]
        refine ⟨_, SqT.of (s1 _ _ ht), _, atI_nat (j := 1) rfl, done _ _ (wB d hd) s1⟩
      | some c2 =>
        show (if V.str c2.2 = V.non then _ else _)
        rw [if_neg (fun z => nomatch z)]
        refine done _ _ (wordP_wk wA (R := [d.1]) ?_) s1
        unfold wordP
        rw [e]
        rfl
    · rw [hPv] at pv
      obtain ⟨v3, v4, zs, L, rfl, sm, hcx, lz, ll, inL, wL⟩ := pv
      walk_at "rd"
      exact ret L zs c _ (by rw [ll, lb.len]) inL wL sm nc hcx lz
theorem scLac : FnScope ["rooms", "one", "two", "r"] ["rooms", "one", "two"] (defScope sLac) := ⟨rfl, rfl, rfl, by decide +kernel, rfl, by decide +kernel, by decide +kernel⟩
theorem ac_true {r : Nat} {A B : List Cl} : acB r A B = true ↔ ∀ i : Nat, i < r → wordP A [(i : Int)] ≠ none → wordP B [(i : Int)] ≠ none := by
  unfold acB
  rw [List.all_eq_true]
  constructor
  · intro h i hi ha
    have m : (i : Int) ∈ rg r := List.mem_map.mpr ⟨i, List.mem_range.mpr hi, rfl⟩
    exact (cld_mem.mp (of_decide_eq_true (h _ (cld_mem.mpr ⟨m, ha⟩)))).2
  · intro h x hx
    obtain ⟨m, ha⟩ := cld_mem.mp hx
    obtain ⟨i, hi, rfl⟩ := List.mem_map.mp m
    exact decide_eq_true (cld_mem.mpr ⟨m, h i (List.mem_range.mp hi) ha⟩)
def spLac : Sp := fun vs H Q _ => ∃ (a b : Addr) (us ws : List V) (A B : List Cl) (r : Nat), vs = [.int r, .ref a, .ref b] ∧ H a = some (.lst us) ∧ LG H us A ∧ H b = some (.lst ws) ∧ LG H ws B ∧ r ≤ 12 ∧ ∀ H', Same H H' → Q (.bl (acB r A B)) H'
theorem ok_lac {f f1 : Addr} {fd fd1 : FuncData} (F : Fun K "_law_all_called" "_law_all_called" sLac f fd) (T : Bi mg) (d__law_word_of : Df P w K mg base "_law_word_of" ["log", "rooms"] 1 (spTopR K optW) f1 fd1) : FnOk P w K mg base CX0 2 f fd ["rooms", "one", "two"] spLac := by
  refine F.ok scLac (fun vs H Q E h => ?_) (fun cdv A0 outer s H vs Q E hr h => ?_)
  · obtain ⟨a, b, us, ws, A, B, r, rfl, _⟩ := h
    rfl
  · obtain ⟨a, b, us, ws, A, B, r, rfl, ha, la, hb, lb, r12, ret⟩ := h
    refine ⟨_, (pss_cons (ps_for PassesOwn.never rfl (pi_range1 (by rfl) T.range (pa_cons (pv 0) pa_nil)) (pg_name (i := 3) scLac.nd rfl (Or.inl rfl))
      (pss_one (ps_if (PW.pt (pw_and (pt_cmpR op_notN (pe_call d__law_word_of.ok (hr.mono (by decide)) (by rfl) d__law_word_of.at_ d__law_word_of.kp d__law_word_of.b .nil pass0 (pa_cons (pv 1) (pa_cons (pe_lst (pa_cons (pv 3) pa_nil)) pa_nil))) pe_non (nomark _)) (pw_and1 (pt_cmpR op_isN (pe_call d__law_word_of.ok (hr.mono (by decide)) (by rfl) d__law_word_of.at_ d__law_word_of.kp d__law_word_of.b .nil pass0 (pa_cons (pv 2) (pa_cons (pe_lst (pa_cons (pv 3) pa_nil)) pa_nil))) pe_non (nomark _)))))
        (pss_one (ps_ret pe_bl))
        pss_nil)))
      (pss_one (ps_ret pe_bl))), ?_⟩
    walk_at "rd"
    refine for_iterW ?_
    walk_at "rd"
    obtain ⟨Pv, hPv⟩ : ∃ Pv : Nat → L2.St → Hp → Prop, Pv = (fun i σ H' => ∃ v3 : Option V, σ = [some (.int r), some (.ref a), some (.ref b), v3] ∧ Same H H' ∧ ∀ j : Nat, j < i → wordP A [(j : Int)] ≠ none → wordP B [(j : Int)] ≠ none) := ⟨_, rfl⟩
    refine ⟨by omega, by omega, for_range (lo := 0) (n := ((r : Nat) : Int).toNat) Pv (by rw [hPv]; exact ⟨none, rfl, fun _ _ e => e, fun j hj => absurd hj (by omega)⟩) (fun i σ H' hi pv => ?_) (fun σ H' pv => ?_)⟩
    · rw [hPv] at pv
      obtain ⟨v3, rfl, sm, ok⟩ := pv
      rw [Int.zero_add]
      walk_at "rd"
      have ow : ∀ (L : List Cl) (R : List Int), optW (lastIn R L) = optS (wordP L R) := fun L R => by
        unfold wordP
        cases lastIn R L <;> rfl
      have os : ∀ o : Option Str, (optS o = V.non) ↔ o = none := fun o => by cases o <;> simp [optS]
      refine ⟨by decide, fun p1 np1 => ?_⟩
      have s1 := same_upd (o := HO.lst [V.int (i : Int)]) np1
      have h1 := upd_same (H := H') (a := p1) (o := HO.lst [V.int (i : Int)])
      generalize upd H' p1 (HO.lst [V.int (i : Int)]) = H1 at s1 h1 ⊢
      have sm1 := sm.trans s1
      refine ⟨a, p1, us, A, [(i : Int)], rfl, sm1 _ _ ha, la.kt (KT.same sm1), .inl (SqL.of h1), ?_⟩
      rw [ow]
      have nxt : ∀ H2, Same H H2 → (wordP A [(i : Int)] ≠ none → wordP B [(i : Int)] ≠ none) → Pv (i + 1) [some (V.int r), some (V.ref a), some (V.ref b), some (V.int (i : Int))] H2 := fun H2 s2 h => by
        rw [hPv]
        refine ⟨_, rfl, s2, fun j hj => ?_⟩
        rcases Nat.lt_or_ge j i with c | c
        · exact ok j c
        · rw [show j = i by omega]; exact h
      by_cases c1 : wordP A [(i : Int)] = none
      · show (if (!decide (optS (wordP A [(i : Int)]) = V.non)) = true then _ else _)
        rw [c1, if_neg (show ¬ (!decide (optS none = V.non)) = true by simp [optS]), if_neg id]
        exact nxt _ sm1 fun z => absurd c1 z
      show (if (!decide (optS (wordP A [(i : Int)]) = V.non)) = true then _ else _)
      rw [if_pos (by simpa [os] using c1)]
      refine ⟨by decide, fun p2 np2 => ?_⟩
      have s2 := same_upd (o := HO.lst [V.int (i : Int)]) np2
      have h2 := upd_same (H := H1) (a := p2) (o := HO.lst [V.int (i : Int)])
      generalize upd H1 p2 (HO.lst [V.int (i : Int)]) = H2 at s2 h2 ⊢
      have sm2 := sm1.trans s2
      refine ⟨b, p2, ws, B, [(i : Int)], rfl, sm2 _ _ hb, lb.kt (KT.same sm2), .inl (SqL.of h2), ?_⟩
      rw [ow]
      show (if optS (wordP B [(i : Int)]) = V.non then _ else _)
      by_cases c2 : wordP B [(i : Int)] = none
      · rw [if_pos ((os _).mpr c2)]
        have q := ret _ sm2
        have e : acB r A B = false := by
          cases h : acB r A B with
          | false => rfl
          | true => exact absurd c2 (ac_true.mp h i (by omega) c1)
        rw [e] at q
        exact q
      · rw [if_neg (fun z => c2 ((os _).mp z))]
        exact nxt _ sm2 fun _ => c2
    · rw [hPv] at pv
      obtain ⟨v3, rfl, sm, ok⟩ := pv
      rw [Int.toNat_natCast] at ok
      walk_at "rd"
      have q := ret _ sm
      rw [ac_true.mpr ok] at q
      exact q
end

/-! ### k69: _law_longer, _law_first_apart -/
abbrev sLlo : Stmt := topS 59
abbrev sLfa : Stmt := topS 60
/-- the longer paths over the doors in O -/
def grwF (O : List Pr) (p : List Int) : List (List Int) := ((nearF (lastD p) O).filter fun y => decide (y ∉ p)).map fun y => p ++ [y]
theorem grw_snoc (O : List Pr) (d : Pr) (p : List Int) (ne : d.1 ≠ d.2) : grwF (O ++ [d]) p = grwF O p ++ ((if d.1 = lastD p ∧ d.2 ∉ p then [p ++ [d.2]] else []) ++ if d.2 = lastD p ∧ d.1 ∉ p then [p ++ [d.1]] else []) := by
  unfold grwF nearF
  rw [List.filterMap_append, List.filter_append, List.map_append]
  congr 1
  rw [List.filterMap_cons, List.filterMap_nil]
  by_cases c1 : d.1 = lastD p
  · have c2 : ¬ d.2 = lastD p := fun z => ne (c1.trans z.symm)
    rw [if_pos c1, if_neg (show ¬ (d.2 = lastD p ∧ d.1 ∉ p) from fun z => c2 z.1)]
    by_cases c3 : d.2 ∈ p
    · rw [if_neg (show ¬ (d.1 = lastD p ∧ d.2 ∉ p) from fun z => z.2 c3)]
      simp [c3]
    · rw [if_pos (show d.1 = lastD p ∧ d.2 ∉ p from ⟨c1, c3⟩)]
      simp [c3]
  · rw [if_neg c1, if_neg (show ¬ (d.1 = lastD p ∧ d.2 ∉ p) from fun z => c1 z.1)]
    by_cases c2 : d.2 = lastD p
    · rw [if_pos c2]
      by_cases c3 : d.1 ∈ p
      · rw [if_neg (show ¬ (d.2 = lastD p ∧ d.1 ∉ p) from fun z => z.2 c3)]
        simp [c3]
      · rw [if_pos (show d.2 = lastD p ∧ d.1 ∉ p from ⟨c2, c3⟩)]
        simp [c3]
    · rw [if_neg c2, if_neg (show ¬ (d.2 = lastD p ∧ d.1 ∉ p) from fun z => c2 z.1)]
      rfl
theorem grw_full (D : List Pr) (p : List Int) : grwF D p = growF D p := rfl
theorem rg_up2 (r : Nat) : Up (rg r) := by
  unfold rg
  refine List.pairwise_map.mpr (List.Pairwise.imp (fun {a b} h => ?_) (List.pairwise_lt_range (n := r)))
  show ((a : Nat) : Int) < (b : Int)
  omega
theorem sqC {G : (L2.St → Hp → Prop) → Prop} {a b : TS} {D : Ends} (h : ∀ N : L2.St → Hp → Prop, (∀ σ' H', b D σ' H' → N σ' H') → G (fun σ2 H2 => a { D with nx := N } σ2 H2)) : G (fun σ2 H2 => (tSeq a b) D σ2 H2) := h (b D) fun _ _ z => z
section
variable {P : Program} {w : World} {K : PySem.W.Frag} {mg : Str → Option Value} {base : Heap}
theorem scLlo : FnScope ["doors", "paths", "longer", "path", "a", "b"] ["doors", "paths"] (defScope sLlo) := ⟨rfl, rfl, rfl, by decide +kernel, rfl, by decide +kernel, by decide +kernel⟩
def spLlo : Sp := fun vs H Q _ => ∃ (l a : Addr) (us ps : List V) (D : List Pr) (L : List (List Int)), vs = [.ref l, .ref a] ∧ H l = some (.lst us) ∧ PL H us D ∧ H a = some (.lst ps) ∧ TL H ps L ∧ (∀ d ∈ D, d.1 ≠ d.2) ∧ (∀ p ∈ L, p ≠ [] ∧ p.length ≤ 100) ∧ (∀ i, ((L.take i).flatMap (growF D)).length ≤ 60000) ∧ D.length ≤ 100 ∧
  ∀ zs L2 t H', Same H H' → H t = none → H' t = some (.lst zs) → TL H' zs L2 → L2.Perm (L.flatMap (growF D)) → L2.Pairwise (fun a b => ¬ ltL b a) → Q (.ref t) H'
theorem ok_llo {f : Addr} {fd : FuncData} (F : Fun K "_law_longer" "_law_longer" sLlo f fd) (T : Bi mg) : FnOk P w K mg base CX0 1 f fd ["doors", "paths"] spLlo := by
  refine F.ok scLlo (fun vs H Q E h => ?_) (fun cdv A0 outer s H vs Q E hr h => ?_)
  · obtain ⟨l, a, us, ps, D, L, rfl, _⟩ := h
    rfl
  · obtain ⟨l, a, us, ps, D, L, rfl, hl, pl, ha, tl, nD, nL, bL, dl, ret⟩ := h
    refine ⟨_, (pss_cons (ps_set (i := 2) scLlo.nd rfl (Or.inl rfl) (pe_lst pa_nil))
      (pss_cons (ps_for PassesOwn.never rfl (pi_list (pv 1)) (pg_name (i := 3) scLlo.nd rfl (Or.inl rfl))
      (pss_one (ps_for PassesOwn.never rfl (pi_list (pv 0)) (pg_tup rfl (pgs_cons (pg_name (i := 4) scLlo.nd rfl (Or.inl rfl)) (pgs_cons (pg_name (i := 5) scLlo.nd rfl (Or.inl rfl)) pgs_nil)))
        (pss_cons (ps_if (PW.pt (pw_and (pt_cmpR op_eqI (pe_ix ix_tup (pv 3) (pe_un un_neg pe_int) (fun _ _ => rfl)) (pv 4) (nomark _)) (pw_and1 (pt_cmpR op_notIn_seq (pv 5) (pv 3) (by rfl)))))
          (pss_one (ps_expr (pe_bm PySem.F.plainAttrs_list PySem.F.slot_list_append PySem.F.type_list_append mt_append (pv 2) (pa_cons (pe_op op_catT (pv 3) (pe_tup (pa_cons (pv 5) pa_nil))) pa_nil))))
          pss_nil)
          (pss_one (ps_if (PW.pt (pw_and (pt_cmpR op_eqI (pe_ix ix_tup (pv 3) (pe_un un_neg pe_int) (fun _ _ => rfl)) (pv 5) (nomark _)) (pw_and1 (pt_cmpR op_notIn_seq (pv 4) (pv 3) (by rfl)))))
          (pss_one (ps_expr (pe_bm PySem.F.plainAttrs_list PySem.F.slot_list_append PySem.F.type_list_append mt_append (pv 2) (pa_cons (pe_op op_catT (pv 3) (pe_tup (pa_cons (pv 4) pa_nil))) pa_nil))))
          pss_nil))))))
      (pss_one (ps_ret (pe_callB (cr_sortD hr.units) (by rfl) T.sorted (by decide +kernel) (pa_cons (pv 2) pa_nil)))))), ?_⟩
    walk_at "rd"
    refine ⟨by decide, fun c nc => ?_⟩
    have w0 := same_upd (o := HO.lst []) nc
    have hc0 := upd_same (H := H) (a := c) (o := HO.lst [])
    generalize upd H c (HO.lst []) = H0 at w0 hc0 ⊢
    refine for_iterW ?_
    walk_at "rd"
    have pls := tl.length
    obtain ⟨Pv, hPv⟩ : ∃ Pv : Nat → L2.St → Hp → Prop, Pv = (fun i σ H' => ∃ (v3 v4 v5 : Option V) (zs : List V), σ = [some (.ref l), some (.ref a), some (.ref c), v3, v4, v5] ∧ Same H H' ∧ H' c = some (.lst zs) ∧ TL H' zs ((L.take i).flatMap (growF D))) := ⟨_, rfl⟩
    refine ⟨⟨_, SqL.of (w0 _ _ ha)⟩, for_list (xs := ps) Pv (by rw [hPv]; exact ⟨none, none, none, [], rfl, w0, hc0, .nil⟩) (fun i σ H' _ pv => by rw [hPv] at pv; obtain ⟨_, _, _, _, _, sm, _⟩ := pv; exact SqL.of (sm _ _ ha)) (fun i x σ H' gx pv => ?_) (fun σ H' pv => ?_)⟩
    · rw [hPv] at pv
      obtain ⟨v3, v4, v5, zs, rfl, sm, hcx, tz⟩ := pv
      obtain ⟨p, gp, t, rfl, ht⟩ := pget tl gx
      obtain ⟨pne, plen⟩ := nL p (List.mem_of_getElem? gp)
      refine for_iterW ?_
      walk_at "rd"
      obtain ⟨Pw, hPw⟩ : ∃ Pw : Nat → L2.St → Hp → Prop, Pw = (fun j σ H' => ∃ (v4 v5 : Option V) (zs : List V), σ = [some (.ref l), some (.ref a), some (.ref c), some (.ref t), v4, v5] ∧ Same H H' ∧ H' c = some (.lst zs) ∧ TL H' zs ((L.take i).flatMap (growF D) ++ grwF (D.take j) p)) := ⟨_, rfl⟩
      refine ⟨⟨_, SqL.of (sm _ _ hl)⟩, for_list (xs := us) Pw (by rw [hPw]; exact ⟨v4, v5, zs, rfl, sm, hcx, by rw [List.take_zero]; show TL H' zs (_ ++ []); rw [List.append_nil]; exact tz⟩) (fun j σ H' _ pw => by rw [hPw] at pw; obtain ⟨_, _, _, _, sm, _⟩ := pw; exact SqL.of (sm _ _ hl)) (fun j x σ H' gd pw => ?_) (fun σ H' pw => ?_)⟩
      · rw [hPw] at pw
        obtain ⟨v4, v5, zs, rfl, sm, hcx, tz⟩ := pw
        obtain ⟨d, gd2, td, rfl, htd⟩ := pl.get gd
        have htd := sm _ _ htd
        have ht1 := sm _ _ ht
        have zl := tz.length
        have l0 : 0 < p.length := List.length_pos_iff.mpr pne
        have lastP : ∀ {G : Hp}, G t = some (.tup (p.map V.int)) → atI (p.map V.int) (-1) = some (V.int (lastD p)) := fun {G} _ => by
          refine atI_neg (j := 0) rfl (by rw [List.length_map]; exact l0) ?_
          rw [List.length_map, Nat.sub_zero, List.getElem?_map]
          unfold lastD
          rw [List.getD_eq_getElem?_getD]
          have : p.length - 1 < p.length := by omega
          rw [List.getElem?_eq_getElem this]
          rfl
        have notin : ∀ {y : Int} {G : Hp} {R : VK}, G t = some (.tup (p.map V.int)) → R (.bl (!decide (y ∈ p))) G → rIn K true (V.int y) (V.ref t) G R := fun {y G R} hg q => by
          refine ⟨t, p.map V.int, rfl, .inr (SqT.of hg), rfl, flI p, ?_⟩
          rw [inI]
          exact q
        have grow : ∀ {y : Int} {G : Hp} {R : VK}, G t = some (.tup (p.map V.int)) → (∀ q5 G', Same G G' → G' q5 = some (.tup ((p ++ [y]).map V.int)) → R (.ref q5) G') → 1 ≤ sizeLine ∧ ∀ (q1 : Addr), G q1 = none → rCatT K (V.ref t) (V.ref q1) (upd G q1 (.tup [V.int y])) R := fun {y G R} hg q => by
          refine ⟨by decide, fun q1 nq => ?_⟩
          have g1 := same_upd (o := HO.tup [V.int y]) nq
          refine ⟨t, q1, p.map V.int, [V.int y], rfl, rfl, SqT.of (g1 _ _ hg), SqT.of upd_same, fun z => pne (List.map_eq_nil_iff.mp z), by rw [List.length_map]; exact Nat.le_of_lt (len_big (by simp; omega)), (fun z => by cases z), fun _ q5 nq5 => ?_⟩
          refine q q5 _ (g1.trans (same_upd nq5)) ?_
          rw [upd_same, List.map_append]
          rfl
        have app : ∀ {G : Hp} {zs : List V} {Ls : List (List Int)} {q5 : Addr} {U : List Int}, Same H G → G c = some (.lst zs) → TL G zs Ls → G q5 = some (.tup (U.map V.int)) → Same H (upd G c (HO.lst (zs ++ [V.ref q5]))) ∧ upd G c (HO.lst (zs ++ [V.ref q5])) c = some (.lst (zs ++ [V.ref q5])) ∧ TL (upd G c (HO.lst (zs ++ [V.ref q5]))) (zs ++ [V.ref q5]) (Ls ++ [U]) := fun {G zs Ls q5 U} sg hg tg h5 => by
          have kt := KT.lst (vs := zs) (o := HO.lst (zs ++ [V.ref q5])) hg
          refine ⟨same_ch sg nc, upd_same, Paired.snoc (Paired.mapP tg fun _ _ ⟨t, e, h⟩ => ⟨t, e, kt _ _ h⟩) ⟨q5, rfl, kt _ _ h5⟩⟩
        refine sqC (G := fun C => gTup K _ _ _ _ _ C) fun N hN => ?_
        walk_at "rd"
        refine ⟨_, SqT.of htd, rfl, _, _, rfl, _, _, rfl, rfl, ?_⟩
        have iL : i < L.length := (List.getElem?_eq_some_iff.mp gp).1
        have lb : ((L.take i).flatMap (growF D)).length + (grwF (D.take j) p).length ≤ 60200 := by
          have h1 := bL i
          have h2 : (grwF (D.take j) p).length ≤ D.length := by
            unfold grwF nearF
            rw [List.length_map]
            have e1 := List.length_filter_le (fun y => decide (y ∉ p)) ((D.take j).filterMap fun d => if d.1 = lastD p then some d.2 else if d.2 = lastD p then some d.1 else none)
            have e2 := List.length_filterMap_le (fun d : Pr => if d.1 = lastD p then some d.2 else if d.2 = lastD p then some d.1 else none) (D.take j)
            have e3 : (D.take j).length ≤ D.length := by rw [List.length_take]; omega
            omega
          omega
        have zl : zs.length ≤ 60200 := by rw [zl, List.length_append]; exact lb
        have nd := nD d (List.mem_of_getElem? gd2)
        have tk : D.take (j + 1) = D.take j ++ [d] := by rw [List.take_add_one, gd2]; rfl
        have key : ∀ (H5 : Hp) (ys : List V) (Z1 : List (List Int)), Same H H5 → H5 c = some (.lst ys) → Z1 = (if d.1 = lastD p ∧ d.2 ∉ p then [p ++ [d.2]] else []) → TL H5 ys ((L.take i).flatMap (growF D) ++ grwF (D.take j) p ++ Z1) → ys.length ≤ 60201 → N [some (V.ref l), some (V.ref a), some (V.ref c), some (V.ref t), some (V.int d.1), some (V.int d.2)] H5 := fun H5 ys Z1 s5 hc5 eZ t5 yl => by
          have ht5 := s5 _ _ ht
          refine hN _ _ ?_
          walk_at "rd"
          have fin : ∀ (H6 : Hp) (xs : List V) (Z2 : List (List Int)), Same H H6 → H6 c = some (.lst xs) → Z2 = (if d.2 = lastD p ∧ d.1 ∉ p then [p ++ [d.1]] else []) → TL H6 xs ((L.take i).flatMap (growF D) ++ grwF (D.take j) p ++ Z1 ++ Z2) → Pw (j + 1) [some (V.ref l), some (V.ref a), some (V.ref c), some (V.ref t), some (V.int d.1), some (V.int d.2)] H6 := fun H6 xs Z2 s6 hc6 eZ2 t6 => by
            rw [hPw]
            refine ⟨_, _, xs, rfl, s6, hc6, ?_⟩
            rw [tk, grw_snoc _ _ _ nd, ← eZ, ← eZ2, ← List.append_assoc, ← List.append_assoc]
            exact t6
          refine ⟨_, SqT.of ht5, _, lastP ht5, _, rfl, ?_⟩
          by_cases c1 : lastD p = d.2
          · rw [if_pos c1]
            refine notin ht5 ⟨_, rfl, ?_⟩
            by_cases c2 : d.1 ∈ p
            · rw [if_neg (by simpa using c2)]
              exact fin _ ys [] s5 hc5 (by rw [if_neg (fun z => z.2 c2)]) (by rw [List.append_nil]; exact t5)
            · rw [if_pos (by simpa using c2)]
              refine ⟨.inl ⟨rfl, _, SqL.of hc5⟩, grow ht5 fun q5 G5 g5 h5 => ?_⟩
              have hc6 := g5 _ _ hc5
              obtain ⟨k1, k2, k3⟩ := app (s5.trans g5) hc6 (t5.same g5) h5
              exact ⟨ys, hc6, len_big (by omega), fin _ _ [p ++ [d.1]] k1 k2 (by rw [if_pos ⟨c1.symm, c2⟩]) k3⟩
          · rw [if_neg c1, if_neg id]
            exact fin _ ys [] s5 hc5 (by rw [if_neg (fun z => c1 z.1.symm)]) (by rw [List.append_nil]; exact t5)
        refine ⟨_, SqT.of ht1, _, lastP ht1, _, rfl, _, rfl, ?_⟩
        by_cases c1 : lastD p = d.1
        · rw [if_pos c1]
          refine notin ht1 ⟨_, rfl, ?_⟩
          by_cases c2 : d.2 ∈ p
          · rw [if_neg (by simpa using c2)]
            exact key _ zs [] sm hcx (by rw [if_neg (fun z => z.2 c2)]) (by rw [List.append_nil]; exact tz) (by omega)
          · rw [if_pos (by simpa using c2)]
            refine ⟨.inl ⟨rfl, _, SqL.of hcx⟩, grow ht1 fun q5 G5 g5 h5 => ?_⟩
            have hc6 := g5 _ _ hcx
            obtain ⟨k1, k2, k3⟩ := app (sm.trans g5) hc6 (tz.same g5) h5
            exact ⟨zs, hc6, len_big (by omega), key _ _ [p ++ [d.2]] k1 k2 (by rw [if_pos ⟨c1.symm, c2⟩]) k3 (by rw [List.length_append]; simp; omega)⟩
        · rw [if_neg c1, if_neg id]
          exact key _ zs [] sm hcx (by rw [if_neg (fun z => c1 z.1.symm)]) (by rw [List.append_nil]; exact tz) (by omega)
      · rw [hPw] at pw
        obtain ⟨v4, v5, zs, rfl, sm, hcx, tz⟩ := pw
        rw [hPv]
        refine ⟨_, _, _, zs, rfl, sm, hcx, ?_⟩
        rw [pl.len, List.take_length] at tz
        rw [List.take_add_one, gp, List.flatMap_append]
        show TL H' zs (_ ++ (List.flatMap (growF D) [p]))
        rw [List.flatMap_cons, List.flatMap_nil, List.append_nil]
        exact tz
    · rw [hPv] at pv
      obtain ⟨v3, v4, v5, zs, rfl, sm, hcx, tz⟩ := pv
      rw [pls, List.take_length] at tz
      walk_at "rd"
      refine sort_T hcx tz (fun q hq => ?_) fun t ys L2 H2 s2 n2 h2 pm so t2 => ret ys L2 t H2 (sm.trans s2) (sm_none sm n2) h2 t2 pm so
      obtain ⟨p, _, hq⟩ := List.mem_flatMap.mp hq
      obtain ⟨y, _, rfl⟩ := List.mem_map.mp hq
      simp
theorem scLfa : FnScope ["doors", "rooms", "one", "two", "paths", "k", "path", "before", "after", "r"] ["doors", "rooms", "one", "two"] (defScope sLfa) := ⟨rfl, rfl, rfl, by decide +kernel, rfl, by decide +kernel, by decide +kernel⟩
def OmW (A B : List Cl) (q : List Int) : Prop := wordP A q ≠ none ∧ wordP B q ≠ none ∧ wordP A q ≠ wordP B q
def spLfa : Sp := fun vs H Q _ => ∃ (l a b : Addr) (us u1 u2 : List V) (D : List Pr) (A B : List Cl) (r : Nat), vs = [.ref l, .int r, .ref a, .ref b] ∧ H l = some (.lst us) ∧ PL H us D ∧ Drs r D ∧ r ≤ 12 ∧ D.length ≤ 12 ∧ H a = some (.lst u1) ∧ LG H u1 A ∧ H b = some (.lst u2) ∧ LG H u2 B ∧
  ∀ v H', Same H H' → BestOf H' (fun q => Om D A B q ∧ ∀ x ∈ q, 0 ≤ x ∧ x < (r : Int)) v → Q v H'
theorem ok_lfa {f f1 f2 : Addr} {fd fd1 fd2 : FuncData} (F : Fun K "_law_first_apart" "_law_first_apart" sLfa f fd) (T : Bi mg) (d__law_word_of : Df P w K mg base "_law_word_of" ["log", "rooms"] 1 (spTopR K optW) f1 fd1) (d__law_longer : Df P w K mg base "_law_longer" ["doors", "paths"] 1 spLlo f2 fd2) : FnOk P w K mg base CX0 2 f fd ["doors", "rooms", "one", "two"] spLfa := by
  refine F.ok scLfa (fun vs H Q E h => ?_) (fun cdv A0 outer s H vs Q E hr h => ?_)
  · obtain ⟨l, a, b, us, u1, u2, D, A, B, r, rfl, _⟩ := h
    rfl
  · obtain ⟨l, a, b, us, u1, u2, D, A, B, r, rfl, hl, pl, drs, r12, d12, ha, la, hb, lb, ret⟩ := h
    refine ⟨_, (pss_cons (ps_setLc (i := 4) (own := [("r", 9)]) (te := (tTup (tCons (tVar 9) tNil))) (by rfl) scLfa.nd rfl rfl (sw_true rfl rfl rfl (by decide +kernel)) (pi_range1 (by rfl) T.range (pa_cons (pv 1) pa_nil)) (blkOk_by (N := ["doors", "rooms", "one", "two", "paths", "k", "path", "before", "after", "r"]) (sc := defScope sLfa) (by decide +kernel)) (fun _ _ _ _ _ => pg_name (i := 9) scLfa.nd rfl (Or.inl rfl)) (fun _ _ _ _ _ => pts_nil) (fun _ _ _ _ _ => (pe_tup (pa_cons (pv 9) pa_nil))))
      (pss_cons (ps_for PassesOwn.never rfl (pi_range1 (by rfl) T.range (pa_cons (pv 1) pa_nil)) (pg_name (i := 5) scLfa.nd rfl (Or.inl rfl))
      (pss_cons (ps_for PassesOwn.never rfl (pi_list (pv 4)) (pg_name (i := 6) scLfa.nd rfl (Or.inl rfl))
        (pss_cons (ps_set (i := 7) scLfa.nd rfl (Or.inl rfl) (pe_call d__law_word_of.ok (hr.mono (by decide)) (by rfl) d__law_word_of.at_ d__law_word_of.kp d__law_word_of.b .nil pass0 (pa_cons (pv 2) (pa_cons (pv 6) pa_nil))))
          (pss_cons (ps_set (i := 8) scLfa.nd rfl (Or.inl rfl) (pe_call d__law_word_of.ok (hr.mono (by decide)) (by rfl) d__law_word_of.at_ d__law_word_of.kp d__law_word_of.b .nil pass0 (pa_cons (pv 3) (pa_cons (pv 6) pa_nil))))
          (pss_one (ps_if (PW.pt (pw_and (pt_cmpR op_notN (pv 7) pe_non (nomark _)) (pw_and (pt_cmpR op_notN (pv 8) pe_non (nomark _)) (pw_and1 (pt_cmpR op_ne (pv 7) (pv 8) (nomark _))))))
          (pss_one (ps_ret (pv 6)))
          pss_nil)))))
        (pss_one (ps_set (i := 4) scLfa.nd rfl (Or.inl rfl) (pe_call d__law_longer.ok (hr.mono (by decide)) (by rfl) d__law_longer.at_ d__law_longer.kp d__law_longer.b .nil pass0 (pa_cons (pv 0) (pa_cons (pv 4) pa_nil)))))))
      (pss_one (ps_ret pe_non)))), ?_⟩
    refine sq1 fun N hN => ?_
    walk_at "rd"
    refine lcW ?_
    walk_at "rd"
    refine ⟨by omega, by omega, ?_⟩
    rw [Int.toNat_natCast]
    refine gc_range IsT (fun H H' v q h k => by obtain ⟨t, e, h⟩ := h; exact ⟨t, e, k _ _ h⟩) (fun j : Nat => some [(j : Int)]) (by omega) (fun j Hy A B jl sy hA hB => ?_) fun c0 ps0 H0 s0 n0 h0 p0 => hN _ _ ?_
    · rw [Int.zero_add]
      walk_at "rd"
      rw [if_pos trivial]
      refine ⟨by decide, fun q nq => hA _ _ _ rfl (same_upd nq) ⟨q, rfl, upd_same⟩⟩
    clear hN N
    have p0 : TL H0 ps0 (layF D r 0) := by
      have e : ((List.range r).filterMap fun j : Nat => some [(j : Int)]) = layF D r 0 := by
        show List.filterMap (some ∘ fun j : Nat => [(j : Int)]) (List.range r) = (rg r).map fun x => [x]
        rw [List.filterMap_eq_map]
        unfold rg
        rw [List.map_map]
        rfl
      rw [e] at p0
      exact p0
    have srt0 : (layF D r 0).Pairwise fun a b => ¬ ltL b a := by
      show ((rg r).map fun x => [x]).Pairwise _
      refine List.pairwise_map.mpr (List.Pairwise.imp (fun {x y} (h : x < y) z => ?_) (rg_up2 r))
      have z' : y < x ∨ (y = x ∧ ltL [] []) := z
      rcases z' with z' | z'
      · omega
      · exact ltL_irr _ z'.2
    refine for_iterW ?_
    walk_at "rd"
    obtain ⟨Pv, hPv⟩ : ∃ Pv : Nat → L2.St → Hp → Prop, Pv = (fun k σ H' => ∃ (c : Addr) (ps : List V) (L : List (List Int)) (v5 v6 v7 v8 : Option V), σ = [some (.ref l), some (.int r), some (.ref a), some (.ref b), some (.ref c), v5, v6, v7, v8, none] ∧ Same H H' ∧ H' c = some (.lst ps) ∧ TL H' ps L ∧ L.Perm (layF D r k) ∧ L.Pairwise (fun a b => ¬ ltL b a) ∧ ∀ k', k' < k → ∀ q ∈ layF D r k', ¬ OmW A B q) := ⟨_, rfl⟩
    refine ⟨by omega, by omega, for_range (lo := 0) (n := ((r : Nat) : Int).toNat) Pv (by rw [hPv]; exact ⟨c0, ps0, _, none, none, none, none, rfl, s0, h0, p0, .refl _, srt0, fun k' hk => absurd hk (by omega)⟩) (fun k σ H' hk pv => ?_) (fun σ H' pv => ?_)⟩
    · rw [hPv] at pv
      obtain ⟨c, ps, L, v5, v6, v7, v8, rfl, sm, hc, tl, pm, so, no⟩ := pv
      rw [Int.zero_add]
      refine sqC (G := fun C => gName 5 _ _ _ C) fun N hN => ?_
      walk_at "rd"
      refine for_iterW ?_
      walk_at "rd"
      have tlen : ps.length = L.length := tl.length
      have inLay : ∀ q, q ∈ L ↔ IsP' D q ∧ (∀ x ∈ q, 0 ≤ x ∧ x < (r : Int)) ∧ q.length = k + 1 := fun q => by rw [pm.mem_iff, mem_lay drs]
      have ow : ∀ (L : List Cl) (R : List Int), optW (lastIn R L) = optS (wordP L R) := fun L R => by
        unfold wordP
        cases lastIn R L <;> rfl
      have os : ∀ o : Option Str, (optS o = V.non) ↔ o = none := fun o => by cases o <;> simp [optS]
      obtain ⟨Pw, hPw⟩ : ∃ Pw : Nat → L2.St → Hp → Prop, Pw = (fun i σ H'' => ∃ v6 v7 v8 : Option V, σ = [some (.ref l), some (.int r), some (.ref a), some (.ref b), some (.ref c), some (.int k), v6, v7, v8, none] ∧ H' = H'' ∧ ∀ j q, j < i → L[j]? = some q → ¬ OmW A B q) := ⟨_, rfl⟩
      refine ⟨⟨_, SqL.of hc⟩, for_list (K := K) (a := c) (xs := ps) Pw (by rw [hPw]; exact ⟨_, _, _, rfl, rfl, fun j q hj => absurd hj (by omega)⟩) (fun i σ H'' _ pw => by rw [hPw] at pw; obtain ⟨_, _, _, _, rfl, _⟩ := pw; exact SqL.of hc) (fun i x σ H'' gx pw => ?_) (fun σ H'' pw => ?_)⟩
      · rw [hPw] at pw
        obtain ⟨v6, v7, v8, rfl, rfl, nj⟩ := pw
        obtain ⟨p, gp, t, rfl, ht⟩ := pget tl gx
        walk_at "rd"
        refine ⟨a, t, u1, A, p, rfl, sm _ _ ha, la.kt (KT.same sm), .inr (SqT.of ht), ?_⟩
        refine ⟨b, t, u2, B, p, rfl, sm _ _ hb, lb.kt (KT.same sm), .inr (SqT.of ht), ?_⟩
        rw [ow, ow]
        have nxt : ¬ OmW A B p → Pw (i + 1) [some (.ref l), some (.int r), some (.ref a), some (.ref b), some (.ref c), some (.int k), some (.ref t), some (optS (wordP A p)), some (optS (wordP B p)), none] H' := fun h => by
          rw [hPw]
          refine ⟨_, _, _, rfl, rfl, fun j q hj gq => ?_⟩
          rcases Nat.lt_or_ge j i with z | z
          · exact nj j q z gq
          · have : j = i := by omega
            subst this
            rw [gp] at gq
            rw [← Option.some.inj gq]
            exact h
        show (if (!decide (optS (wordP A p) = V.non)) = true then _ else _)
        by_cases cA : wordP A p = none
        · rw [if_neg (by rw [(os _).mpr cA]; simp), if_neg id]
          exact nxt fun h => h.1 cA
        rw [if_pos (by simpa [os] using cA)]
        by_cases cB : wordP B p = none
        · rw [if_neg (by rw [(os _).mpr cB]; simp), if_neg id]
          exact nxt fun h => h.2.1 cB
        rw [if_pos (by simpa [os] using cB)]
        refine (show rNe (optS (wordP A p)) (optS (wordP B p)) H' _ from ⟨optS_scal _ _, _, rfl, ?_⟩)
        by_cases cE : wordP A p = wordP B p
        · rw [if_neg (by rw [cE]; simp)]
          exact nxt fun h => h.2.2 cE
        · rw [if_pos (by simp; exact fun z => cE (optS_inj z))]
          have pL := List.mem_of_getElem? gp
          have pp := (inLay p).mp pL
          refine ret _ _ sm (.inl ⟨p, t, rfl, ht, ⟨⟨pp.1, cA, cB, cE⟩, pp.2.1⟩, fun q hq => ?_⟩)
          obtain ⟨⟨hq1, hq2⟩, hq3⟩ := hq
          have q1 : 0 < q.length := List.length_pos_iff.mpr hq1.1
          rcases Nat.lt_trichotomy q.length p.length with z | z | z
          · exact absurd hq2 (no (q.length - 1) (by omega) q ((mem_lay drs _ q).mpr ⟨hq1, hq3, by omega⟩))
          · obtain ⟨j, gj⟩ := List.getElem?_of_mem ((inLay q).mpr ⟨hq1, hq3, by omega⟩)
            rcases Nat.lt_trichotomy j i with w | w | w
            · exact absurd hq2 (nj j q w gj)
            · subst w
              rw [gp] at gj
              exact .inl (Option.some.inj gj)
            · obtain ⟨hi, ei⟩ := List.getElem?_eq_some_iff.mp gp
              obtain ⟨hj, ej⟩ := List.getElem?_eq_some_iff.mp gj
              have nl := List.pairwise_iff_getElem.mp so i j hi hj w
              rw [ei, ej] at nl
              rcases ltL_tri p q with u | u | u
              · exact .inl u
              · exact .inr (.inr ⟨z.symm, u⟩)
              · exact absurd u nl
          · exact sle_of_len z
      · rw [hPw] at pw
        obtain ⟨v6, v7, v8, rfl, rfl, nj⟩ := pw
        refine hN _ _ ?_
        clear hN N
        walk_at "rd"
        have b5 : ∀ k, (layF D r k).length ≤ 49152 := fun k => by
          have h1 := lay_len drs r12 k
          have h2 : 2 ^ D.length ≤ 2 ^ 12 := Nat.pow_le_pow_right (by decide) d12
          omega
        refine ⟨l, c, us, ps, D, L, rfl, sm _ _ hl, pl.kt (KT.same sm), hc, tl, fun d hd => by have := (drs.ok d hd).2.1; omega, fun p hp => ?_, fun i => ?_, by omega, fun zs L2' c2 H2 s2 n2 h2 t2 pm2 so2 => ?_⟩
        · have := (inLay p).mp hp
          have := ints_len this.1.2.1 this.2.1
          exact ⟨((inLay p).mp hp).1.1, by omega⟩
        · have h1 := b5 (k + 1)
          have h2 : (L.flatMap (growF D)).length = (layF D r (k + 1)).length := (pm.flatMap_right (growF D)).length_eq
          have h3 : ((L.take i).flatMap (growF D)).length ≤ (L.flatMap (growF D)).length := by
            conv => rhs; rw [← List.take_append_drop i L, List.flatMap_append, List.length_append]
            exact Nat.le_add_right _ _
          omega
        · rw [hPv]
          refine ⟨c2, zs, L2', _, _, _, _, rfl, sm.trans s2, h2, t2, pm2.trans (pm.flatMap_right (growF D)), so2, fun k' hk' q hq => ?_⟩
          rcases Nat.lt_or_ge k' k with z | z
          · exact no k' z q hq
          · have : k' = k := by omega
            subst this
            obtain ⟨j, gj⟩ := List.getElem?_of_mem (pm.mem_iff.mpr hq)
            exact nj j q (by rw [tlen]; exact (List.getElem?_eq_some_iff.mp gj).1) gj
    · rw [hPv] at pv
      obtain ⟨c, ps, L, v5, v6, v7, v8, rfl, sm, hc, tl, pm, so, no⟩ := pv
      rw [Int.toNat_natCast] at no
      walk_at "rd"
      refine ret _ _ sm (.inr ⟨rfl, fun q hq => ?_⟩)
      obtain ⟨⟨hp, h2⟩, inr⟩ := hq
      have ql : q.length ≤ r := ints_len hp.2.1 inr
      have q1 : 0 < q.length := List.length_pos_iff.mpr hp.1
      exact no (q.length - 1) (by omega) q ((mem_lay drs _ q).mpr ⟨hp, inr, by omega⟩) h2
end

/-! ### k69: _law_alone, the law -/
abbrev sLal : Stmt := topS 62
abbrev sLaw : Stmt := topS 63
theorem cut_takeK (xs : List V) (k : Nat) : cutV xs none (some ((k : Nat) : Int)) = xs.take k := by
  unfold cutV
  rw [show HT.sIx xs.length xs.length (some ((k : Nat) : Int)) = min k xs.length from HT.sIx_nat xs.length xs.length k, HT.sIx_none, List.drop_zero, Nat.sub_zero]
  by_cases h : k ≤ xs.length
  · rw [Nat.min_eq_left h]
  · rw [Nat.min_eq_right (by omega), List.take_length, List.take_of_length_le (by omega)]
theorem best_sm {H : Hp} {S S' : List Int → Prop} {v v' : V} (h : BestOf H S v) (h' : BestOf H S' v') (e : ∀ q, S q ↔ S' q) (len : ∀ q, S q → q.length ≤ 100000) (n : Nat) : Sm H (n + 1) v' v := by
  rcases h with ⟨q, t, rfl, ht, hq, mq⟩ | ⟨rfl, no⟩
  · rcases h' with ⟨q', t', rfl, ht', hq', mq'⟩ | ⟨rfl, no'⟩
    · have eq : q = q' := sle_anti (mq q' ((e q').mpr hq')) (mq' q ((e q).mp hq))
      subst eq
      exact sm_flatsT ht' ht (flat_intsV q) (by rw [List.length_map]; exact len q hq) n
    · exact absurd ((e q).mp hq) (no' q)
  · rcases h' with ⟨q', t', rfl, ht', hq', mq'⟩ | ⟨rfl, no'⟩
    · exact absurd ((e q').mpr hq') (no q')
    · exact Sm.flat rfl
theorem best_kt {H H' : Hp} {S : List Int → Prop} {v : V} (h : BestOf H S v) (k : KT H H') : BestOf H' S v := by
  rcases h with ⟨q, t, e1, e2, e3, e4⟩ | h
  · exact .inl ⟨q, t, e1, k _ _ e2, e3, e4⟩
  · exact .inr h
theorem best_iff {H : Hp} {S S' : List Int → Prop} {v : V} (h : BestOf H S v) (e : ∀ q, S q ↔ S' q) : BestOf H S' v := by
  rcases h with ⟨q, t, e1, e2, e3, e4⟩ | ⟨e1, e2⟩
  · exact .inl ⟨q, t, e1, e2, (e q).mp e3, fun q' h => e4 q' ((e q').mpr h)⟩
  · exact .inr ⟨e1, fun q h => e2 q ((e q).mpr h)⟩
theorem form_eq_alk2 {D : List Pr} {r : Nat} {A B : List Cl} (r12 : r ≤ 12) : formF D r A = formF D r B ↔ AlkP D (rg r) A B := by
  refine ⟨fun e Q hQ sub => ?_, form_alk r12⟩
  have h1 := form_plain (D := D) (L := A) r12 Q hQ sub
  have h2 := form_plain (D := D) (L := B) r12 Q hQ sub
  rw [e] at h1
  exact h1.symm.trans h2
theorem om_self {D : List Pr} {A : List Cl} {q : List Int} : ¬ Om D A A q := fun h => h.2.2.2 rfl
theorem om_nilR {D : List Pr} {A : List Cl} {q : List Int} : ¬ Om D A [] q := fun h => h.2.2.1 rfl
theorem om_nilL {D : List Pr} {A : List Cl} {q : List Int} : ¬ Om D [] A q := fun h => h.2.1 rfl
theorem best_no {H : Hp} {S : List Int → Prop} {v : V} (h : BestOf H S v) (n : ∀ q, ¬ S q) : v = .non := by
  rcases h with ⟨q, _, _, _, e, _⟩ | h
  · exact absurd e (n q)
  · exact h.1
theorem ac_self (r : Nat) (A : List Cl) : acB r A A = true := ac_true.mpr fun _ _ h => h
theorem ac_nil (r : Nat) (A : List Cl) : acB r [] A = true := ac_true.mpr fun _ _ h => absurd rfl h
theorem wordP_called {A : List Cl} {c : Cl} (h : c ∈ A) : wordP A [c.1] ≠ none := fun z => by
  exact wordP_none z c h (List.mem_singleton.mpr rfl)
theorem ac_to_nil {r : Nat} {A : List Cl} (inr : InR r A) : acB r A [] = decide (A.length = 0) := by
  rw [Bool.eq_iff_iff, ac_true, decide_eq_true_iff]
  constructor
  · intro h
    cases A with
    | nil => rfl
    | cons c A =>
      have hc := inr c List.mem_cons_self
      have e : ((c.1.toNat : Nat) : Int) = c.1 := by omega
      have := h c.1.toNat (by omega) (by rw [e]; exact wordP_called List.mem_cons_self)
      exact absurd rfl this
  · intro h i _ ha
    rw [List.length_eq_zero_iff.mp h] at ha
    exact absurd rfl ha
section
variable {P : Program} {w : World} {K : PySem.W.Frag} {mg : Str → Option Value} {base : Heap}
theorem scLal : FnScope ["house", "f", "s", "one"] ["house", "f", "s", "one"] (defScope sLal) := ⟨rfl, rfl, rfl, by decide +kernel, rfl, by decide +kernel, by decide +kernel⟩
def spLal (C tb_lies_in : Addr) : Sp := fun vs H Q _ => ∃ (p l : Addr) (x y : V) (D : List Pr) (A : List Cl) (us : List V) (r : Nat) (own : List Addr), vs = [.ref p, x, y, .ref l] ∧ HouseAt C H p r D own ∧ FormAt H 12 x (formF D r A) ∧ FormAt H 12 y (formF D r []) ∧ H l = some (.lst us) ∧ LG H us A ∧ InR r A ∧ H tb_lies_in = some (TbO tb_lies_in) ∧ ∀ H', Same H H' → Q (.bl true) H'
theorem ok_lal {f C f1 f2 f3 tb_lies_in : Addr} {fd fd1 fd2 fd3 : FuncData} (F : Fun K "_law_alone" "_law_alone" sLal f fd) (T : Bi mg) (d_order_matters : Df P w K mg base "order_matters" ["house", "first", "second"] 15 (spOm C) f1 fd1) (d__law_same : Df P w K mg base "_law_same" ["got", "due"] 28 (spSame 27) f2 fd2) (d_hides : Df P w K mg base "hides" ["house", "first", "second"] 18 (spHid tb_lies_in) f3 fd3) : FnOk P w K mg base CX0 29 f fd ["house", "f", "s", "one"] (spLal C tb_lies_in) := by
  refine F.ok scLal (fun vs H Q E h => ?_) (fun cdv A0 outer s H vs Q E hr h => ?_)
  · obtain ⟨p, l, x, y, D, A, us, r, own, rfl, _⟩ := h
    rfl
  · obtain ⟨p, l, x, y, D, A, us, r, own, rfl, hh, hx, hy, hl, lg, inr, ht, ret⟩ := h
    have r12 := hh.r12
    refine ⟨_, (pss_cons (ps_if (PW.pt (pw_or (pt_cmpR op_notN (pe_call d_order_matters.ok (hr.mono (by decide)) (by rfl) d_order_matters.at_ d_order_matters.kp d_order_matters.b .nil pass0 (pa_cons (pv 0) (pa_cons (pv 1) (pa_cons (pv 1) pa_nil)))) pe_non (nomark _)) (pw_or1 (pt_cmpR op_notN (pe_call d_order_matters.ok (hr.mono (by decide)) (by rfl) d_order_matters.at_ d_order_matters.kp d_order_matters.b .nil pass0 (pa_cons (pv 0) (pa_cons (pv 1) (pa_cons (pv 2) pa_nil)))) pe_non (nomark _)))))
      (pss_one (ps_ret pe_bl))
      pss_nil)
      (pss_cons (ps_if (pt_cmpR op_notN (pe_call d_order_matters.ok (hr.mono (by decide)) (by rfl) d_order_matters.at_ d_order_matters.kp d_order_matters.b .nil pass0 (pa_cons (pv 0) (pa_cons (pv 2) (pa_cons (pv 1) pa_nil)))) pe_non (nomark _))
      (pss_one (ps_ret pe_bl))
      pss_nil)
      (pss_cons (ps_if (PW.pt (pw_or (pt_not (pt_val (pe_call d__law_same.ok (hr.mono (by decide)) (by rfl) d__law_same.at_ d__law_same.kp d__law_same.b .nil pass0 (pa_cons (pe_call d_hides.ok (hr.mono (by decide)) (by rfl) d_hides.at_ d_hides.kp d_hides.b .nil pass0 (pa_cons (pv 0) (pa_cons (pv 1) (pa_cons (pv 1) pa_nil)))) (pa_cons pe_bl pa_nil))))) (pw_or1 (pt_not (pt_val (pe_call d__law_same.ok (hr.mono (by decide)) (by rfl) d__law_same.at_ d__law_same.kp d__law_same.b .nil pass0 (pa_cons (pe_call d_hides.ok (hr.mono (by decide)) (by rfl) d_hides.at_ d_hides.kp d_hides.b .nil pass0 (pa_cons (pv 0) (pa_cons (pv 2) (pa_cons (pv 1) pa_nil)))) (pa_cons pe_bl pa_nil))))))))
      (pss_one (ps_ret pe_bl))
      pss_nil)
      (pss_one (ps_ret (pe_call d__law_same.ok (hr.mono (by decide)) (by rfl) d__law_same.at_ d__law_same.kp d__law_same.b .nil pass0 (pa_cons (pe_call d_hides.ok (hr.mono (by decide)) (by rfl) d_hides.at_ d_hides.kp d_hides.b .nil pass0 (pa_cons (pv 0) (pa_cons (pv 1) (pa_cons (pv 2) pa_nil)))) (pa_cons (pe_cmpR op_eqI (pe_callB call_len_seq (by rfl) T.len (by decide +kernel) (pa_cons (pv 3) pa_nil)) pe_int (nomark _)) pa_nil)))))))), ?_⟩
    walk_at "rd"
    refine ⟨p, x, x, D, A, A, r, own, rfl, hh, hx, hx, fun v1 H1 s1 b1 => ?_⟩
    obtain rfl := best_no b1 fun q h => om_self h.1
    have hx1 := hx.kt (KT.same s1)
    have hy1 := hy.kt (KT.same s1)
    refine ⟨p, x, y, D, A, [], r, own, rfl, hh.same s1, hx1, hy1, fun v2 H2 s2 b2 => ?_⟩
    obtain rfl := best_no b2 fun q h => om_nilR h.1
    have s12 := s1.trans s2
    have hx2 := hx.kt (KT.same s12)
    have hy2 := hy.kt (KT.same s12)
    refine ⟨p, y, x, D, [], A, r, own, rfl, hh.same s12, hy2, hx2, fun v3 H3 s3 b3 => ?_⟩
    obtain rfl := best_no b3 fun q h => om_nilL h.1
    have s13 := s12.trans s3
    have hx3 := hx.kt (KT.same s13)
    have hy3 := hy.kt (KT.same s13)
    refine ⟨p, x, x, D, A, A, r, rfl, hx3, hx3, r12, s13 _ _ ht, fun H4 s4 => ?_⟩
    rw [ac_self]
    have s14 := s13.trans s4
    refine ⟨_, _, rfl, Sm.flat rfl, ⟨true, rfl, ?_⟩⟩
    rw [if_neg (by decide)]
    refine ⟨p, y, x, D, [], A, r, rfl, hy.kt (KT.same s14), hx.kt (KT.same s14), r12, s14 _ _ ht, fun H5 s5 => ?_⟩
    rw [ac_nil]
    have s15 := s14.trans s5
    refine ⟨_, _, rfl, Sm.flat rfl, ⟨true, rfl, ?_⟩⟩
    rw [if_neg (by decide)]
    refine ⟨p, x, y, D, A, [], r, rfl, hx.kt (KT.same s15), hy.kt (KT.same s15), r12, s15 _ _ ht, fun H6 s6 => ?_⟩
    rw [ac_to_nil inr]
    have s16 := s15.trans s6
    refine ⟨_, .inl (SqL.of (s16 _ _ hl)), ?_⟩
    rw [lg.len]
    refine ⟨_, _, rfl, ?_, ret _ s16⟩
    have e : decide (((A.length : Nat) : Int) = 0) = decide (A.length = 0) := by
      rw [Bool.eq_iff_iff, decide_eq_true_iff, decide_eq_true_iff]
      omega
    rw [e]
    exact Sm.flat rfl
theorem scLaw : FnScope ["script", "n", "m", "p", "rooms", "doors", "everywhere", "words", "one", "two", "f", "g", "fg", "gf", "path", "house", "call"] ["script"] (defScope sLaw) := ⟨rfl, rfl, rfl, by decide +kernel, rfl, by decide +kernel, by decide +kernel⟩
set_option maxHeartbeats 4000000 in
theorem ok_law {f C fi fo f1 f2 f3 f4 f5 f6 f7 f8 f9 f10 f11 f12 f13 f14 f15 f16 f17 f18 tb_lies_in tb_form_of tb_build_form : Addr} {fd fdi fdo fd1 fd2 fd3 fd4 fd5 fd6 fd7 fd8 fd9 fd10 fd11 fd12 fd13 fd14 fd15 fd16 fd17 : FuncData} (F : Fun K "law" "law" sLaw f fd) (T : Bi mg) (U : Hs K mg C) (M : Mk K C fi) (Gi : FnOk P w K mg base CX0 2 fi fdi ["self", "rooms", "doors"] (spHinit C)) (bi : Binds K fdi ["self", "rooms", "doors"] [])
    (m_doors : Md P w K mg base C "doors" ["self"] 1 (spHdoors C) fo fdo)
    (d__law_cell : Df P w K mg base "_law_cell" ["script", "k"] 1 (spCell K) f1 fd1) (d__law_numbers : Df P w K mg base "_law_numbers" ["cell", "count"] 1 (spNum K) f2 fd2) (d__law_doors : Df P w K mg base "_law_doors" ["numbers", "rooms"] 2 (spDrs K) f3 fd3) (d__law_fewer : Df P w K mg base "_law_fewer" ["doors", "most", "number"] 1 (spFew K) f4 fd4) (d__law_words : Df P w K mg base "_law_words" ["numbers", "at", "many"] 2 (spLws K) f5 fd5)
    (d__law_log : Df P w K mg base "_law_log" ["numbers", "at", "many", "rooms", "words"] 1 (spLlg K) f6 fd6) (d__law_agreeing : Df P w K mg base "_law_agreeing" ["one", "two"] 2 spLag f7 fd7) (d__law_word_of : Df P w K mg base "_law_word_of" ["log", "rooms"] 1 (spTopR K optW) f8 fd8) (d__law_form : Df P w K mg base "_law_form" ["doors", "log", "rooms"] 29 (spLf 12) f9 fd9) (d__law_first_apart : Df P w K mg base "_law_first_apart" ["doors", "rooms", "one", "two"] 2 spLfa f10 fd10)
    (d__law_same : Df P w K mg base "_law_same" ["got", "due"] 28 (spSame 27) f11 fd11) (d_order_matters : Df P w K mg base "order_matters" ["house", "first", "second"] 15 (spOm C) f12 fd12) (d_parting_path : Df P w K mg base "parting_path" ["house", "first", "second"] 4 (spPp C) f13 fd13) (d_alike : Df P w K mg base "alike" ["house", "first", "second"] 5 (spAlk C) f14 fd14) (d_hides : Df P w K mg base "hides" ["house", "first", "second"] 18 (spHid tb_lies_in) f15 fd15) (d__law_all_called : Df P w K mg base "_law_all_called" ["rooms", "one", "two"] 2 spLac f16 fd16) (d__law_alone : Df P w K mg base "_law_alone" ["house", "f", "s", "one"] 29 (spLal C tb_lies_in) f17 fd17)
    (o_overlay : DfR P w K mg base "overlay" 51 (spOv C [(tb_form_of, nmFo), (tb_build_form, nmBf)]) f18) : FnOk P w K mg base CX0 54 f fd ["script"] (spLawM K [tb_lies_in] [tb_form_of, tb_build_form]) := by
  refine F.ok scLaw (fun vs H Q E h => ?_) (fun cdv A0 outer s H vs Q E hr h => ?_)
  · obtain ⟨a, ns, rfl, _⟩ := h
    rfl
  · obtain ⟨a, ss, rfl, hS, s63, hTl, hTb, q⟩ := h
    have hT0 : NdefX.TabsN [(tb_form_of, nmFo), (tb_build_form, nmBf)] H := tabs2 (hTb _ (by simp)) (hTb _ (by simp))
    have hTl := hTl tb_lies_in (by simp)
    refine ⟨_, (pss_cons (ps_set (i := 1) scLaw.nd rfl (Or.inl rfl) (pe_call d__law_numbers.ok (hr.mono (by decide)) (by rfl) d__law_numbers.at_ d__law_numbers.kp d__law_numbers.b .nil pass0 (pa_cons (pe_call d__law_cell.ok (hr.mono (by decide)) (by rfl) d__law_cell.at_ d__law_cell.kp d__law_cell.b .nil pass0 (pa_cons (pv 0) (pa_cons pe_int pa_nil))) (pa_cons pe_int pa_nil))))
      (pss_cons (ps_set (i := 2) scLaw.nd rfl (Or.inl rfl) (pe_call d__law_numbers.ok (hr.mono (by decide)) (by rfl) d__law_numbers.at_ d__law_numbers.kp d__law_numbers.b .nil pass0 (pa_cons (pe_call d__law_cell.ok (hr.mono (by decide)) (by rfl) d__law_cell.at_ d__law_cell.kp d__law_cell.b .nil pass0 (pa_cons (pv 0) (pa_cons pe_int pa_nil))) (pa_cons pe_int pa_nil))))
      (pss_cons (ps_set (i := 3) scLaw.nd rfl (Or.inl rfl) (pe_call d__law_numbers.ok (hr.mono (by decide)) (by rfl) d__law_numbers.at_ d__law_numbers.kp d__law_numbers.b .nil pass0 (pa_cons (pe_call d__law_cell.ok (hr.mono (by decide)) (by rfl) d__law_cell.at_ d__law_cell.kp d__law_cell.b .nil pass0 (pa_cons (pv 0) (pa_cons pe_int pa_nil))) (pa_cons pe_int pa_nil))))
      (pss_cons (ps_set (i := 4) scLaw.nd rfl (Or.inl rfl) (pe_op op_add pe_int (pe_op op_mod (pe_callTy cr_intI (by rfl) T.int (by decide +kernel) (pa_cons (pe_ix ix_list (pv 1) pe_int (fun _ _ => rfl)) pa_nil)) pe_int)))
      (pss_cons (ps_if (pt_cmpR op_eqI (pe_op op_mod (pe_op op_fdiv (pe_callTy cr_intI (by rfl) T.int (by decide +kernel) (pa_cons (pe_ix ix_list (pv 3) pe_int (fun _ _ => rfl)) pa_nil)) pe_int) pe_int) pe_int (nomark _))
      (pss_one (ps_set (i := 4) scLaw.nd rfl (Or.inl rfl) (pe_op op_add pe_int (pe_op op_mod (pe_callTy cr_intI (by rfl) T.int (by decide +kernel) (pa_cons (pe_ix ix_list (pv 1) pe_int (fun _ _ => rfl)) pa_nil)) pe_int))))
      pss_nil)
      (pss_cons (ps_set (i := 5) scLaw.nd rfl (Or.inl rfl) (pe_call d__law_fewer.ok (hr.mono (by decide)) (by rfl) d__law_fewer.at_ d__law_fewer.kp d__law_fewer.b .nil pass0 (pa_cons (pe_call d__law_doors.ok (hr.mono (by decide)) (by rfl) d__law_doors.at_ d__law_doors.kp d__law_doors.b .nil pass0 (pa_cons (pv 1) (pa_cons (pv 4) pa_nil))) (pa_cons pe_int (pa_cons (pe_op op_fdiv (pe_callTy cr_intI (by rfl) T.int (by decide +kernel) (pa_cons (pe_ix ix_list (pv 1) pe_int (fun _ _ => rfl)) pa_nil)) pe_int) pa_nil)))))
      (pss_cons (ps_set (i := 6) scLaw.nd rfl (Or.inl rfl) (pe_listRg rfl (by rfl) T.list (prg_1 (by rfl) T.range (pv 4))))
      (pss_cons (ps_set (i := 7) scLaw.nd rfl (Or.inl rfl) (pe_slice sl_list (pe_call d__law_words.ok (hr.mono (by decide)) (by rfl) d__law_words.at_ d__law_words.kp d__law_words.b .nil pass0 (pa_cons (pv 2) (pa_cons pe_int (pa_cons pe_int pa_nil)))) po_none (po_some (pe_op op_add pe_int (pe_op op_mod (pe_callTy cr_intI (by rfl) T.int (by decide +kernel) (pa_cons (pe_ix ix_list (pv 2) pe_int (fun _ _ => rfl)) pa_nil)) pe_int)))))
      (pss_cons (ps_set (i := 8) scLaw.nd rfl (Or.inr rfl) (pe_call d__law_log.ok (hr.mono (by decide)) (by rfl) d__law_log.at_ d__law_log.kp d__law_log.b .nil pass0 (pa_cons (pv 2) (pa_cons pe_int (pa_cons (pe_op op_mod (pe_callTy cr_intI (by rfl) T.int (by decide +kernel) (pa_cons (pe_ix ix_list (pv 2) pe_int (fun _ _ => rfl)) pa_nil)) pe_int) (pa_cons (pv 4) (pa_cons (pv 7) pa_nil)))))))
      (pss_cons (ps_set (i := 9) scLaw.nd rfl (Or.inl rfl) (pe_call d__law_log.ok (hr.mono (by decide)) (by rfl) d__law_log.at_ d__law_log.kp d__law_log.b .nil pass0 (pa_cons (pv 3) (pa_cons pe_int (pa_cons (pe_op op_mod (pe_callTy cr_intI (by rfl) T.int (by decide +kernel) (pa_cons (pe_ix ix_list (pv 3) pe_int (fun _ _ => rfl)) pa_nil)) pe_int) (pa_cons (pv 4) (pa_cons (pv 7) pa_nil)))))))
      (pss_cons (ps_if (pt_cmpR op_eqI (pe_op op_mod (pe_callTy cr_intI (by rfl) T.int (by decide +kernel) (pa_cons (pe_ix ix_list (pv 3) pe_int (fun _ _ => rfl)) pa_nil)) pe_int) pe_int (nomark _))
      (pss_one (ps_set (i := 9) scLaw.nd rfl (Or.inl rfl) (pe_call d__law_agreeing.ok (hr.mono (by decide)) (by rfl) d__law_agreeing.at_ d__law_agreeing.kp d__law_agreeing.b .nil pass0 (pa_cons (pv 8) (pa_cons (pv 9) pa_nil)))))
      pss_nil)
      (pss_cons (ps_if (pt_cmpR op_eqI (pe_op op_mod (pe_callTy cr_intI (by rfl) T.int (by decide +kernel) (pa_cons (pe_ix ix_list (pv 3) pe_int (fun _ _ => rfl)) pa_nil)) pe_int) pe_int (nomark _))
      (pss_one (ps_setLc (i := 9) (own := [("call", 16)]) (tt := tTest (tOp (fun x y H Q => y = V.non ∧ Q (V.bl (decide (x = V.non))) H) (tCall (spTopR K optW) [] E0 (tCons (tVar 8) (tCons (tLst (tCons (tOp (rIxT K) (tVar 16) (tC (.int 0))) tNil)) tNil))) (tC V.non))) (by rfl) scLaw.nd rfl rfl (sw_true rfl rfl rfl (by decide +kernel)) (pi_list (pv 9)) (blkOk_by (N := ["script", "n", "m", "p", "rooms", "doors", "everywhere", "words", "one", "two", "f", "g", "fg", "gf", "path", "house", "call"]) (sc := defScope sLaw) (by decide +kernel)) (fun _ _ _ _ _ => pg_name (i := 16) scLaw.nd rfl (Or.inl rfl)) (fun _ _ _ _ _ => (pts_one (pt_cmpR op_isN (pe_call d__law_word_of.ok (hr.mono (by decide)) (by rfl) d__law_word_of.at_ d__law_word_of.kp d__law_word_of.b .nil pass0 (pa_cons (pv 8) (pa_cons (pe_lst (pa_cons (pe_ix ix_tup (pv 16) pe_int (fun _ _ => rfl)) pa_nil)) pa_nil))) pe_non (nomark _)))) (fun _ _ _ _ _ => (pv 16))))
      pss_nil)
      (pss_cons (ps_set (i := 10) scLaw.nd rfl (Or.inl rfl) (pe_call d__law_form.ok (hr.mono (by decide)) (by rfl) d__law_form.at_ d__law_form.kp d__law_form.b .nil pass0 (pa_cons (pv 5) (pa_cons (pv 8) (pa_cons (pv 6) pa_nil)))))
      (pss_cons (ps_set (i := 11) scLaw.nd rfl (Or.inl rfl) (pe_call d__law_form.ok (hr.mono (by decide)) (by rfl) d__law_form.at_ d__law_form.kp d__law_form.b .nil pass0 (pa_cons (pv 5) (pa_cons (pv 9) (pa_cons (pv 6) pa_nil)))))
      (pss_cons (ps_set (i := 12) scLaw.nd rfl (Or.inl rfl) (pe_call d__law_form.ok (hr.mono (by decide)) (by rfl) d__law_form.at_ d__law_form.kp d__law_form.b .nil pass0 (pa_cons (pv 5) (pa_cons (pe_op op_cat (pv 8) (pv 9)) (pa_cons (pv 6) pa_nil)))))
      (pss_cons (ps_set (i := 13) scLaw.nd rfl (Or.inl rfl) (pe_call d__law_form.ok (hr.mono (by decide)) (by rfl) d__law_form.at_ d__law_form.kp d__law_form.b .nil pass0 (pa_cons (pv 5) (pa_cons (pe_op op_cat (pv 9) (pv 8)) (pa_cons (pv 6) pa_nil)))))
      (pss_cons (ps_set (i := 14) scLaw.nd rfl (Or.inl rfl) (pe_call d__law_first_apart.ok (hr.mono (by decide)) (by rfl) d__law_first_apart.at_ d__law_first_apart.kp d__law_first_apart.b .nil pass0 (pa_cons (pv 5) (pa_cons (pv 4) (pa_cons (pv 8) (pa_cons (pv 9) pa_nil))))))
      (pss_cons (ps_set (i := 15) scLaw.nd rfl (Or.inl rfl) (pe_make M Gi (hr.mono (by decide)) (by rfl) U.mgC bi .nil pass0 (pa_cons (pv 4) (pa_cons (pe_callTy call_list_of (by rfl) T.list (by decide +kernel) (pa_cons (pv 5) pa_nil)) pa_nil))))
      (pss_cons (ps_if (PW.pt (pw_or (pt_not (pt_val (pe_call d__law_same.ok (hr.mono (by decide)) (by rfl) d__law_same.at_ d__law_same.kp d__law_same.b .nil pass0 (pa_cons (pe_call d_order_matters.ok (hr.mono (by decide)) (by rfl) d_order_matters.at_ d_order_matters.kp d_order_matters.b .nil pass0 (pa_cons (pv 15) (pa_cons (pv 10) (pa_cons (pv 11) pa_nil)))) (pa_cons (pv 14) pa_nil))))) (pw_or1 (pt_not (pt_val (pe_call d__law_same.ok (hr.mono (by decide)) (by rfl) d__law_same.at_ d__law_same.kp d__law_same.b .nil pass0 (pa_cons (pe_call d_order_matters.ok (hr.mono (by decide)) (by rfl) d_order_matters.at_ d_order_matters.kp d_order_matters.b .nil pass0 (pa_cons (pv 15) (pa_cons (pv 11) (pa_cons (pv 10) pa_nil)))) (pa_cons (pv 14) pa_nil))))))))
      (pss_one (ps_ret pe_bl))
      pss_nil)
      (pss_cons (ps_if (pt_not (pt_val (pe_call d__law_same.ok (hr.mono (by decide)) (by rfl) d__law_same.at_ d__law_same.kp d__law_same.b .nil pass0 (pa_cons (pe_call d_parting_path.ok (hr.mono (by decide)) (by rfl) d_parting_path.at_ d_parting_path.kp d_parting_path.b .nil pass0 (pa_cons (pv 15) (pa_cons (pe_op op_cat (pv 8) (pv 9)) (pa_cons (pe_op op_cat (pv 9) (pv 8)) pa_nil)))) (pa_cons (pv 14) pa_nil)))))
      (pss_one (ps_ret pe_bl))
      pss_nil)
      (pss_cons (ps_if (pt_not (pt_val (pe_call d__law_same.ok (hr.mono (by decide)) (by rfl) d__law_same.at_ d__law_same.kp d__law_same.b .nil pass0 (pa_cons (pe_call d_alike.ok (hr.mono (by decide)) (by rfl) d_alike.at_ d_alike.kp d_alike.b .nil pass0 (pa_cons (pv 15) (pa_cons (pe_op op_cat (pv 8) (pv 9)) (pa_cons (pe_op op_cat (pv 9) (pv 8)) pa_nil)))) (pa_cons (pe_cmpR op_isN (pv 14) pe_non (nomark _)) pa_nil)))))
      (pss_one (ps_ret pe_bl))
      pss_nil)
      (pss_cons (ps_if (PW.pt (pw_or (pt_not (pt_val (pe_call d__law_same.ok (hr.mono (by decide)) (by rfl) d__law_same.at_ d__law_same.kp d__law_same.b .nil pass0 (pa_cons (pe_callR o_overlay.ok (hr.mono (by decide)) (by rfl) o_overlay.at_ o_overlay.kp pass0 (pa_cons (pv 15) (pa_cons (pv 10) (pa_cons (pv 11) pa_nil)))) (pa_cons (pv 12) pa_nil))))) (pw_or1 (pt_not (pt_val (pe_call d__law_same.ok (hr.mono (by decide)) (by rfl) d__law_same.at_ d__law_same.kp d__law_same.b .nil pass0 (pa_cons (pe_callR o_overlay.ok (hr.mono (by decide)) (by rfl) o_overlay.at_ o_overlay.kp pass0 (pa_cons (pv 15) (pa_cons (pv 11) (pa_cons (pv 10) pa_nil)))) (pa_cons (pv 13) pa_nil))))))))
      (pss_one (ps_ret pe_bl))
      pss_nil)
      (pss_cons (ps_if (pt_cmpR op_ne (pe_cmpR (op_eqD hr.units) (pv 12) (pv 13) (nomark _)) (pe_cmpR op_isN (pv 14) pe_non (nomark _)) (nomark _))
      (pss_one (ps_ret pe_bl))
      pss_nil)
      (pss_cons (ps_if (pt_not (pt_val (pe_call d__law_same.ok (hr.mono (by decide)) (by rfl) d__law_same.at_ d__law_same.kp d__law_same.b .nil pass0 (pa_cons (pe_call d_hides.ok (hr.mono (by decide)) (by rfl) d_hides.at_ d_hides.kp d_hides.b .nil pass0 (pa_cons (pv 15) (pa_cons (pv 10) (pa_cons (pv 11) pa_nil)))) (pa_cons (pe_call d__law_all_called.ok (hr.mono (by decide)) (by rfl) d__law_all_called.at_ d__law_all_called.kp d__law_all_called.b .nil pass0 (pa_cons (pv 4) (pa_cons (pv 8) (pa_cons (pv 9) pa_nil)))) pa_nil)))))
      (pss_one (ps_ret pe_bl))
      pss_nil)
      (pss_cons (ps_if (pt_not (pt_val (pe_call d__law_same.ok (hr.mono (by decide)) (by rfl) d__law_same.at_ d__law_same.kp d__law_same.b .nil pass0 (pa_cons (pe_call d_hides.ok (hr.mono (by decide)) (by rfl) d_hides.at_ d_hides.kp d_hides.b .nil pass0 (pa_cons (pv 15) (pa_cons (pv 11) (pa_cons (pv 10) pa_nil)))) (pa_cons (pe_call d__law_all_called.ok (hr.mono (by decide)) (by rfl) d__law_all_called.at_ d__law_all_called.kp d__law_all_called.b .nil pass0 (pa_cons (pv 4) (pa_cons (pv 9) (pa_cons (pv 8) pa_nil)))) pa_nil)))))
      (pss_one (ps_ret pe_bl))
      pss_nil)
      (pss_cons (ps_if (pt_not (pt_val (pe_call d__law_same.ok (hr.mono (by decide)) (by rfl) d__law_same.at_ d__law_same.kp d__law_same.b .nil pass0 (pa_cons (pe_meth0 (pv 15) U.cl m_doors.m m_doors.ok (hr.mono (by decide)) m_doors.b .nil pass0) (pa_cons (pv 5) pa_nil)))))
      (pss_one (ps_ret pe_bl))
      pss_nil)
      (pss_one (ps_ret (pe_call d__law_alone.ok (hr.mono (by decide)) (by rfl) d__law_alone.at_ d__law_alone.kp d__law_alone.b .nil pass0 (pa_cons (pv 15) (pa_cons (pv 10) (pa_cons (pe_call d__law_form.ok (hr.mono (by decide)) (by rfl) d__law_form.at_ d__law_form.kp d__law_form.b .nil pass0 (pa_cons (pv 5) (pa_cons (pe_lst pa_nil) (pa_cons (pv 6) pa_nil)))) (pa_cons (pv 8) pa_nil))))))))))))))))))))))))))))))))), ?_⟩
    refine sq5 fun N hN => ?_
    walk_at "rd"
    refine ⟨a, ss, 0, rfl, hS, fun c0 _ => ⟨c0, 80, rfl, by decide, fun nl ln H1 N1 s1 fn1 hln => ?_⟩⟩
    obtain ⟨n79, g79⟩ : ∃ x, (nl.map V.int)[79]? = some (.int x) := ⟨nl[79]'(by rw [N1.1]; decide), by rw [List.getElem?_map, List.getElem?_eq_getElem (by rw [N1.1]; decide)]; rfl⟩
    refine ⟨a, ss, 1, rfl, s1.seq hS, fun c1 _ => ⟨c1, 34, rfl, by decide, fun ml lm H2 N2 s2 fm2 hlm => ?_⟩⟩
    have s02 := s1.trans s2
    refine ⟨a, ss, 2, rfl, s02.seq hS, fun c2 _ => ⟨c2, 26, rfl, by decide, fun pl lp H3 N3 s3 fp3 hlp => ?_⟩⟩
    have s03 := s02.trans s3
    have hln3 := s3 _ _ (s2 _ _ hln)
    have hlm3 := s3 _ _ hlm
    obtain ⟨p25, gp25⟩ : ∃ x, (pl.map V.int)[25]? = some (.int x) := ⟨pl[25]'(by rw [N3.1]; decide), by rw [List.getElem?_map, List.getElem?_eq_getElem (by rw [N3.1]; decide)]; rfl⟩
    have key : ∀ r : Nat, 1 ≤ r → r ≤ 12 → N [some (.ref a), some (.ref ln), some (.ref lm), some (.ref lp), some (.int r), none, none, none, none, none, none, none, none, none, none, none, none] H3 := fun r hr1 hr12 => by
      refine hN _ _ ?_
      clear hN N
      refine sq5 fun N hN => ?_
      walk_at "rd"
      refine ⟨ln, nl, r, rfl, SqL.of hln3, by rw [N1.1]; omega, hr1, hr12, fun D0 us0 ld0 H4 drs0 s4 _ hld0 pD0 => ?_⟩
      have hln4 := s4 _ _ hln3
      refine ⟨_, SqL.of hln4, .int n79, at_of (j := 79) rfl g79, n79, rfl, ⟨by decide, by decide⟩, ?_⟩
      refine ⟨ld0, us0, D0, 12, n79 / 12, r, rfl, hld0, pD0, drs0, hr12, by decide, by decide, fun D us ld H5 drs d12 s5 nld hld pD => ⟨RgOk.of_le (by omega) (by omega) (by omega) (by omega), fun ev nev => ?_⟩⟩
      have d12 : D.length ≤ 12 := by omega
      rw [rgV_rg]
      have s6 := same_upd (o := HO.lst ((rg r).map V.int)) nev
      have hev := upd_same (H := H5) (a := ev) (o := HO.lst ((rg r).map V.int))
      generalize upd H5 ev (HO.lst ((rg r).map V.int)) = H6 at s6 hev ⊢
      have s36 := (s4.trans s5).trans s6
      have hlm6 := s36 _ _ hlm3
      refine ⟨lm, ml, 0, 4, rfl, SqL.of hlm6, by rw [N2.1]; omega, by decide, by decide, fun Z zp H7 wz s7 fzp hzp => ?_⟩
      have hlm7 := s7 _ _ hlm6
      obtain ⟨m8, g8⟩ : ∃ x, (ml.map V.int)[8]? = some (.int x) := ⟨ml[8]'(by rw [N2.1]; decide), by rw [List.getElem?_map, List.getElem?_eq_getElem (by rw [N2.1]; decide)]; rfl⟩
      obtain ⟨m9, g9⟩ : ∃ x, (ml.map V.int)[9]? = some (.int x) := ⟨ml[9]'(by rw [N2.1]; decide), by rw [List.getElem?_map, List.getElem?_eq_getElem (by rw [N2.1]; decide)]; rfl⟩
      obtain ⟨p0, gp0⟩ : ∃ x, (pl.map V.int)[0]? = some (.int x) := ⟨pl[0]'(by rw [N3.1]; decide), by rw [List.getElem?_map, List.getElem?_eq_getElem (by rw [N3.1]; decide)]; rfl⟩
      obtain ⟨qn, eq, hq1, hq4⟩ : ∃ q : Nat, 2 + m8 % 3 = (q : Int) ∧ 1 ≤ q ∧ q ≤ 4 := ⟨(2 + m8 % 3).toNat, by omega, by omega, by omega⟩
      refine ⟨_, SqL.of hlm7, .int m8, at_of (j := 8) rfl g8, m8, rfl, by decide, zp, rfl, _, SqL.of hzp, fun pz npz => ?_⟩
      rw [eq, cut_takeK, ← List.map_take]
      have s8 := same_upd (o := HO.lst ((Z.take qn).map V.str)) npz
      have hpz := upd_same (H := H7) (a := pz) (o := HO.lst ((Z.take qn).map V.str))
      generalize upd H7 pz (HO.lst ((Z.take qn).map V.str)) = H8 at s8 hpz ⊢
      have zl : 1 ≤ (Z.take qn).length := by rw [List.length_take, wz.1]; omega
      have zw : ∀ z ∈ Z.take qn, wk 17 z := fun z hz => wz.2 z (List.mem_of_mem_take hz)
      generalize Z.take qn = W at hpz zl zw s8 ⊢
      obtain ⟨k1, e1, hk1⟩ : ∃ k : Nat, m9 % 13 = (k : Int) ∧ k ≤ 12 := ⟨(m9 % 13).toNat, by omega, by omega⟩
      obtain ⟨k2, e2, hk2⟩ : ∃ k : Nat, p0 % 13 = (k : Int) ∧ k ≤ 12 := ⟨(p0 % 13).toNat, by omega, by omega⟩
      have hlm8 := s8 _ _ hlm7
      have s38 := s36.trans (s7.trans s8)
      refine ⟨_, SqL.of hlm8, .int m9, at_of (j := 9) rfl g9, m9, rfl, by decide, ?_⟩
      rw [e1]
      refine ⟨lm, pz, ml, 10, k1, r, W, rfl, SqL.of hlm8, by rw [N2.1]; omega, by omega, hr1, hpz, zl, zw, fun A u1 a1 H9 lA inrA wkA s9 na1 ha1 lgA => ?_⟩
      have hlp9 := (s38.trans s9) _ _ hlp
      refine ⟨_, SqL.of hlp9, .int p0, at_of (j := 0) rfl gp0, p0, rfl, by decide, ?_⟩
      rw [e2]
      refine ⟨lp, pz, pl, 1, k2, r, W, rfl, SqL.of hlp9, by rw [N3.1]; omega, by omega, hr1, s9 _ _ hpz, zl, zw, fun B u2 a2 HA lB inrB wkB sA na2 ha2 lgB => hN _ _ ?_⟩
      clear hN N
      have s3A := s38.trans (s9.trans sA)
      have s0A := s03.trans s3A
      have s6A := (s7.trans s8).trans (s9.trans sA)
      have hldA := (s6.trans s6A) _ _ hld
      have pDA := pD.kt (KT.same (s6.trans s6A))
      have hevA := s6A _ _ hev
      have haA := sA _ _ ha1
      have lgAA := lgA.kt (KT.same sA)
      have hlpA := sA _ _ hlp9
      have lA12 : A.length ≤ 12 := by omega
      have lB12 : B.length ≤ 12 := by omega
      clear s3A s6A s9 s8 s7 s6 s5 s4 s38 s36 hlp9 hlm8 hlm7 hlm6 hln4 hld pD hev ha1 lgA hpz zl zw npz hzp fzp wz eq hq1 hq4 g8 g9 gp0 nev nld hld0 pD0 lA lB e1 e2 hk1 hk2 drs0
      refine sq1 fun N hN => ?_
      have key2 : ∀ (B : List Cl) (u2 : List V) (a2 : Addr) (HB : Hp), B.length ≤ 12 → InR r B → (∀ c ∈ B, wk 17 c.2) → Same HA HB → HB a2 = some (.lst u2) → LG HB u2 B → N [some (.ref a), some (.ref ln), some (.ref lm), some (.ref lp), some (.int r), some (.ref ld), some (.ref ev), some (.ref pz), some (.ref a1), some (.ref a2), none, none, none, none, none, none, none] HB := fun B u2 a2 HB lB inrB wkB sB hb lgB => by
        refine hN _ _ ?_
        clear hN N
        refine sq1 fun N hN => ?_
        have key3 : ∀ (B : List Cl) (u2 : List V) (a2 : Addr) (HC : Hp), B.length ≤ 12 → InR r B → (∀ c ∈ B, wk 17 c.2) → Same HA HC → HC a2 = some (.lst u2) → LG HC u2 B → N [some (.ref a), some (.ref ln), some (.ref lm), some (.ref lp), some (.int r), some (.ref ld), some (.ref ev), some (.ref pz), some (.ref a1), some (.ref a2), none, none, none, none, none, none, none] HC := fun B u2 a2 HC lB inrB wkB sC hb lgB => by
          refine hN _ _ ?_
          clear hN N
          have s0C := s0A.trans sC
          have hldC := sC _ _ hldA
          have pDC := pDA.kt (KT.same sC)
          have hevC := sC _ _ hevA
          have haC := sC _ _ haA
          have lgC := lgAA.kt (KT.same sC)
          have hTC := tabs_same hT0 s0C
          have hTlC := s0C _ _ hTl
          have qC : ∀ H', Xt HC H' → Q (.bl true) H' := fun H' x => q H' ((Xt.of s0C).trans x)
          clear sC s0C hldA pDA hevA haA lgAA hlpA q hTl hTb hT0 s0A
          refine sq5 fun N hN => ?_
          walk_at "rd"
          have frm : ∀ {Hy : Hp} {q : Addr} {u : List V} {L : List Cl} {Q2 : VK}, Same HC Hy → Hy q = some (.lst u) → LG Hy u L → (∀ v H', Same Hy H' → FormAt H' 12 v (formF D r L) → Q2 v H') → spLf 12 [.ref ld, .ref q, .ref ev] Hy Q2 E0 := fun {Hy q u L Q2} sy hq lq k =>
            ⟨ld, q, ev, us, u, D, L, rg r, rfl, sy _ _ hldC, pDC.kt (KT.same sy), hq, lq, sy _ _ hevC, by rw [rg_len]; exact hr12, by decide, fun x hx => (rg_bd x hx).1, k⟩
          have cat : ∀ {Hy : Hp} {x y : Addr} {u w : List V} {L M : List Cl} {Q2 : VK}, Hy x = some (.lst u) → LG Hy u L → Hy y = some (.lst w) → LG Hy w M → L.length + M.length ≤ 100 → (∀ q H', Same Hy H' → H' q = some (.lst (u ++ w)) → LG H' (u ++ w) (L ++ M) → Q2 (.ref q) H') → rCat (.ref x) (.ref y) Hy Q2 := fun {Hy x y u w L M Q2} hx lx hy ly len k => by
            have e1 := lx.len
            have e2 := ly.len
            refine ⟨x, y, u, w, rfl, rfl, hx, hy, Nat.le_of_lt (len_big (by omega)), fun p np => ?_⟩
            have sp := same_upd (o := HO.lst (u ++ w)) np
            exact k p _ sp upd_same (paired_append (lx.kt (KT.same sp)) (ly.kt (KT.same sp)))
          refine frm (Same.refl _) haC lgC fun vf G1 t1 hf => ?_
          refine frm t1 (t1 _ _ hb) (lgB.kt (KT.same t1)) fun vg G2 t2 hg => ?_
          have t12 := t1.trans t2
          refine cat (t12 _ _ haC) (lgC.kt (KT.same t12)) (t12 _ _ hb) (lgB.kt (KT.same t12)) (by omega) fun e1 G3 t3 he1 le1 => ?_
          have t13 := t12.trans t3
          refine frm t13 he1 le1 fun vfg G4 t4 hfg => ?_
          have t14 := t13.trans t4
          refine cat (t14 _ _ hb) (lgB.kt (KT.same t14)) (t14 _ _ haC) (lgC.kt (KT.same t14)) (by omega) fun e2 G5 t5 he2 le2 => ?_
          have t15 := t14.trans t5
          refine frm t15 he2 le2 fun vgf G6 t6 hgf => ?_
          have t16 := t15.trans t6
          refine ⟨ld, a1, a2, us, u1, u2, D, A, B, r, rfl, t16 _ _ hldC, pDC.kt (KT.same t16), drs, hr12, d12, t16 _ _ haC, lgC.kt (KT.same t16), t16 _ _ hb, lgB.kt (KT.same t16), fun vp G7 t7 best => hN _ _ ?_⟩
          clear hN N
          have t17 := t16.trans t7
          have hf7 := hf.kt (KT.same ((t2.trans (t3.trans t4)).trans ((t5.trans t6).trans t7)))
          have hg7 := hg.kt (KT.same ((t3.trans t4).trans ((t5.trans t6).trans t7)))
          have hfg7 := hfg.kt (KT.same ((t5.trans t6).trans t7))
          have hgf7 := hgf.kt (KT.same t7)
          clear hf hg hfg hgf he1 le1 he2 le2
          have hld7 := t17 _ _ hldC
          have pD7 := pDC.kt (KT.same t17)
          have hev7 := t17 _ _ hevC
          have ha7 := t17 _ _ haC
          have lgA7 := lgC.kt (KT.same t17)
          have hb7 := t17 _ _ hb
          have lgB7 := lgB.kt (KT.same t17)
          have hT7 := tabs_same hTC t17
          have hTl7 := t17 _ _ hTlC
          have q7 : ∀ H', Xt G7 H' → Q (.bl true) H' := fun H' x => qC H' ((Xt.of t17).trans x)
          clear t17 t16 t15 t14 t13 t12 t7 t6 t5 t4 t3 t2 t1 frm hldC pDC hevC haC lgC hb lgB hTC hTlC qC
          refine sq2 fun N hN => ?_
          walk_at "rd"
          refine ⟨us, .inl (SqL.of hld7), fun ol fol y dy ny ndy ney => ?_⟩
          have w1_ := same_upd (o := HO.lst us) fol
          refine use_init ny ndy upd_same (pD7.kt (KT.same w1_)) (by rw [mm2_same drs]) drs hr1 hr12 fun own G0 hh w2_ _ => ⟨rfl, ?_⟩
          have w0 := w1_.trans w2_
          have lenS : ∀ q, (Om D A B q ∧ ∀ x ∈ q, 0 ≤ x ∧ x < (r : Int)) → q.length ≤ 100000 := fun q h => by
            have := ints_len h.1.1.2.1 h.2
            omega
          have swp : ∀ q, (Om D A B q ∧ ∀ x ∈ q, 0 ≤ x ∧ x < (r : Int)) ↔ (Om D B A q ∧ ∀ x ∈ q, 0 ≤ x ∧ x < (r : Int)) := fun q => by rw [om_swap]
          refine ⟨y, vf, vg, D, A, B, r, own, rfl, hh, hf7.kt (KT.same w0), hg7.kt (KT.same w0), fun v1 G1 w1 b1 => ?_⟩
          have w01 := w0.trans w1
          refine ⟨v1, vp, rfl, best_sm (best.same w01) b1 (fun q => Iff.rfl) lenS 26, ⟨true, rfl, ?_⟩⟩
          rw [if_neg (by decide)]
          refine ⟨y, vg, vf, D, B, A, r, own, rfl, hh.same w1, hg7.kt (KT.same w01), hf7.kt (KT.same w01), fun v2 G2 w2 b2 => ?_⟩
          have w02 := w01.trans w2
          refine ⟨v2, vp, rfl, best_sm (best.same w02) b2 swp lenS 26, ⟨true, rfl, ?_⟩⟩
          rw [if_neg (by decide)]
          refine hN _ _ ?_
          clear hN N
          have hh2 := hh.same (w1.trans w2)
          have hf2 := hf7.kt (KT.same w02)
          have hg2 := hg7.kt (KT.same w02)
          have hfg2 := hfg7.kt (KT.same w02)
          have hgf2 := hgf7.kt (KT.same w02)
          have best2 := best.same w02
          have hld2 := w02 _ _ hld7
          have pD2 := pD7.kt (KT.same w02)
          have hev2 := w02 _ _ hev7
          have ha2 := w02 _ _ ha7
          have lgA2 := lgA7.kt (KT.same w02)
          have hb2 := w02 _ _ hb7
          have lgB2 := lgB7.kt (KT.same w02)
          have hT2 := tabs_same hT7 w02
          have hTl2 := w02 _ _ hTl7
          have q2 : ∀ H', Xt G2 H' → Q (.bl true) H' := fun H' x => q7 H' ((Xt.of w02).trans x)
          clear w02 w01 w0 w1 w2 w1_ w2_ b1 b2 hh hf7 hg7 hfg7 hgf7 best hld7 pD7 hev7 ha7 lgA7 hb7 lgB7 hT7 hTl7 q7
          have app : ∀ {X Y : List Cl}, InR r X → InR r Y → InR r (X ++ Y) := fun hX hY c hc => (List.mem_append.mp hc).elim (hX c) (hY c)
          refine sq2 fun N hN => ?_
          walk_at "rd"
          refine cat ha2 lgA2 hb2 lgB2 (by omega) fun e1 G3 w3 he1 le1 => ?_
          refine cat (w3 _ _ hb2) (lgB2.kt (KT.same w3)) (w3 _ _ ha2) (lgA2.kt (KT.same w3)) (by omega) fun e2 G4 w4 he2 le2 => ?_
          have w34 := w3.trans w4
          refine pp_of ⟨y, e1, e2, _, _, _, _, r, D, own, rfl, hh2.same w34, w4 _ _ he1, le1.kt (KT.same w4), by rw [List.length_append]; omega, app inrA inrB, he2, le2, by rw [List.length_append]; omega, app inrB inrA, fun v5 G5 w5 b5 => ?_⟩
          have w35 := w34.trans w5
          have b5 := best_iff b5 (S' := fun q => Om D A B q ∧ ∀ x ∈ q, 0 ≤ x ∧ x < (r : Int)) fun q => by rw [om_prt]
          refine ⟨v5, vp, rfl, best_sm (best2.same w35) b5 (fun q => Iff.rfl) lenS 26, ⟨true, rfl, ?_⟩⟩
          rw [if_neg (by decide)]
          refine cat (w35 _ _ ha2) (lgA2.kt (KT.same w35)) (w35 _ _ hb2) (lgB2.kt (KT.same w35)) (by omega) fun e3 G6 w6 he3 le3 => ?_
          have w36 := w35.trans w6
          refine cat (w36 _ _ hb2) (lgB2.kt (KT.same w36)) (w36 _ _ ha2) (lgA2.kt (KT.same w36)) (by omega) fun e4 G7 w7 he4 le4 => ?_
          have w37 := w36.trans w7
          have nope : vp = V.non ↔ NoP r D (A ++ B) (B ++ A) := by
            constructor
            · intro z q iq pq
              rcases best2 with ⟨_, t, e1, _⟩ | ⟨_, no⟩
              · rw [e1] at z; cases z
              · exact no q ⟨om_prt.mp pq, iq⟩
            · intro no
              exact best_no best2 fun q hq => no q hq.2 (om_prt.mpr hq.1)
          refine ⟨y, e3, e4, _, _, _, _, r, D, own, rfl, hh2.same w37, w7 _ _ he3, le3.kt (KT.same w7), by rw [List.length_append]; omega, app inrA inrB, he4, le4, by rw [List.length_append]; omega, app inrB inrA, fun k G8 w8 hk => ?_⟩
          have w38 := w37.trans w8
          have ek : k = decide (vp = V.non) := by
            rw [Bool.eq_iff_iff, hk, decide_eq_true_iff, nope]
          refine ⟨_, _, rfl, by rw [ek]; exact Sm.flat rfl, ⟨true, rfl, ?_⟩⟩
          rw [if_neg (by decide)]
          refine hN _ _ ?_
          clear hN N
          have hh8 := hh2.same w38
          have hf8 := hf2.kt (KT.same w38)
          have hg8 := hg2.kt (KT.same w38)
          have hfg8 := hfg2.kt (KT.same w38)
          have hgf8 := hgf2.kt (KT.same w38)
          have hld8 := w38 _ _ hld2
          have pD8 := pD2.kt (KT.same w38)
          have hev8 := w38 _ _ hev2
          have ha8 := w38 _ _ ha2
          have lgA8 := lgA2.kt (KT.same w38)
          have hb8 := w38 _ _ hb2
          have lgB8 := lgB2.kt (KT.same w38)
          have hT8 := tabs_same hT2 w38
          have hTl8 := w38 _ _ hTl2
          have q8 : ∀ H', Xt G8 H' → Q (.bl true) H' := fun H' x => q2 H' ((Xt.of w38).trans x)
          clear w38 w37 w36 w35 w34 w8 w7 w6 w5 w4 w3 b5 he1 le1 he2 le2 he3 le3 he4 le4 hh2 hf2 hg2 hfg2 hgf2 hld2 pD2 hev2 ha2 lgA2 hb2 lgB2 hT2 hTl2 q2 hk ek
          refine sq2 fun N hN => ?_
          walk_at "rd"
          refine use_ov (Ls := [A, B]) hh8 (.cons hf8 (.cons hg8 .nil)) (by show 2 ≤ 60; decide) hT8 fun v3 G9 x9 t9 f3 => ?_
          rw [show [A, B].flatMap id = A ++ B by simp] at f3
          refine ⟨v3, vfg, rfl, sm_up (sm_form f3 (hfg8.kt (KT.xt x9))) (by decide), ⟨true, rfl, ?_⟩⟩
          rw [if_neg (by decide)]
          refine use_ov (Ls := [B, A]) (hh8.xt x9) (.cons (hg8.kt (KT.xt x9)) (.cons (hf8.kt (KT.xt x9)) .nil)) (by show 2 ≤ 60; decide) t9 fun v4 GA xA tA f4 => ?_
          rw [show [B, A].flatMap id = B ++ A by simp] at f4
          have x9A := x9.trans xA
          refine ⟨v4, vgf, rfl, sm_up (sm_form f4 (hgf8.kt (KT.xt x9A))) (by decide), ⟨true, rfl, ?_⟩⟩
          rw [if_neg (by decide)]
          have okF : ∀ {L : List Cl}, (∀ c ∈ L, wk 17 c.2) → FmOk 12 (formF D r L) := fun h => form_ok fun c hc => (h c hc).2
          have wkAB : ∀ {X Y : List Cl}, (∀ c ∈ X, wk 17 c.2) → (∀ c ∈ Y, wk 17 c.2) → ∀ c ∈ X ++ Y, wk 17 c.2 := fun hX hY c hc => (List.mem_append.mp hc).elim (hX c) (hY c)
          have eqn : formF D r (A ++ B) = formF D r (B ++ A) ↔ vp = V.non := by
            rw [form_eq_alk2 hr12, ← nop_alk drs (app inrA inrB) (app inrB inrA), ← nope]
          have goN : N [some (V.ref a), some (V.ref ln), some (V.ref lm), some (V.ref lp), some (V.int r), some (V.ref ld), some (V.ref ev), some (V.ref pz), some (V.ref a1), some (V.ref a2), some vf, some vg, some vfg, some vgf, some vp, some (V.ref y), none] GA := by
            refine hN _ _ ?_
            clear hN N
            have hhA := hh8.xt x9A
            have hfA := hf8.kt (KT.xt x9A)
            have hgA := hg8.kt (KT.xt x9A)
            have hldA2 := x9A.lst hld8
            have pDA2 := pD8.kt (KT.xt x9A)
            have hevA2 := x9A.lst hev8
            have haA2 := x9A.lst ha8
            have lgA2 := lgA8.kt (KT.xt x9A)
            have hbA2 := x9A.lst hb8
            have lgB2 := lgB8.kt (KT.xt x9A)
            have hTlA := x9A.tb hTl8
            have qA : ∀ H', Same GA H' → Q (.bl true) H' := fun H' x => q8 H' (x9A.trans (Xt.of x))
            refine sq2 fun N hN => ?_
            walk_at "rd"
            refine ⟨y, vf, vg, D, A, B, r, rfl, hfA, hgA, hr12, hTlA, fun G1 w1 => ?_⟩
            refine ⟨a1, a2, u1, u2, A, B, r, rfl, w1 _ _ haA2, lgA2.kt (KT.same w1), w1 _ _ hbA2, lgB2.kt (KT.same w1), hr12, fun G2 w2 => ?_⟩
            have w12 := w1.trans w2
            refine ⟨_, _, rfl, Sm.flat rfl, ⟨true, rfl, ?_⟩⟩
            rw [if_neg (by decide)]
            refine ⟨y, vg, vf, D, B, A, r, rfl, hgA.kt (KT.same w12), hfA.kt (KT.same w12), hr12, w12 _ _ hTlA, fun G3 w3 => ?_⟩
            have w13 := w12.trans w3
            refine ⟨a2, a1, u2, u1, B, A, r, rfl, w13 _ _ hbA2, lgB2.kt (KT.same w13), w13 _ _ haA2, lgA2.kt (KT.same w13), hr12, fun G4 w4 => ?_⟩
            have w14 := w13.trans w4
            refine ⟨_, _, rfl, Sm.flat rfl, ⟨true, rfl, ?_⟩⟩
            rw [if_neg (by decide)]
            refine hN _ _ ?_
            clear hN N
            walk_at "rd"
            have hh4 := hhA.same w14
            obtain ⟨dh, lh, mh, lsh, nsh, hhp, _⟩ := hh4.ex
            refine ⟨dh, _, hhp, hf_no _ _ _ (by decide +kernel) (by decide +kernel) (by decide +kernel), y, r, D, own, rfl, hh4, fun ls qd pls nqd => ?_⟩
            have w5 := same_upd (o := HO.lst ls) nqd
            have hqd := upd_same (H := G4) (a := qd) (o := HO.lst ls)
            have pls5 := pls.kt (KT.same w5)
            generalize upd G4 qd (HO.lst ls) = G5 at w5 hqd pls5 ⊢
            have w15 := w14.trans w5
            refine ⟨_, _, rfl, sm_up (sm_pairs (n := 1) hqd (w15 _ _ hldA2) pls5 (pDA2.kt (KT.same w15)) (by rw [pls.len]; omega)) (by decide), ⟨true, rfl, ?_⟩⟩
            rw [if_neg (by decide)]
            refine ⟨Nat.zero_le _, fun e0 ne0 => ?_⟩
            have w6 := same_upd (o := HO.lst []) ne0
            have he0 := upd_same (H := G5) (a := e0) (o := HO.lst [])
            generalize upd G5 e0 (HO.lst []) = G6 at w6 he0 ⊢
            have w16 := w15.trans w6
            refine ⟨ld, e0, ev, us, [], D, [], rg r, rfl, w16 _ _ hldA2, pDA2.kt (KT.same w16), he0, .nil, w16 _ _ hevA2, by rw [rg_len]; exact hr12, by decide, fun x hx => (rg_bd x hx).1, fun vs0 G7 w7 fs => ?_⟩
            have w17 := w16.trans w7
            exact ⟨y, a1, vf, vs0, D, A, u1, r, own, rfl, hhA.same w17, hfA.kt (KT.same w17), fs, w17 _ _ haA2, lgA2.kt (KT.same w17), inrA, w17 _ _ hTlA, fun G8 w8 => qA _ (w17.trans w8)⟩
          refine eq_form (hfg8.kt (KT.xt x9A)) (hgf8.kt (KT.xt x9A)) (okF (wkAB wkA wkB)) (okF (wkAB wkB wkA)) (fun e => ?_) (fun e => ?_)
          · rw [decide_eq_true (eqn.mp e)]
            refine (show rNe (V.bl true) (V.bl true) GA _ from ⟨rfl, _, rfl, ?_⟩)
            rw [if_neg (by simp)]
            exact goN
          · rw [decide_eq_false (fun z => e (eqn.mpr z))]
            refine (show rNe (V.bl false) (V.bl false) GA _ from ⟨rfl, _, rfl, ?_⟩)
            rw [if_neg (by simp)]
            exact goN
        walk_at "rd"
        refine ⟨_, SqL.of (sB _ _ hlpA), .int p25, at_of (j := 25) rfl gp25, p25, rfl, by decide, ?_⟩
        by_cases c : p25 % 3 = 2
        · rw [if_pos c]
          refine lcW ?_
          walk_at "rd"
          have bl := lgB.len
          refine ⟨⟨_, SqL.of hb⟩, gc_list IsC (fun H H' v d h k => by obtain ⟨t, e, h⟩ := h; exact ⟨t, e, k _ _ h⟩) (fun j => B[j]?.bind fun d => if decide (wordP A [d.1] = none) = true then some d else none) hb (by omega) (fun j x Hy X Y gx sy hX hY => ?_) fun t ys HC sC nC hC pC => ?_⟩
          · obtain ⟨d, gd, td, rfl, htd⟩ := pget lgB gx
            rw [gd] at hX hY
            have htd := sy _ _ htd
            walk_at "rd"
            refine ⟨_, SqT.of htd, _, atI_nat (j := 0) rfl, by decide, fun q0 nq0 => ?_⟩
            have w0 := same_upd (o := HO.lst [V.int d.1]) nq0
            have sy0 := (sB.trans sy).trans w0
            refine ⟨a1, q0, u1, A, [d.1], rfl, sy0 _ _ haA, lgAA.kt (KT.same sy0), .inl (SqL.of upd_same), ?_⟩
            have ow : ∀ (L : List Cl) (R : List Int), optW (lastIn R L) = optS (wordP L R) := fun L R => by
              unfold wordP
              cases lastIn R L <;> rfl
            rw [ow]
            have rest : ∀ (z : V), z = optS (wordP A [d.1]) → (fun (x : V) (H1 : Hp) => if x = V.non then X (V.ref td) H1 else Y H1) z (upd Hy q0 (HO.lst [V.int d.1])) := fun z ez => by
              show (if z = V.non then _ else _)
              by_cases c3 : wordP A [d.1] = none
              · rw [if_pos (by rw [ez, c3]; rfl)]
                exact hX _ _ _ (if_pos (decide_eq_true c3)) w0 ⟨td, rfl, w0 _ _ htd⟩
              · rw [if_neg (by rw [ez]; intro z; exact c3 (by revert z; cases wordP A [d.1] <;> simp [optS]))]
                exact hY _ (if_neg (by rw [decide_eq_true_iff]; exact c3)) w0
            exact rest _ rfl
          · rw [bl, fm_range (L := B) (fun d => if decide (wordP A [d.1] = none) = true then some d else none), fm_if] at pC
            refine key3 (B.filter fun d => decide (wordP A [d.1] = none)) ys t HC ?_ (fun d hd => inrB d (List.mem_filter.mp hd).1) (fun d hd => wkB d (List.mem_filter.mp hd).1) (sB.trans sC) hC pC
            have := List.length_filter_le (fun d : Cl => decide (wordP A [d.1] = none)) B
            omega
        · rw [if_neg c]
          exact key3 B u2 a2 HB lB inrB wkB sB hb lgB
      walk_at "rd"
      refine ⟨_, SqL.of hlpA, .int p25, at_of (j := 25) rfl gp25, p25, rfl, by decide, ?_⟩
      by_cases c : p25 % 3 = 1
      · rw [if_pos c]
        refine ⟨a1, a2, u1, u2, A, B, r, rfl, haA, lgAA, ha2, lgB, by omega, inrB, wkA, wkB, fun L zs t HB lL inL wL sB nt ht lz => key2 L zs t HB (by omega) inL wL sB ht lz⟩
      · rw [if_neg c]
        exact key2 B u2 a2 HA lB12 inrB wkB (Same.refl _) ha2 lgB
    refine ⟨ln, rfl, _, SqL.of hln3, .int n79, at_of (j := 79) rfl g79, n79, rfl, by decide, lp, rfl, _, SqL.of hlp, .int p25, at_of (j := 25) rfl gp25, p25, rfl, ⟨by decide, by decide⟩, by decide, ?_⟩
    by_cases c : p25 / 3 % 4 = 1
    · rw [if_pos c]
      refine ⟨ln, rfl, _, SqL.of hln3, .int n79, at_of (j := 79) rfl g79, n79, rfl, by decide, ?_⟩
      obtain ⟨r, er, hr1, hr12⟩ : ∃ r : Nat, 7 + n79 % 6 = (r : Int) ∧ 1 ≤ r ∧ r ≤ 12 := ⟨(7 + n79 % 6).toNat, by omega, by omega, by omega⟩
      rw [er]
      exact key r hr1 hr12
    · rw [if_neg c]
      obtain ⟨r, er, hr1, hr12⟩ : ∃ r : Nat, 1 + n79 % 6 = (r : Int) ∧ 1 ≤ r ∧ r ≤ 12 := ⟨(1 + n79 % 6).toNat, by omega, by omega, by omega⟩
      rw [er]
      exact key r hr1 hr12
end

set_option maxHeartbeats 8000000 in
theorem all_mk {l : PySem.W.OpenLaw} {w : World} {K : PySem.W.Frag} {h : Heap} {mg : Str → Option Value} {fa : Addr} (X : K.In h) (G : h.Ns mainGlobals mg) (hfa : mg "law" = some (.ref fa))
    {f_check_room_count : Addr} {od_check_room_count an_check_room_count : Option Addr} {sl_check_room_count : Array (Option Value)} {oc_check_room_count kV_check_room_count dc_check_room_count pm_check_room_count cd_check_room_count ct_check_room_count : Value}
    {f_checked_doors : Addr} {od_checked_doors an_checked_doors : Option Addr} {sl_checked_doors : Array (Option Value)} {oc_checked_doors kV_checked_doors dc_checked_doors pm_checked_doors cd_checked_doors ct_checked_doors : Value}
    {f__law_cell : Addr} {od__law_cell an__law_cell : Option Addr} {sl__law_cell : Array (Option Value)} {oc__law_cell kV__law_cell dc__law_cell pm__law_cell cd__law_cell ct__law_cell : Value}
    {f__law_numbers : Addr} {od__law_numbers an__law_numbers : Option Addr} {sl__law_numbers : Array (Option Value)} {oc__law_numbers kV__law_numbers dc__law_numbers pm__law_numbers cd__law_numbers ct__law_numbers : Value}
    {f__law_names : Addr} {od__law_names an__law_names : Option Addr} {sl__law_names : Array (Option Value)} {oc__law_names kV__law_names dc__law_names pm__law_names cd__law_names ct__law_names : Value}
    {f__law_joined : Addr} {od__law_joined an__law_joined : Option Addr} {sl__law_joined : Array (Option Value)} {oc__law_joined kV__law_joined dc__law_joined pm__law_joined cd__law_joined ct__law_joined : Value}
    {f__law_doors : Addr} {od__law_doors an__law_doors : Option Addr} {sl__law_doors : Array (Option Value)} {oc__law_doors kV__law_doors dc__law_doors pm__law_doors cd__law_doors ct__law_doors : Value}
    {f__law_fewer : Addr} {od__law_fewer an__law_fewer : Option Addr} {sl__law_fewer : Array (Option Value)} {oc__law_fewer kV__law_fewer dc__law_fewer pm__law_fewer cd__law_fewer ct__law_fewer : Value}
    {f__law_word : Addr} {od__law_word an__law_word : Option Addr} {sl__law_word : Array (Option Value)} {oc__law_word kV__law_word dc__law_word pm__law_word cd__law_word ct__law_word : Value}
    {f__law_words : Addr} {od__law_words an__law_words : Option Addr} {sl__law_words : Array (Option Value)} {oc__law_words kV__law_words dc__law_words pm__law_words cd__law_words ct__law_words : Value}
    {f__law_log : Addr} {od__law_log an__law_log : Option Addr} {sl__law_log : Array (Option Value)} {oc__law_log kV__law_log dc__law_log pm__law_log cd__law_log ct__law_log : Value}
    {f__law_word_of : Addr} {od__law_word_of an__law_word_of : Option Addr} {sl__law_word_of : Array (Option Value)} {oc__law_word_of kV__law_word_of dc__law_word_of pm__law_word_of cd__law_word_of ct__law_word_of : Value}
    {f__law_agreeing : Addr} {od__law_agreeing an__law_agreeing : Option Addr} {sl__law_agreeing : Array (Option Value)} {oc__law_agreeing kV__law_agreeing dc__law_agreeing pm__law_agreeing cd__law_agreeing ct__law_agreeing : Value}
    {f__law_reach : Addr} {od__law_reach an__law_reach : Option Addr} {sl__law_reach : Array (Option Value)} {oc__law_reach kV__law_reach dc__law_reach pm__law_reach cd__law_reach ct__law_reach : Value}
    {f__law_pieces : Addr} {od__law_pieces an__law_pieces : Option Addr} {sl__law_pieces : Array (Option Value)} {oc__law_pieces kV__law_pieces dc__law_pieces pm__law_pieces cd__law_pieces ct__law_pieces : Value}
    {f__law_top : Addr} {od__law_top an__law_top : Option Addr} {sl__law_top : Array (Option Value)} {oc__law_top kV__law_top dc__law_top pm__law_top cd__law_top ct__law_top : Value}
    {f__law_tops : Addr} {od__law_tops an__law_tops : Option Addr} {sl__law_tops : Array (Option Value)} {oc__law_tops kV__law_tops dc__law_tops pm__law_tops cd__law_tops ct__law_tops : Value}
    {f__law_form : Addr} {od__law_form an__law_form : Option Addr} {sl__law_form : Array (Option Value)} {oc__law_form kV__law_form dc__law_form pm__law_form cd__law_form ct__law_form : Value}
    {f__law_longer : Addr} {od__law_longer an__law_longer : Option Addr} {sl__law_longer : Array (Option Value)} {oc__law_longer kV__law_longer dc__law_longer pm__law_longer cd__law_longer ct__law_longer : Value}
    {f__law_first_apart : Addr} {od__law_first_apart an__law_first_apart : Option Addr} {sl__law_first_apart : Array (Option Value)} {oc__law_first_apart kV__law_first_apart dc__law_first_apart pm__law_first_apart cd__law_first_apart ct__law_first_apart : Value}
    {f__law_same : Addr} {od__law_same an__law_same : Option Addr} {sl__law_same : Array (Option Value)} {oc__law_same kV__law_same dc__law_same pm__law_same cd__law_same ct__law_same : Value}
    {f_plain_log : Addr} {od_plain_log an_plain_log : Option Addr} {sl_plain_log : Array (Option Value)} {oc_plain_log kV_plain_log dc_plain_log pm_plain_log cd_plain_log ct_plain_log : Value}
    {f_words_of : Addr} {od_words_of an_words_of : Option Addr} {sl_words_of : Array (Option Value)} {oc_words_of kV_words_of dc_words_of pm_words_of cd_words_of ct_words_of : Value}
    {f_unlike_room : Addr} {od_unlike_room an_unlike_room : Option Addr} {sl_unlike_room : Array (Option Value)} {oc_unlike_room kV_unlike_room dc_unlike_room pm_unlike_room cd_unlike_room ct_unlike_room : Value}
    {f_last_calls : Addr} {od_last_calls an_last_calls : Option Addr} {sl_last_calls : Array (Option Value)} {oc_last_calls kV_last_calls dc_last_calls pm_last_calls cd_last_calls ct_last_calls : Value}
    {f_last_places : Addr} {od_last_places an_last_places : Option Addr} {sl_last_places : Array (Option Value)} {oc_last_places kV_last_places dc_last_places pm_last_places cd_last_places ct_last_places : Value}
    {f_crossed_pairs : Addr} {od_crossed_pairs an_crossed_pairs : Option Addr} {sl_crossed_pairs : Array (Option Value)} {oc_crossed_pairs kV_crossed_pairs dc_crossed_pairs pm_crossed_pairs cd_crossed_pairs ct_crossed_pairs : Value}
    {f_hall : Addr} {od_hall an_hall : Option Addr} {sl_hall : Array (Option Value)} {oc_hall kV_hall dc_hall pm_hall cd_hall ct_hall : Value}
    {f_first_paths : Addr} {od_first_paths an_first_paths : Option Addr} {sl_first_paths : Array (Option Value)} {oc_first_paths kV_first_paths dc_first_paths pm_first_paths cd_first_paths ct_first_paths : Value}
    {f_first_path : Addr} {od_first_path an_first_path : Option Addr} {sl_first_path : Array (Option Value)} {oc_first_path kV_first_path dc_first_path pm_first_path cd_first_path ct_first_path : Value}
    {f_parting_path : Addr} {od_parting_path an_parting_path : Option Addr} {sl_parting_path : Array (Option Value)} {oc_parting_path kV_parting_path dc_parting_path pm_parting_path cd_parting_path ct_parting_path : Value}
    {f_order_matters : Addr} {od_order_matters an_order_matters : Option Addr} {sl_order_matters : Array (Option Value)} {oc_order_matters kV_order_matters dc_order_matters pm_order_matters cd_order_matters ct_order_matters : Value}
    {f_alike : Addr} {od_alike an_alike : Option Addr} {sl_alike : Array (Option Value)} {oc_alike kV_alike dc_alike pm_alike cd_alike ct_alike : Value}
    {f_blocks : Addr} {od_blocks an_blocks : Option Addr} {sl_blocks : Array (Option Value)} {oc_blocks kV_blocks dc_blocks pm_blocks cd_blocks ct_blocks : Value}
    {f_words_by_form : Addr} {od_words_by_form an_words_by_form : Option Addr} {sl_words_by_form : Array (Option Value)} {oc_words_by_form kV_words_by_form dc_words_by_form pm_words_by_form cd_words_by_form ct_words_by_form : Value}
    {f_called_rooms : Addr} {od_called_rooms an_called_rooms : Option Addr} {sl_called_rooms : Array (Option Value)} {oc_called_rooms kV_called_rooms dc_called_rooms pm_called_rooms cd_called_rooms ct_called_rooms : Value}
    {f_called_by_form : Addr} {od_called_by_form an_called_by_form : Option Addr} {sl_called_by_form : Array (Option Value)} {oc_called_by_form kV_called_by_form dc_called_by_form pm_called_by_form cd_called_by_form ct_called_by_form : Value}
    {co_lies_in tb_lies_in : Addr}
    {f_lies_in : Addr} {od_lies_in an_lies_in : Option Addr} {sl_lies_in : Array (Option Value)} {oc_lies_in kV_lies_in dc_lies_in pm_lies_in cd_lies_in ct_lies_in : Value}
    {f_hides : Addr} {od_hides an_hides : Option Addr} {sl_hides : Array (Option Value)} {oc_hides kV_hides dc_hides pm_hides cd_hides ct_hides : Value}
    {f__law_all_called : Addr} {od__law_all_called an__law_all_called : Option Addr} {sl__law_all_called : Array (Option Value)} {oc__law_all_called kV__law_all_called dc__law_all_called pm__law_all_called cd__law_all_called ct__law_all_called : Value}
    {f__law_alone : Addr} {od__law_alone an__law_alone : Option Addr} {sl__law_alone : Array (Option Value)} {oc__law_alone kV__law_alone dc__law_alone pm__law_alone cd__law_alone ct__law_alone : Value}
    {f_last_call_in : Addr} {od_last_call_in an_last_call_in : Option Addr} {sl_last_call_in : Array (Option Value)} {oc_last_call_in kV_last_call_in dc_last_call_in pm_last_call_in cd_last_call_in ct_last_call_in : Value}
    {f_word_of : Addr} {od_word_of an_word_of : Option Addr} {sl_word_of : Array (Option Value)} {oc_word_of kV_word_of dc_word_of pm_word_of cd_word_of ct_word_of : Value}
    {f_reached : Addr} {od_reached an_reached : Option Addr} {sl_reached : Array (Option Value)} {oc_reached kV_reached dc_reached pm_reached cd_reached ct_reached : Value}
    {f_pieces : Addr} {od_pieces an_pieces : Option Addr} {sl_pieces : Array (Option Value)} {oc_pieces kV_pieces dc_pieces pm_pieces cd_pieces ct_pieces : Value}
    {f_top_room : Addr} {od_top_room an_top_room : Option Addr} {sl_top_room : Array (Option Value)} {oc_top_room kV_top_room dc_top_room pm_top_room cd_top_room ct_top_room : Value}
    {f_called_keepers : Addr} {od_called_keepers an_called_keepers : Option Addr} {sl_called_keepers : Array (Option Value)} {oc_called_keepers kV_called_keepers dc_called_keepers pm_called_keepers cd_called_keepers ct_called_keepers : Value}
    {co_form_of tb_form_of : Addr}
    {f_form_of : Addr} {od_form_of an_form_of : Option Addr} {sl_form_of : Array (Option Value)} {oc_form_of kV_form_of dc_form_of pm_form_of cd_form_of ct_form_of : Value}
    {f_overlay : Addr} {od_overlay an_overlay : Option Addr} {sl_overlay : Array (Option Value)} {oc_overlay kV_overlay dc_overlay pm_overlay cd_overlay ct_overlay : Value}
    {co_build_form tb_build_form : Addr}
    {f_build_form : Addr} {od_build_form an_build_form : Option Addr} {sl_build_form : Array (Option Value)} {oc_build_form kV_build_form dc_build_form pm_build_form cd_build_form ct_build_form : Value}
    {f_law : Addr} {od_law an_law : Option Addr} {sl_law : Array (Option Value)} {oc_law kV_law dc_law pm_law cd_law ct_law : Value}
    {f_m_init_ : Addr} {od_m_init_ an_m_init_ : Option Addr} {sl_m_init_ : Array (Option Value)} {oc_m_init_ kV_m_init_ dc_m_init_ pm_m_init_ cd_m_init_ ct_m_init_ : Value}
    {f_mdoors : Addr} {od_mdoors an_mdoors : Option Addr} {sl_mdoors : Array (Option Value)} {oc_mdoors kV_mdoors dc_mdoors pm_mdoors cd_mdoors ct_mdoors : Value}
    {f_mneighbours : Addr} {od_mneighbours an_mneighbours : Option Addr} {sl_mneighbours : Array (Option Value)} {oc_mneighbours kV_mneighbours dc_mneighbours pm_mneighbours cd_mneighbours ct_mneighbours : Value}
    {C : Addr}
    {tk_MOST_ROOMS : Tok}
    (aC : PySem.W.nsIn K mainGlobals "House" = some (some (.ref C)))
    (pg : PySem.W.plainGet K C Str.empty = true)
    (hd : PySem.W.hasDictIn K C = true)
    (po : PySem.W.plainOver K C = true)
    (sa : PySem.W.findIn K (.ref C) "__setattr__" = some (some (.builtin "object.__setattr__")))
    (mk : PySem.W.makesIn K C = true)
    (kc : PySem.W.keepIn K (.ref C) = true)
    (a_check_room_count : PySem.W.nsIn K mainGlobals "check_room_count" = some (some (.ref f_check_room_count)))
    (l_check_room_count : K.lookup f_check_room_count = some ⟨oc_check_room_count, od_check_room_count, .func (PySem.W.fnOf "check_room_count" "check_room_count" (defArgs sRoom) (defBody sRoom) (defScope sRoom) .none kV_check_room_count dc_check_room_count pm_check_room_count an_check_room_count cd_check_room_count ct_check_room_count), sl_check_room_count⟩)
    (c_check_room_count : PySem.W.codeIn K cd_check_room_count "check_room_count" = true)
    (k_check_room_count : PySem.W.keepIn K (.ref f_check_room_count) = true)
    (a_checked_doors : PySem.W.nsIn K mainGlobals "checked_doors" = some (some (.ref f_checked_doors)))
    (l_checked_doors : K.lookup f_checked_doors = some ⟨oc_checked_doors, od_checked_doors, .func (PySem.W.fnOf "checked_doors" "checked_doors" (defArgs sChk) (defBody sChk) (defScope sChk) .none kV_checked_doors dc_checked_doors pm_checked_doors an_checked_doors cd_checked_doors ct_checked_doors), sl_checked_doors⟩)
    (c_checked_doors : PySem.W.codeIn K cd_checked_doors "checked_doors" = true)
    (k_checked_doors : PySem.W.keepIn K (.ref f_checked_doors) = true)
    (a__law_cell : PySem.W.nsIn K mainGlobals "_law_cell" = some (some (.ref f__law_cell)))
    (l__law_cell : K.lookup f__law_cell = some ⟨oc__law_cell, od__law_cell, .func (PySem.W.fnOf "_law_cell" "_law_cell" (defArgs sCell) (defBody sCell) (defScope sCell) .none kV__law_cell dc__law_cell pm__law_cell an__law_cell cd__law_cell ct__law_cell), sl__law_cell⟩)
    (c__law_cell : PySem.W.codeIn K cd__law_cell "_law_cell" = true)
    (k__law_cell : PySem.W.keepIn K (.ref f__law_cell) = true)
    (a__law_numbers : PySem.W.nsIn K mainGlobals "_law_numbers" = some (some (.ref f__law_numbers)))
    (l__law_numbers : K.lookup f__law_numbers = some ⟨oc__law_numbers, od__law_numbers, .func (PySem.W.fnOf "_law_numbers" "_law_numbers" (defArgs sNum) (defBody sNum) (defScope sNum) .none kV__law_numbers dc__law_numbers pm__law_numbers an__law_numbers cd__law_numbers ct__law_numbers), sl__law_numbers⟩)
    (c__law_numbers : PySem.W.codeIn K cd__law_numbers "_law_numbers" = true)
    (k__law_numbers : PySem.W.keepIn K (.ref f__law_numbers) = true)
    (a__law_names : PySem.W.nsIn K mainGlobals "_law_names" = some (some (.ref f__law_names)))
    (l__law_names : K.lookup f__law_names = some ⟨oc__law_names, od__law_names, .func (PySem.W.fnOf "_law_names" "_law_names" (defArgs sNam) (defBody sNam) (defScope sNam) .none kV__law_names dc__law_names pm__law_names an__law_names cd__law_names ct__law_names), sl__law_names⟩)
    (c__law_names : PySem.W.codeIn K cd__law_names "_law_names" = true)
    (k__law_names : PySem.W.keepIn K (.ref f__law_names) = true)
    (a__law_joined : PySem.W.nsIn K mainGlobals "_law_joined" = some (some (.ref f__law_joined)))
    (l__law_joined : K.lookup f__law_joined = some ⟨oc__law_joined, od__law_joined, .func (PySem.W.fnOf "_law_joined" "_law_joined" (defArgs sJnd) (defBody sJnd) (defScope sJnd) .none kV__law_joined dc__law_joined pm__law_joined an__law_joined cd__law_joined ct__law_joined), sl__law_joined⟩)
    (c__law_joined : PySem.W.codeIn K cd__law_joined "_law_joined" = true)
    (k__law_joined : PySem.W.keepIn K (.ref f__law_joined) = true)
    (a__law_doors : PySem.W.nsIn K mainGlobals "_law_doors" = some (some (.ref f__law_doors)))
    (l__law_doors : K.lookup f__law_doors = some ⟨oc__law_doors, od__law_doors, .func (PySem.W.fnOf "_law_doors" "_law_doors" (defArgs sDrs) (defBody sDrs) (defScope sDrs) .none kV__law_doors dc__law_doors pm__law_doors an__law_doors cd__law_doors ct__law_doors), sl__law_doors⟩)
    (c__law_doors : PySem.W.codeIn K cd__law_doors "_law_doors" = true)
    (k__law_doors : PySem.W.keepIn K (.ref f__law_doors) = true)
    (a__law_fewer : PySem.W.nsIn K mainGlobals "_law_fewer" = some (some (.ref f__law_fewer)))
    (l__law_fewer : K.lookup f__law_fewer = some ⟨oc__law_fewer, od__law_fewer, .func (PySem.W.fnOf "_law_fewer" "_law_fewer" (defArgs sFew) (defBody sFew) (defScope sFew) .none kV__law_fewer dc__law_fewer pm__law_fewer an__law_fewer cd__law_fewer ct__law_fewer), sl__law_fewer⟩)
    (c__law_fewer : PySem.W.codeIn K cd__law_fewer "_law_fewer" = true)
    (k__law_fewer : PySem.W.keepIn K (.ref f__law_fewer) = true)
    (a__law_word : PySem.W.nsIn K mainGlobals "_law_word" = some (some (.ref f__law_word)))
    (l__law_word : K.lookup f__law_word = some ⟨oc__law_word, od__law_word, .func (PySem.W.fnOf "_law_word" "_law_word" (defArgs sLwd) (defBody sLwd) (defScope sLwd) .none kV__law_word dc__law_word pm__law_word an__law_word cd__law_word ct__law_word), sl__law_word⟩)
    (c__law_word : PySem.W.codeIn K cd__law_word "_law_word" = true)
    (k__law_word : PySem.W.keepIn K (.ref f__law_word) = true)
    (a__law_words : PySem.W.nsIn K mainGlobals "_law_words" = some (some (.ref f__law_words)))
    (l__law_words : K.lookup f__law_words = some ⟨oc__law_words, od__law_words, .func (PySem.W.fnOf "_law_words" "_law_words" (defArgs sLws) (defBody sLws) (defScope sLws) .none kV__law_words dc__law_words pm__law_words an__law_words cd__law_words ct__law_words), sl__law_words⟩)
    (c__law_words : PySem.W.codeIn K cd__law_words "_law_words" = true)
    (k__law_words : PySem.W.keepIn K (.ref f__law_words) = true)
    (a__law_log : PySem.W.nsIn K mainGlobals "_law_log" = some (some (.ref f__law_log)))
    (l__law_log : K.lookup f__law_log = some ⟨oc__law_log, od__law_log, .func (PySem.W.fnOf "_law_log" "_law_log" (defArgs sLlg) (defBody sLlg) (defScope sLlg) .none kV__law_log dc__law_log pm__law_log an__law_log cd__law_log ct__law_log), sl__law_log⟩)
    (c__law_log : PySem.W.codeIn K cd__law_log "_law_log" = true)
    (k__law_log : PySem.W.keepIn K (.ref f__law_log) = true)
    (a__law_word_of : PySem.W.nsIn K mainGlobals "_law_word_of" = some (some (.ref f__law_word_of)))
    (l__law_word_of : K.lookup f__law_word_of = some ⟨oc__law_word_of, od__law_word_of, .func (PySem.W.fnOf "_law_word_of" "_law_word_of" (defArgs sLwof) (defBody sLwof) (defScope sLwof) .none kV__law_word_of dc__law_word_of pm__law_word_of an__law_word_of cd__law_word_of ct__law_word_of), sl__law_word_of⟩)
    (c__law_word_of : PySem.W.codeIn K cd__law_word_of "_law_word_of" = true)
    (k__law_word_of : PySem.W.keepIn K (.ref f__law_word_of) = true)
    (a__law_agreeing : PySem.W.nsIn K mainGlobals "_law_agreeing" = some (some (.ref f__law_agreeing)))
    (l__law_agreeing : K.lookup f__law_agreeing = some ⟨oc__law_agreeing, od__law_agreeing, .func (PySem.W.fnOf "_law_agreeing" "_law_agreeing" (defArgs sLag) (defBody sLag) (defScope sLag) .none kV__law_agreeing dc__law_agreeing pm__law_agreeing an__law_agreeing cd__law_agreeing ct__law_agreeing), sl__law_agreeing⟩)
    (c__law_agreeing : PySem.W.codeIn K cd__law_agreeing "_law_agreeing" = true)
    (k__law_agreeing : PySem.W.keepIn K (.ref f__law_agreeing) = true)
    (a__law_reach : PySem.W.nsIn K mainGlobals "_law_reach" = some (some (.ref f__law_reach)))
    (l__law_reach : K.lookup f__law_reach = some ⟨oc__law_reach, od__law_reach, .func (PySem.W.fnOf "_law_reach" "_law_reach" (defArgs sLre) (defBody sLre) (defScope sLre) .none kV__law_reach dc__law_reach pm__law_reach an__law_reach cd__law_reach ct__law_reach), sl__law_reach⟩)
    (c__law_reach : PySem.W.codeIn K cd__law_reach "_law_reach" = true)
    (k__law_reach : PySem.W.keepIn K (.ref f__law_reach) = true)
    (a__law_pieces : PySem.W.nsIn K mainGlobals "_law_pieces" = some (some (.ref f__law_pieces)))
    (l__law_pieces : K.lookup f__law_pieces = some ⟨oc__law_pieces, od__law_pieces, .func (PySem.W.fnOf "_law_pieces" "_law_pieces" (defArgs sLpc) (defBody sLpc) (defScope sLpc) .none kV__law_pieces dc__law_pieces pm__law_pieces an__law_pieces cd__law_pieces ct__law_pieces), sl__law_pieces⟩)
    (c__law_pieces : PySem.W.codeIn K cd__law_pieces "_law_pieces" = true)
    (k__law_pieces : PySem.W.keepIn K (.ref f__law_pieces) = true)
    (a__law_top : PySem.W.nsIn K mainGlobals "_law_top" = some (some (.ref f__law_top)))
    (l__law_top : K.lookup f__law_top = some ⟨oc__law_top, od__law_top, .func (PySem.W.fnOf "_law_top" "_law_top" (defArgs sLtop) (defBody sLtop) (defScope sLtop) .none kV__law_top dc__law_top pm__law_top an__law_top cd__law_top ct__law_top), sl__law_top⟩)
    (c__law_top : PySem.W.codeIn K cd__law_top "_law_top" = true)
    (k__law_top : PySem.W.keepIn K (.ref f__law_top) = true)
    (a__law_tops : PySem.W.nsIn K mainGlobals "_law_tops" = some (some (.ref f__law_tops)))
    (l__law_tops : K.lookup f__law_tops = some ⟨oc__law_tops, od__law_tops, .func (PySem.W.fnOf "_law_tops" "_law_tops" (defArgs sLts) (defBody sLts) (defScope sLts) .none kV__law_tops dc__law_tops pm__law_tops an__law_tops cd__law_tops ct__law_tops), sl__law_tops⟩)
    (c__law_tops : PySem.W.codeIn K cd__law_tops "_law_tops" = true)
    (k__law_tops : PySem.W.keepIn K (.ref f__law_tops) = true)
    (a__law_form : PySem.W.nsIn K mainGlobals "_law_form" = some (some (.ref f__law_form)))
    (l__law_form : K.lookup f__law_form = some ⟨oc__law_form, od__law_form, .func (PySem.W.fnOf "_law_form" "_law_form" (defArgs sLf) (defBody sLf) (defScope sLf) .none kV__law_form dc__law_form pm__law_form an__law_form cd__law_form ct__law_form), sl__law_form⟩)
    (c__law_form : PySem.W.codeIn K cd__law_form "_law_form" = true)
    (k__law_form : PySem.W.keepIn K (.ref f__law_form) = true)
    (a__law_longer : PySem.W.nsIn K mainGlobals "_law_longer" = some (some (.ref f__law_longer)))
    (l__law_longer : K.lookup f__law_longer = some ⟨oc__law_longer, od__law_longer, .func (PySem.W.fnOf "_law_longer" "_law_longer" (defArgs sLlo) (defBody sLlo) (defScope sLlo) .none kV__law_longer dc__law_longer pm__law_longer an__law_longer cd__law_longer ct__law_longer), sl__law_longer⟩)
    (c__law_longer : PySem.W.codeIn K cd__law_longer "_law_longer" = true)
    (k__law_longer : PySem.W.keepIn K (.ref f__law_longer) = true)
    (a__law_first_apart : PySem.W.nsIn K mainGlobals "_law_first_apart" = some (some (.ref f__law_first_apart)))
    (l__law_first_apart : K.lookup f__law_first_apart = some ⟨oc__law_first_apart, od__law_first_apart, .func (PySem.W.fnOf "_law_first_apart" "_law_first_apart" (defArgs sLfa) (defBody sLfa) (defScope sLfa) .none kV__law_first_apart dc__law_first_apart pm__law_first_apart an__law_first_apart cd__law_first_apart ct__law_first_apart), sl__law_first_apart⟩)
    (c__law_first_apart : PySem.W.codeIn K cd__law_first_apart "_law_first_apart" = true)
    (k__law_first_apart : PySem.W.keepIn K (.ref f__law_first_apart) = true)
    (a__law_same : PySem.W.nsIn K mainGlobals "_law_same" = some (some (.ref f__law_same)))
    (l__law_same : K.lookup f__law_same = some ⟨oc__law_same, od__law_same, .func (PySem.W.fnOf "_law_same" "_law_same" (defArgs sSame) (defBody sSame) (defScope sSame) .none kV__law_same dc__law_same pm__law_same an__law_same cd__law_same ct__law_same), sl__law_same⟩)
    (c__law_same : PySem.W.codeIn K cd__law_same "_law_same" = true)
    (k__law_same : PySem.W.keepIn K (.ref f__law_same) = true)
    (a_plain_log : PySem.W.nsIn K mainGlobals "plain_log" = some (some (.ref f_plain_log)))
    (l_plain_log : K.lookup f_plain_log = some ⟨oc_plain_log, od_plain_log, .func (PySem.W.fnOf "plain_log" "plain_log" (defArgs sPlg) (defBody sPlg) (defScope sPlg) .none kV_plain_log dc_plain_log pm_plain_log an_plain_log cd_plain_log ct_plain_log), sl_plain_log⟩)
    (c_plain_log : PySem.W.codeIn K cd_plain_log "plain_log" = true)
    (k_plain_log : PySem.W.keepIn K (.ref f_plain_log) = true)
    (a_words_of : PySem.W.nsIn K mainGlobals "words_of" = some (some (.ref f_words_of)))
    (l_words_of : K.lookup f_words_of = some ⟨oc_words_of, od_words_of, .func (PySem.W.fnOf "words_of" "words_of" (defArgs sWds) (defBody sWds) (defScope sWds) .none kV_words_of dc_words_of pm_words_of an_words_of cd_words_of ct_words_of), sl_words_of⟩)
    (c_words_of : PySem.W.codeIn K cd_words_of "words_of" = true)
    (k_words_of : PySem.W.keepIn K (.ref f_words_of) = true)
    (a_unlike_room : PySem.W.nsIn K mainGlobals "unlike_room" = some (some (.ref f_unlike_room)))
    (l_unlike_room : K.lookup f_unlike_room = some ⟨oc_unlike_room, od_unlike_room, .func (PySem.W.fnOf "unlike_room" "unlike_room" (defArgs sUr) (defBody sUr) (defScope sUr) .none kV_unlike_room dc_unlike_room pm_unlike_room an_unlike_room cd_unlike_room ct_unlike_room), sl_unlike_room⟩)
    (c_unlike_room : PySem.W.codeIn K cd_unlike_room "unlike_room" = true)
    (k_unlike_room : PySem.W.keepIn K (.ref f_unlike_room) = true)
    (a_last_calls : PySem.W.nsIn K mainGlobals "last_calls" = some (some (.ref f_last_calls)))
    (l_last_calls : K.lookup f_last_calls = some ⟨oc_last_calls, od_last_calls, .func (PySem.W.fnOf "last_calls" "last_calls" (defArgs sLast) (defBody sLast) (defScope sLast) .none kV_last_calls dc_last_calls pm_last_calls an_last_calls cd_last_calls ct_last_calls), sl_last_calls⟩)
    (c_last_calls : PySem.W.codeIn K cd_last_calls "last_calls" = true)
    (k_last_calls : PySem.W.keepIn K (.ref f_last_calls) = true)
    (a_last_places : PySem.W.nsIn K mainGlobals "last_places" = some (some (.ref f_last_places)))
    (l_last_places : K.lookup f_last_places = some ⟨oc_last_places, od_last_places, .func (PySem.W.fnOf "last_places" "last_places" (defArgs sLp) (defBody sLp) (defScope sLp) .none kV_last_places dc_last_places pm_last_places an_last_places cd_last_places ct_last_places), sl_last_places⟩)
    (c_last_places : PySem.W.codeIn K cd_last_places "last_places" = true)
    (k_last_places : PySem.W.keepIn K (.ref f_last_places) = true)
    (a_crossed_pairs : PySem.W.nsIn K mainGlobals "crossed_pairs" = some (some (.ref f_crossed_pairs)))
    (l_crossed_pairs : K.lookup f_crossed_pairs = some ⟨oc_crossed_pairs, od_crossed_pairs, .func (PySem.W.fnOf "crossed_pairs" "crossed_pairs" (defArgs sCrp) (defBody sCrp) (defScope sCrp) .none kV_crossed_pairs dc_crossed_pairs pm_crossed_pairs an_crossed_pairs cd_crossed_pairs ct_crossed_pairs), sl_crossed_pairs⟩)
    (c_crossed_pairs : PySem.W.codeIn K cd_crossed_pairs "crossed_pairs" = true)
    (k_crossed_pairs : PySem.W.keepIn K (.ref f_crossed_pairs) = true)
    (a_hall : PySem.W.nsIn K mainGlobals "hall" = some (some (.ref f_hall)))
    (l_hall : K.lookup f_hall = some ⟨oc_hall, od_hall, .func (PySem.W.fnOf "hall" "hall" (defArgs sHall) (defBody sHall) (defScope sHall) .none kV_hall dc_hall pm_hall an_hall cd_hall ct_hall), sl_hall⟩)
    (c_hall : PySem.W.codeIn K cd_hall "hall" = true)
    (k_hall : PySem.W.keepIn K (.ref f_hall) = true)
    (a_first_paths : PySem.W.nsIn K mainGlobals "first_paths" = some (some (.ref f_first_paths)))
    (l_first_paths : K.lookup f_first_paths = some ⟨oc_first_paths, od_first_paths, .func (PySem.W.fnOf "first_paths" "first_paths" (defArgs sFp) (defBody sFp) (defScope sFp) .none kV_first_paths dc_first_paths pm_first_paths an_first_paths cd_first_paths ct_first_paths), sl_first_paths⟩)
    (c_first_paths : PySem.W.codeIn K cd_first_paths "first_paths" = true)
    (k_first_paths : PySem.W.keepIn K (.ref f_first_paths) = true)
    (a_first_path : PySem.W.nsIn K mainGlobals "first_path" = some (some (.ref f_first_path)))
    (l_first_path : K.lookup f_first_path = some ⟨oc_first_path, od_first_path, .func (PySem.W.fnOf "first_path" "first_path" (defArgs sFst) (defBody sFst) (defScope sFst) .none kV_first_path dc_first_path pm_first_path an_first_path cd_first_path ct_first_path), sl_first_path⟩)
    (c_first_path : PySem.W.codeIn K cd_first_path "first_path" = true)
    (k_first_path : PySem.W.keepIn K (.ref f_first_path) = true)
    (a_parting_path : PySem.W.nsIn K mainGlobals "parting_path" = some (some (.ref f_parting_path)))
    (l_parting_path : K.lookup f_parting_path = some ⟨oc_parting_path, od_parting_path, .func (PySem.W.fnOf "parting_path" "parting_path" (defArgs sPp) (defBody sPp) (defScope sPp) .none kV_parting_path dc_parting_path pm_parting_path an_parting_path cd_parting_path ct_parting_path), sl_parting_path⟩)
    (c_parting_path : PySem.W.codeIn K cd_parting_path "parting_path" = true)
    (k_parting_path : PySem.W.keepIn K (.ref f_parting_path) = true)
    (a_order_matters : PySem.W.nsIn K mainGlobals "order_matters" = some (some (.ref f_order_matters)))
    (l_order_matters : K.lookup f_order_matters = some ⟨oc_order_matters, od_order_matters, .func (PySem.W.fnOf "order_matters" "order_matters" (defArgs sOm) (defBody sOm) (defScope sOm) .none kV_order_matters dc_order_matters pm_order_matters an_order_matters cd_order_matters ct_order_matters), sl_order_matters⟩)
    (c_order_matters : PySem.W.codeIn K cd_order_matters "order_matters" = true)
    (k_order_matters : PySem.W.keepIn K (.ref f_order_matters) = true)
    (a_alike : PySem.W.nsIn K mainGlobals "alike" = some (some (.ref f_alike)))
    (l_alike : K.lookup f_alike = some ⟨oc_alike, od_alike, .func (PySem.W.fnOf "alike" "alike" (defArgs sAlk) (defBody sAlk) (defScope sAlk) .none kV_alike dc_alike pm_alike an_alike cd_alike ct_alike), sl_alike⟩)
    (c_alike : PySem.W.codeIn K cd_alike "alike" = true)
    (k_alike : PySem.W.keepIn K (.ref f_alike) = true)
    (a_blocks : PySem.W.nsIn K mainGlobals "blocks" = some (some (.ref f_blocks)))
    (l_blocks : K.lookup f_blocks = some ⟨oc_blocks, od_blocks, .func (PySem.W.fnOf "blocks" "blocks" (defArgs sBlc) (defBody sBlc) (defScope sBlc) .none kV_blocks dc_blocks pm_blocks an_blocks cd_blocks ct_blocks), sl_blocks⟩)
    (c_blocks : PySem.W.codeIn K cd_blocks "blocks" = true)
    (k_blocks : PySem.W.keepIn K (.ref f_blocks) = true)
    (a_words_by_form : PySem.W.nsIn K mainGlobals "words_by_form" = some (some (.ref f_words_by_form)))
    (l_words_by_form : K.lookup f_words_by_form = some ⟨oc_words_by_form, od_words_by_form, .func (PySem.W.fnOf "words_by_form" "words_by_form" (defArgs sWoF) (defBody sWoF) (defScope sWoF) .none kV_words_by_form dc_words_by_form pm_words_by_form an_words_by_form cd_words_by_form ct_words_by_form), sl_words_by_form⟩)
    (c_words_by_form : PySem.W.codeIn K cd_words_by_form "words_by_form" = true)
    (k_words_by_form : PySem.W.keepIn K (.ref f_words_by_form) = true)
    (a_called_rooms : PySem.W.nsIn K mainGlobals "called_rooms" = some (some (.ref f_called_rooms)))
    (l_called_rooms : K.lookup f_called_rooms = some ⟨oc_called_rooms, od_called_rooms, .func (PySem.W.fnOf "called_rooms" "called_rooms" (defArgs sCrm) (defBody sCrm) (defScope sCrm) .none kV_called_rooms dc_called_rooms pm_called_rooms an_called_rooms cd_called_rooms ct_called_rooms), sl_called_rooms⟩)
    (c_called_rooms : PySem.W.codeIn K cd_called_rooms "called_rooms" = true)
    (k_called_rooms : PySem.W.keepIn K (.ref f_called_rooms) = true)
    (a_called_by_form : PySem.W.nsIn K mainGlobals "called_by_form" = some (some (.ref f_called_by_form)))
    (l_called_by_form : K.lookup f_called_by_form = some ⟨oc_called_by_form, od_called_by_form, .func (PySem.W.fnOf "called_by_form" "called_by_form" (defArgs sCbf) (defBody sCbf) (defScope sCbf) .none kV_called_by_form dc_called_by_form pm_called_by_form an_called_by_form cd_called_by_form ct_called_by_form), sl_called_by_form⟩)
    (c_called_by_form : PySem.W.codeIn K cd_called_by_form "called_by_form" = true)
    (k_called_by_form : PySem.W.keepIn K (.ref f_called_by_form) = true)
    (a_lies_in : PySem.W.nsIn K mainGlobals "lies_in" = some (some (.ref f_lies_in)))
    (l_lies_in : K.lookup f_lies_in = some ⟨oc_lies_in, od_lies_in, .func (PySem.W.fnOf "lies_in" "lies_in" (defArgs sLi) (defBody sLi) (defScope sLi) .none kV_lies_in dc_lies_in pm_lies_in an_lies_in cd_lies_in ct_lies_in), sl_lies_in⟩)
    (c_lies_in : PySem.W.codeIn K cd_lies_in "lies_in" = true)
    (k_lies_in : PySem.W.keepIn K (.ref f_lies_in) = true)
    (e_lies_in : cd_lies_in = .ref co_lies_in)
    (a_hides : PySem.W.nsIn K mainGlobals "hides" = some (some (.ref f_hides)))
    (l_hides : K.lookup f_hides = some ⟨oc_hides, od_hides, .func (PySem.W.fnOf "hides" "hides" (defArgs sHid) (defBody sHid) (defScope sHid) .none kV_hides dc_hides pm_hides an_hides cd_hides ct_hides), sl_hides⟩)
    (c_hides : PySem.W.codeIn K cd_hides "hides" = true)
    (k_hides : PySem.W.keepIn K (.ref f_hides) = true)
    (a__law_all_called : PySem.W.nsIn K mainGlobals "_law_all_called" = some (some (.ref f__law_all_called)))
    (l__law_all_called : K.lookup f__law_all_called = some ⟨oc__law_all_called, od__law_all_called, .func (PySem.W.fnOf "_law_all_called" "_law_all_called" (defArgs sLac) (defBody sLac) (defScope sLac) .none kV__law_all_called dc__law_all_called pm__law_all_called an__law_all_called cd__law_all_called ct__law_all_called), sl__law_all_called⟩)
    (c__law_all_called : PySem.W.codeIn K cd__law_all_called "_law_all_called" = true)
    (k__law_all_called : PySem.W.keepIn K (.ref f__law_all_called) = true)
    (a__law_alone : PySem.W.nsIn K mainGlobals "_law_alone" = some (some (.ref f__law_alone)))
    (l__law_alone : K.lookup f__law_alone = some ⟨oc__law_alone, od__law_alone, .func (PySem.W.fnOf "_law_alone" "_law_alone" (defArgs sLal) (defBody sLal) (defScope sLal) .none kV__law_alone dc__law_alone pm__law_alone an__law_alone cd__law_alone ct__law_alone), sl__law_alone⟩)
    (c__law_alone : PySem.W.codeIn K cd__law_alone "_law_alone" = true)
    (k__law_alone : PySem.W.keepIn K (.ref f__law_alone) = true)
    (a_last_call_in : PySem.W.nsIn K mainGlobals "last_call_in" = some (some (.ref f_last_call_in)))
    (l_last_call_in : K.lookup f_last_call_in = some ⟨oc_last_call_in, od_last_call_in, .func (PySem.W.fnOf "last_call_in" "last_call_in" (defArgs sLci) (defBody sLci) (defScope sLci) .none kV_last_call_in dc_last_call_in pm_last_call_in an_last_call_in cd_last_call_in ct_last_call_in), sl_last_call_in⟩)
    (c_last_call_in : PySem.W.codeIn K cd_last_call_in "last_call_in" = true)
    (k_last_call_in : PySem.W.keepIn K (.ref f_last_call_in) = true)
    (a_word_of : PySem.W.nsIn K mainGlobals "word_of" = some (some (.ref f_word_of)))
    (l_word_of : K.lookup f_word_of = some ⟨oc_word_of, od_word_of, .func (PySem.W.fnOf "word_of" "word_of" (defArgs sWof) (defBody sWof) (defScope sWof) .none kV_word_of dc_word_of pm_word_of an_word_of cd_word_of ct_word_of), sl_word_of⟩)
    (c_word_of : PySem.W.codeIn K cd_word_of "word_of" = true)
    (k_word_of : PySem.W.keepIn K (.ref f_word_of) = true)
    (a_reached : PySem.W.nsIn K mainGlobals "reached" = some (some (.ref f_reached)))
    (l_reached : K.lookup f_reached = some ⟨oc_reached, od_reached, .func (PySem.W.fnOf "reached" "reached" (defArgs sRea) (defBody sRea) (defScope sRea) .none kV_reached dc_reached pm_reached an_reached cd_reached ct_reached), sl_reached⟩)
    (c_reached : PySem.W.codeIn K cd_reached "reached" = true)
    (k_reached : PySem.W.keepIn K (.ref f_reached) = true)
    (a_pieces : PySem.W.nsIn K mainGlobals "pieces" = some (some (.ref f_pieces)))
    (l_pieces : K.lookup f_pieces = some ⟨oc_pieces, od_pieces, .func (PySem.W.fnOf "pieces" "pieces" (defArgs sPcs) (defBody sPcs) (defScope sPcs) .none kV_pieces dc_pieces pm_pieces an_pieces cd_pieces ct_pieces), sl_pieces⟩)
    (c_pieces : PySem.W.codeIn K cd_pieces "pieces" = true)
    (k_pieces : PySem.W.keepIn K (.ref f_pieces) = true)
    (a_top_room : PySem.W.nsIn K mainGlobals "top_room" = some (some (.ref f_top_room)))
    (l_top_room : K.lookup f_top_room = some ⟨oc_top_room, od_top_room, .func (PySem.W.fnOf "top_room" "top_room" (defArgs sTopR) (defBody sTopR) (defScope sTopR) .none kV_top_room dc_top_room pm_top_room an_top_room cd_top_room ct_top_room), sl_top_room⟩)
    (c_top_room : PySem.W.codeIn K cd_top_room "top_room" = true)
    (k_top_room : PySem.W.keepIn K (.ref f_top_room) = true)
    (a_called_keepers : PySem.W.nsIn K mainGlobals "called_keepers" = some (some (.ref f_called_keepers)))
    (l_called_keepers : K.lookup f_called_keepers = some ⟨oc_called_keepers, od_called_keepers, .func (PySem.W.fnOf "called_keepers" "called_keepers" (defArgs sCke) (defBody sCke) (defScope sCke) .none kV_called_keepers dc_called_keepers pm_called_keepers an_called_keepers cd_called_keepers ct_called_keepers), sl_called_keepers⟩)
    (c_called_keepers : PySem.W.codeIn K cd_called_keepers "called_keepers" = true)
    (k_called_keepers : PySem.W.keepIn K (.ref f_called_keepers) = true)
    (a_form_of : PySem.W.nsIn K mainGlobals "form_of" = some (some (.ref f_form_of)))
    (l_form_of : K.lookup f_form_of = some ⟨oc_form_of, od_form_of, .func (PySem.W.fnOf "form_of" "form_of" (defArgs sFo) (defBody sFo) (defScope sFo) .none kV_form_of dc_form_of pm_form_of an_form_of cd_form_of ct_form_of), sl_form_of⟩)
    (c_form_of : PySem.W.codeIn K cd_form_of "form_of" = true)
    (k_form_of : PySem.W.keepIn K (.ref f_form_of) = true)
    (e_form_of : cd_form_of = .ref co_form_of)
    (a_overlay : PySem.W.nsIn K mainGlobals "overlay" = some (some (.ref f_overlay)))
    (l_overlay : K.lookup f_overlay = some ⟨oc_overlay, od_overlay, .func (PySem.W.fnOf "overlay" "overlay" (defArgs sOv) (defBody sOv) (defScope sOv) .none kV_overlay dc_overlay pm_overlay an_overlay cd_overlay ct_overlay), sl_overlay⟩)
    (c_overlay : PySem.W.codeIn K cd_overlay "overlay" = true)
    (k_overlay : PySem.W.keepIn K (.ref f_overlay) = true)
    (a_build_form : PySem.W.nsIn K mainGlobals "build_form" = some (some (.ref f_build_form)))
    (l_build_form : K.lookup f_build_form = some ⟨oc_build_form, od_build_form, .func (PySem.W.fnOf "build_form" "build_form" (defArgs sBf) (defBody sBf) (defScope sBf) .none kV_build_form dc_build_form pm_build_form an_build_form cd_build_form ct_build_form), sl_build_form⟩)
    (c_build_form : PySem.W.codeIn K cd_build_form "build_form" = true)
    (k_build_form : PySem.W.keepIn K (.ref f_build_form) = true)
    (e_build_form : cd_build_form = .ref co_build_form)
    (a_law : PySem.W.nsIn K mainGlobals "law" = some (some (.ref f_law)))
    (l_law : K.lookup f_law = some ⟨oc_law, od_law, .func (PySem.W.fnOf "law" "law" (defArgs sLaw) (defBody sLaw) (defScope sLaw) .none kV_law dc_law pm_law an_law cd_law ct_law), sl_law⟩)
    (c_law : PySem.W.codeIn K cd_law "law" = true)
    (k_law : PySem.W.keepIn K (.ref f_law) = true)
    (a_m_init_ : PySem.W.findIn K (.ref C) "__init__" = some (some (.ref f_m_init_)))
    (l_m_init_ : K.lookup f_m_init_ = some ⟨oc_m_init_, od_m_init_, .func (PySem.W.fnOf "__init__" "House.__init__" (defArgs sHinit) (defBody sHinit) (defScope sHinit) .none kV_m_init_ dc_m_init_ pm_m_init_ an_m_init_ cd_m_init_ ct_m_init_), sl_m_init_⟩)
    (c_m_init_ : PySem.W.codeIn K cd_m_init_ "House.__init__" = true)
    (k_m_init_ : PySem.W.keepIn K (.ref f_m_init_) = true)
    (i_m_init_ : PySem.W.isFn K (.ref f_m_init_) = true)
    (a_mdoors : PySem.W.findIn K (.ref C) "doors" = some (some (.ref f_mdoors)))
    (l_mdoors : K.lookup f_mdoors = some ⟨oc_mdoors, od_mdoors, .func (PySem.W.fnOf "doors" "House.doors" (defArgs sHdoors) (defBody sHdoors) (defScope sHdoors) .none kV_mdoors dc_mdoors pm_mdoors an_mdoors cd_mdoors ct_mdoors), sl_mdoors⟩)
    (c_mdoors : PySem.W.codeIn K cd_mdoors "House.doors" = true)
    (k_mdoors : PySem.W.keepIn K (.ref f_mdoors) = true)
    (i_mdoors : PySem.W.isFn K (.ref f_mdoors) = true)
    (a_mneighbours : PySem.W.findIn K (.ref C) "neighbours" = some (some (.ref f_mneighbours)))
    (l_mneighbours : K.lookup f_mneighbours = some ⟨oc_mneighbours, od_mneighbours, .func (PySem.W.fnOf "neighbours" "House.neighbours" (defArgs sHnear) (defBody sHnear) (defScope sHnear) .none kV_mneighbours dc_mneighbours pm_mneighbours an_mneighbours cd_mneighbours ct_mneighbours), sl_mneighbours⟩)
    (c_mneighbours : PySem.W.codeIn K cd_mneighbours "House.neighbours" = true)
    (k_mneighbours : PySem.W.keepIn K (.ref f_mneighbours) = true)
    (i_mneighbours : PySem.W.isFn K (.ref f_mneighbours) = true)
    (n_rooms : PySem.W.findIn K (.ref C) "rooms" = some none)
    (n__doors : PySem.W.findIn K (.ref C) "_doors" = some none)
    (n__near : PySem.W.findIn K (.ref C) "_near" = some none)
    (cr1 : PySem.W.readsIn K C (.type "type") = true)
    (cr2 : PySem.W.specialIn K (.ref C) "__getattribute__" = some (some (.builtin "type.__getattribute__")))
    (cv_MOST_ROOMS : PySem.W.findCls K (.ref C) (.type "type") "MOST_ROOMS" = some (.val (.int 12 tk_MOST_ROOMS)))
    (gf_nb : PySem.W.specialIn K (.ref f_mneighbours) "__get__" = some (some (.builtin "function.__get__")))
    (tk_nb : PySem.W.takesIn K (.ref f_mneighbours) = some false)
    (fi_nb : PySem.W.fnIn K f_mneighbours = true)
    (ne_tb : tb_form_of ≠ tb_build_form)
    (z_len : PySem.W.nsIn K mainGlobals "len" = some none)
    (z_abs : PySem.W.nsIn K mainGlobals "abs" = some none)
    (z_int : PySem.W.nsIn K mainGlobals "int" = some none)
    (z_range : PySem.W.nsIn K mainGlobals "range" = some none)
    (z_list : PySem.W.nsIn K mainGlobals "list" = some none)
    (z_tuple : PySem.W.nsIn K mainGlobals "tuple" = some none)
    (z_min : PySem.W.nsIn K mainGlobals "min" = some none)
    (z_max : PySem.W.nsIn K mainGlobals "max" = some none)
    (z_sorted : PySem.W.nsIn K mainGlobals "sorted" = some none)
    (z_isinstance : PySem.W.nsIn K mainGlobals "isinstance" = some none)
    (z_bool : PySem.W.nsIn K mainGlobals "bool" = some none)
    (z_str : PySem.W.nsIn K mainGlobals "str" = some none)
    (z_set : PySem.W.nsIn K mainGlobals "set" = some none)
    (z_enumerate : PySem.W.nsIn K mainGlobals "enumerate" = some none)
    (z_reversed : PySem.W.nsIn K mainGlobals "reversed" = some none)
    (z_dict : PySem.W.nsIn K mainGlobals "dict" = some none)
    (z_all : PySem.W.nsIn K mainGlobals "all" = some none) :
    ∃ fd : FuncData, (∀ (s : Shared) (v : Value), BindsTo s fd ⟨[v], []⟩ [("script", v)]) ∧ ∀ base : Heap, K.In base → base.Ns mainGlobals mg → (∀ p ∈ [(co_lies_in, tb_lies_in), (co_form_of, tb_form_of), (co_build_form, tb_build_form)], LamX.TabB base mg p.1 p.2) → FnOk l.prog w K mg base CX0 54 fa fd ["script"] (spLawM K [tb_lies_in] [tb_form_of, tb_build_form]) := by
  have e := hfa.symm.trans (PySem.W.mg_of X G a_law)
  cases e
  have T : Bi mg := ⟨PySem.W.mg_none_of X G z_len, PySem.W.mg_none_of X G z_abs, PySem.W.mg_none_of X G z_int, PySem.W.mg_none_of X G z_range, PySem.W.mg_none_of X G z_list, PySem.W.mg_none_of X G z_tuple, PySem.W.mg_none_of X G z_min, PySem.W.mg_none_of X G z_max, PySem.W.mg_none_of X G z_sorted, PySem.W.mg_none_of X G z_isinstance, PySem.W.mg_none_of X G z_bool, PySem.W.mg_none_of X G z_str, PySem.W.mg_none_of X G z_set, PySem.W.mg_none_of X G z_enumerate⟩
  have F_check_room_count := fun_mk (st := sRoom) l_check_room_count c_check_room_count k_check_room_count
  have at_check_room_count := PySem.W.mg_of X G a_check_room_count
  have b_check_room_count := F_check_room_count.binds (ps := ["rooms"]) fun _ _ _ _ _ _ us hl => match us, hl with | [_], _ => rfl
  have F_checked_doors := fun_mk (st := sChk) l_checked_doors c_checked_doors k_checked_doors
  have at_checked_doors := PySem.W.mg_of X G a_checked_doors
  have b_checked_doors := F_checked_doors.binds (ps := ["rooms", "doors"]) fun _ _ _ _ _ _ us hl => match us, hl with | [_, _], _ => rfl
  have F__law_cell := fun_mk (st := sCell) l__law_cell c__law_cell k__law_cell
  have at__law_cell := PySem.W.mg_of X G a__law_cell
  have b__law_cell := F__law_cell.binds (ps := ["script", "k"]) fun _ _ _ _ _ _ us hl => match us, hl with | [_, _], _ => rfl
  have F__law_numbers := fun_mk (st := sNum) l__law_numbers c__law_numbers k__law_numbers
  have at__law_numbers := PySem.W.mg_of X G a__law_numbers
  have b__law_numbers := F__law_numbers.binds (ps := ["cell", "count"]) fun _ _ _ _ _ _ us hl => match us, hl with | [_, _], _ => rfl
  have F__law_names := fun_mk (st := sNam) l__law_names c__law_names k__law_names
  have at__law_names := PySem.W.mg_of X G a__law_names
  have b__law_names := F__law_names.binds (ps := ["numbers", "at", "rooms"]) fun _ _ _ _ _ _ us hl => match us, hl with | [_, _, _], _ => rfl
  have F__law_joined := fun_mk (st := sJnd) l__law_joined c__law_joined k__law_joined
  have at__law_joined := PySem.W.mg_of X G a__law_joined
  have b__law_joined := F__law_joined.binds (ps := ["kind", "a", "b", "rooms", "number", "parent"]) fun _ _ _ _ _ _ us hl => match us, hl with | [_, _, _, _, _, _], _ => rfl
  have F__law_doors := fun_mk (st := sDrs) l__law_doors c__law_doors k__law_doors
  have at__law_doors := PySem.W.mg_of X G a__law_doors
  have b__law_doors := F__law_doors.binds (ps := ["numbers", "rooms"]) fun _ _ _ _ _ _ us hl => match us, hl with | [_, _], _ => rfl
  have F__law_fewer := fun_mk (st := sFew) l__law_fewer c__law_fewer k__law_fewer
  have at__law_fewer := PySem.W.mg_of X G a__law_fewer
  have b__law_fewer := F__law_fewer.binds (ps := ["doors", "most", "number"]) fun _ _ _ _ _ _ us hl => match us, hl with | [_, _, _], _ => rfl
  have F__law_word := fun_mk (st := sLwd) l__law_word c__law_word k__law_word
  have at__law_word := PySem.W.mg_of X G a__law_word
  have b__law_word := F__law_word.binds (ps := ["a", "b"]) fun _ _ _ _ _ _ us hl => match us, hl with | [_, _], _ => rfl
  have F__law_words := fun_mk (st := sLws) l__law_words c__law_words k__law_words
  have at__law_words := PySem.W.mg_of X G a__law_words
  have b__law_words := F__law_words.binds (ps := ["numbers", "at", "many"]) fun _ _ _ _ _ _ us hl => match us, hl with | [_, _, _], _ => rfl
  have F__law_log := fun_mk (st := sLlg) l__law_log c__law_log k__law_log
  have at__law_log := PySem.W.mg_of X G a__law_log
  have b__law_log := F__law_log.binds (ps := ["numbers", "at", "many", "rooms", "words"]) fun _ _ _ _ _ _ us hl => match us, hl with | [_, _, _, _, _], _ => rfl
  have F__law_word_of := fun_mk (st := sLwof) l__law_word_of c__law_word_of k__law_word_of
  have at__law_word_of := PySem.W.mg_of X G a__law_word_of
  have b__law_word_of := F__law_word_of.binds (ps := ["log", "rooms"]) fun _ _ _ _ _ _ us hl => match us, hl with | [_, _], _ => rfl
  have F__law_agreeing := fun_mk (st := sLag) l__law_agreeing c__law_agreeing k__law_agreeing
  have at__law_agreeing := PySem.W.mg_of X G a__law_agreeing
  have b__law_agreeing := F__law_agreeing.binds (ps := ["one", "two"]) fun _ _ _ _ _ _ us hl => match us, hl with | [_, _], _ => rfl
  have F__law_reach := fun_mk (st := sLre) l__law_reach c__law_reach k__law_reach
  have at__law_reach := PySem.W.mg_of X G a__law_reach
  have b__law_reach := F__law_reach.binds (ps := ["doors", "start", "inside"]) fun _ _ _ _ _ _ us hl => match us, hl with | [_, _, _], _ => rfl
  have F__law_pieces := fun_mk (st := sLpc) l__law_pieces c__law_pieces k__law_pieces
  have at__law_pieces := PySem.W.mg_of X G a__law_pieces
  have b__law_pieces := F__law_pieces.binds (ps := ["doors", "rooms"]) fun _ _ _ _ _ _ us hl => match us, hl with | [_, _], _ => rfl
  have F__law_top := fun_mk (st := sLtop) l__law_top c__law_top k__law_top
  have at__law_top := PySem.W.mg_of X G a__law_top
  have b__law_top := F__law_top.binds (ps := ["log", "rooms"]) fun _ _ _ _ _ _ us hl => match us, hl with | [_, _], _ => rfl
  have F__law_tops := fun_mk (st := sLts) l__law_tops c__law_tops k__law_tops
  have at__law_tops := PySem.W.mg_of X G a__law_tops
  have b__law_tops := F__law_tops.binds (ps := ["doors", "log", "part", "word"]) fun _ _ _ _ _ _ us hl => match us, hl with | [_, _, _, _], _ => rfl
  have F__law_form := fun_mk (st := sLf) l__law_form c__law_form k__law_form
  have at__law_form := PySem.W.mg_of X G a__law_form
  have b__law_form := F__law_form.binds (ps := ["doors", "log", "rooms"]) fun _ _ _ _ _ _ us hl => match us, hl with | [_, _, _], _ => rfl
  have F__law_longer := fun_mk (st := sLlo) l__law_longer c__law_longer k__law_longer
  have at__law_longer := PySem.W.mg_of X G a__law_longer
  have b__law_longer := F__law_longer.binds (ps := ["doors", "paths"]) fun _ _ _ _ _ _ us hl => match us, hl with | [_, _], _ => rfl
  have F__law_first_apart := fun_mk (st := sLfa) l__law_first_apart c__law_first_apart k__law_first_apart
  have at__law_first_apart := PySem.W.mg_of X G a__law_first_apart
  have b__law_first_apart := F__law_first_apart.binds (ps := ["doors", "rooms", "one", "two"]) fun _ _ _ _ _ _ us hl => match us, hl with | [_, _, _, _], _ => rfl
  have F__law_same := fun_mk (st := sSame) l__law_same c__law_same k__law_same
  have at__law_same := PySem.W.mg_of X G a__law_same
  have b__law_same := F__law_same.binds (ps := ["got", "due"]) fun _ _ _ _ _ _ us hl => match us, hl with | [_, _], _ => rfl
  have F_plain_log := fun_mk (st := sPlg) l_plain_log c_plain_log k_plain_log
  have at_plain_log := PySem.W.mg_of X G a_plain_log
  have b_plain_log := F_plain_log.binds (ps := ["form"]) fun _ _ _ _ _ _ us hl => match us, hl with | [_], _ => rfl
  have F_words_of := fun_mk (st := sWds) l_words_of c_words_of k_words_of
  have at_words_of := PySem.W.mg_of X G a_words_of
  have b_words_of := F_words_of.binds (ps := ["house", "log"]) fun _ _ _ _ _ _ us hl => match us, hl with | [_, _], _ => rfl
  have F_unlike_room := fun_mk (st := sUr) l_unlike_room c_unlike_room k_unlike_room
  have at_unlike_room := PySem.W.mg_of X G a_unlike_room
  have b_unlike_room := F_unlike_room.binds (ps := ["house", "first", "second"]) fun _ _ _ _ _ _ us hl => match us, hl with | [_, _, _], _ => rfl
  have F_last_calls := fun_mk (st := sLast) l_last_calls c_last_calls k_last_calls
  have at_last_calls := PySem.W.mg_of X G a_last_calls
  have b_last_calls := F_last_calls.binds (ps := ["log"]) fun _ _ _ _ _ _ us hl => match us, hl with | [_], _ => rfl
  have F_last_places := fun_mk (st := sLp) l_last_places c_last_places k_last_places
  have at_last_places := PySem.W.mg_of X G a_last_places
  have b_last_places := F_last_places.binds (ps := ["log"]) fun _ _ _ _ _ _ us hl => match us, hl with | [_], _ => rfl
  have F_crossed_pairs := fun_mk (st := sCrp) l_crossed_pairs c_crossed_pairs k_crossed_pairs
  have at_crossed_pairs := PySem.W.mg_of X G a_crossed_pairs
  have b_crossed_pairs := F_crossed_pairs.binds (ps := ["first", "second"]) fun _ _ _ _ _ _ us hl => match us, hl with | [_, _], _ => rfl
  have F_hall := fun_mk (st := sHall) l_hall c_hall k_hall
  have at_hall := PySem.W.mg_of X G a_hall
  have b_hall := F_hall.binds (ps := ["house", "first", "second", "pair"]) fun _ _ _ _ _ _ us hl => match us, hl with | [_, _, _, _], _ => rfl
  have F_first_paths := fun_mk (st := sFp) l_first_paths c_first_paths k_first_paths
  have at_first_paths := PySem.W.mg_of X G a_first_paths
  have b_first_paths := F_first_paths.binds (ps := ["steps", "start", "inside"]) fun _ _ _ _ _ _ us hl => match us, hl with | [_, _, _], _ => rfl
  have F_first_path := fun_mk (st := sFst) l_first_path c_first_path k_first_path
  have at_first_path := PySem.W.mg_of X G a_first_path
  have b_first_path := F_first_path.binds (ps := ["house", "start", "goal", "inside"]) fun _ _ _ _ _ _ us hl => match us, hl with | [_, _, _, _], _ => rfl
  have F_parting_path := fun_mk (st := sPp) l_parting_path c_parting_path k_parting_path
  have at_parting_path := PySem.W.mg_of X G a_parting_path
  have b_parting_path := F_parting_path.binds (ps := ["house", "first", "second"]) fun _ _ _ _ _ _ us hl => match us, hl with | [_, _, _], _ => rfl
  have F_order_matters := fun_mk (st := sOm) l_order_matters c_order_matters k_order_matters
  have at_order_matters := PySem.W.mg_of X G a_order_matters
  have b_order_matters := F_order_matters.binds (ps := ["house", "first", "second"]) fun _ _ _ _ _ _ us hl => match us, hl with | [_, _, _], _ => rfl
  have F_alike := fun_mk (st := sAlk) l_alike c_alike k_alike
  have at_alike := PySem.W.mg_of X G a_alike
  have b_alike := F_alike.binds (ps := ["house", "first", "second"]) fun _ _ _ _ _ _ us hl => match us, hl with | [_, _, _], _ => rfl
  have F_blocks := fun_mk (st := sBlc) l_blocks c_blocks k_blocks
  have at_blocks := PySem.W.mg_of X G a_blocks
  have b_blocks := F_blocks.binds (ps := ["form"]) fun _ _ _ _ _ _ us hl => match us, hl with | [_], _ => rfl
  have F_words_by_form := fun_mk (st := sWoF) l_words_by_form c_words_by_form k_words_by_form
  have at_words_by_form := PySem.W.mg_of X G a_words_by_form
  have b_words_by_form := F_words_by_form.binds (ps := ["form"]) fun _ _ _ _ _ _ us hl => match us, hl with | [_], _ => rfl
  have F_called_rooms := fun_mk (st := sCrm) l_called_rooms c_called_rooms k_called_rooms
  have at_called_rooms := PySem.W.mg_of X G a_called_rooms
  have b_called_rooms := F_called_rooms.binds (ps := ["words"]) fun _ _ _ _ _ _ us hl => match us, hl with | [_], _ => rfl
  have F_called_by_form := fun_mk (st := sCbf) l_called_by_form c_called_by_form k_called_by_form
  have at_called_by_form := PySem.W.mg_of X G a_called_by_form
  have b_called_by_form := F_called_by_form.binds (ps := ["form"]) fun _ _ _ _ _ _ us hl => match us, hl with | [_], _ => rfl
  subst e_lies_in
  have C_lies_in : FunC K "lies_in" "lies_in" sLi f_lies_in _ co_lies_in := ⟨⟨_, _, _, _, _, _, _, _, rfl, l_lies_in, c_lies_in⟩⟩
  have F_lies_in := fun_mk (st := sLi) l_lies_in c_lies_in k_lies_in
  have at_lies_in := PySem.W.mg_of X G a_lies_in
  have b_lies_in := F_lies_in.binds (ps := ["rooms", "others"]) fun _ _ _ _ _ _ us hl => match us, hl with | [_, _], _ => rfl
  have F_hides := fun_mk (st := sHid) l_hides c_hides k_hides
  have at_hides := PySem.W.mg_of X G a_hides
  have b_hides := F_hides.binds (ps := ["house", "first", "second"]) fun _ _ _ _ _ _ us hl => match us, hl with | [_, _, _], _ => rfl
  have F__law_all_called := fun_mk (st := sLac) l__law_all_called c__law_all_called k__law_all_called
  have at__law_all_called := PySem.W.mg_of X G a__law_all_called
  have b__law_all_called := F__law_all_called.binds (ps := ["rooms", "one", "two"]) fun _ _ _ _ _ _ us hl => match us, hl with | [_, _, _], _ => rfl
  have F__law_alone := fun_mk (st := sLal) l__law_alone c__law_alone k__law_alone
  have at__law_alone := PySem.W.mg_of X G a__law_alone
  have b__law_alone := F__law_alone.binds (ps := ["house", "f", "s", "one"]) fun _ _ _ _ _ _ us hl => match us, hl with | [_, _, _, _], _ => rfl
  have F_last_call_in := fun_mk (st := sLci) l_last_call_in c_last_call_in k_last_call_in
  have at_last_call_in := PySem.W.mg_of X G a_last_call_in
  have b_last_call_in := F_last_call_in.binds (ps := ["log", "rooms"]) fun _ _ _ _ _ _ us hl => match us, hl with | [_, _], _ => rfl
  have F_word_of := fun_mk (st := sWof) l_word_of c_word_of k_word_of
  have at_word_of := PySem.W.mg_of X G a_word_of
  have b_word_of := F_word_of.binds (ps := ["log", "rooms"]) fun _ _ _ _ _ _ us hl => match us, hl with | [_, _], _ => rfl
  have F_reached := fun_mk (st := sRea) l_reached c_reached k_reached
  have at_reached := PySem.W.mg_of X G a_reached
  have b_reached := F_reached.binds (ps := ["house", "start", "inside"]) fun _ _ _ _ _ _ us hl => match us, hl with | [_, _, _], _ => rfl
  have F_pieces := fun_mk (st := sPcs) l_pieces c_pieces k_pieces
  have at_pieces := PySem.W.mg_of X G a_pieces
  have b_pieces := F_pieces.binds (ps := ["house", "rooms"]) fun _ _ _ _ _ _ us hl => match us, hl with | [_, _], _ => rfl
  have F_top_room := fun_mk (st := sTopR) l_top_room c_top_room k_top_room
  have at_top_room := PySem.W.mg_of X G a_top_room
  have b_top_room := F_top_room.binds (ps := ["log", "rooms"]) fun _ _ _ _ _ _ us hl => match us, hl with | [_, _], _ => rfl
  have F_called_keepers := fun_mk (st := sCke) l_called_keepers c_called_keepers k_called_keepers
  have at_called_keepers := PySem.W.mg_of X G a_called_keepers
  have b_called_keepers := F_called_keepers.binds (ps := ["house", "calls", "part"]) fun _ _ _ _ _ _ us hl => match us, hl with | [_, _, _], _ => rfl
  subst e_form_of
  have C_form_of : FunC K "form_of" "form_of" sFo f_form_of _ co_form_of := ⟨⟨_, _, _, _, _, _, _, _, rfl, l_form_of, c_form_of⟩⟩
  have F_form_of := fun_mk (st := sFo) l_form_of c_form_of k_form_of
  have at_form_of := PySem.W.mg_of X G a_form_of
  have b_form_of := F_form_of.binds (ps := ["house", "log"]) fun _ _ _ _ _ _ us hl => match us, hl with | [_, _], _ => rfl
  have F_overlay := fun_mk (st := sOv) l_overlay c_overlay k_overlay
  have at_overlay := PySem.W.mg_of X G a_overlay
  subst e_build_form
  have C_build_form : FunC K "build_form" "build_form" sBf f_build_form _ co_build_form := ⟨⟨_, _, _, _, _, _, _, _, rfl, l_build_form, c_build_form⟩⟩
  have F_build_form := fun_mk (st := sBf) l_build_form c_build_form k_build_form
  have at_build_form := PySem.W.mg_of X G a_build_form
  have b_build_form := F_build_form.binds (ps := ["house", "word_in", "tops_in"]) fun _ _ _ _ _ _ us hl => match us, hl with | [_, _, _], _ => rfl
  have F_law := fun_mk (st := sLaw) l_law c_law k_law
  have at_law := PySem.W.mg_of X G a_law
  have F_m_init_ := fun_mk (st := sHinit) l_m_init_ c_m_init_ k_m_init_
  have b_m_init_ := F_m_init_.binds (ps := ["self", "rooms", "doors"]) fun _ _ _ _ _ _ us hl => match us, hl with | [_, _, _], _ => rfl
  have mk_ : Mk K C f_m_init_ := ⟨mk, a_m_init_, i_m_init_, kc⟩
  have F_mdoors := fun_mk (st := sHdoors) l_mdoors c_mdoors k_mdoors
  have b_mdoors := F_mdoors.binds (ps := ["self"]) fun _ _ _ _ _ _ us hl => match us, hl with | [_], _ => rfl
  have mt_mdoors : Meth K C "doors" f_mdoors := ⟨a_mdoors, i_mdoors, k_mdoors⟩
  have F_mneighbours := fun_mk (st := sHnear) l_mneighbours c_mneighbours k_mneighbours
  have b_mneighbours := F_mneighbours.binds (ps := ["self", "room"]) fun _ _ _ _ _ _ us hl => match us, hl with | [_, _], _ => rfl
  have mt_mneighbours : Meth K C "neighbours" f_mneighbours := ⟨a_mneighbours, i_mneighbours, k_mneighbours⟩
  have U : Hs K mg C := ⟨⟨pg, hd, po, sa⟩, n_rooms, n__doors, n__near, PySem.W.mg_of X G aC, ⟨.type "type", _, ⟨cr1, cr2⟩, ⟨cv_MOST_ROOMS, ⟨_, rfl⟩⟩⟩⟩
  refine ⟨PySem.W.fnOf "law" "law" (defArgs sLaw) (defBody sLaw) (defScope sLaw) .none kV_law dc_law pm_law an_law cd_law ct_law, fun s v => .of_eq rfl, fun base _ _ HT => ?_⟩
  have B_lies_in := HT (co_lies_in, tb_lies_in) (by simp)
  have B_form_of := HT (co_form_of, tb_form_of) (by simp)
  have B_build_form := HT (co_build_form, tb_build_form) (by simp)
  have bm : BMeth K C "neighbours" f_mneighbours := ⟨mt_mneighbours, gf_nb, tk_nb, by decide +kernel, fi_nb⟩
  have D_check_room_count : Df l.prog w K mg base "check_room_count" _ 1 spRoom _ _ := ⟨at_check_room_count, k_check_room_count, b_check_room_count, ok_room F_check_room_count U⟩
  have D_checked_doors : Df l.prog w K mg base "checked_doors" _ 1 spChk _ _ := ⟨at_checked_doors, k_checked_doors, b_checked_doors, ok_chk F_checked_doors T⟩
  have GI := ok_hinit (P := l.prog) (w := w) (base := base) F_m_init_ T U D_check_room_count D_checked_doors
  have M_doors : Md l.prog w K mg base C "doors" _ 1 (spHdoors C) _ _ := ⟨mt_mdoors, b_mdoors, ok_hdoors F_mdoors T U⟩
  have GN := ok_hnear (P := l.prog) (w := w) (base := base) F_mneighbours T U
  have M_neighbours : Md l.prog w K mg base C "neighbours" _ 1 (spHnear C) _ _ := ⟨mt_mneighbours, b_mneighbours, GN⟩
  have D__law_cell : Df l.prog w K mg base "_law_cell" _ 1 (spCell K) _ _ := ⟨at__law_cell, k__law_cell, b__law_cell, ok_cell F__law_cell T⟩
  have D__law_numbers : Df l.prog w K mg base "_law_numbers" _ 1 (spNum K) _ _ := ⟨at__law_numbers, k__law_numbers, b__law_numbers, ok_num F__law_numbers T⟩
  have D__law_names : Df l.prog w K mg base "_law_names" _ 1 (spNam K) _ _ := ⟨at__law_names, k__law_names, b__law_names, ok_nam F__law_names T⟩
  have D__law_joined : Df l.prog w K mg base "_law_joined" _ 1 spJnd _ _ := ⟨at__law_joined, k__law_joined, b__law_joined, ok_jnd F__law_joined T⟩
  have D__law_doors : Df l.prog w K mg base "_law_doors" _ 2 (spDrs K) _ _ := ⟨at__law_doors, k__law_doors, b__law_doors, ok_drs F__law_doors T D__law_names D__law_joined⟩
  have D__law_fewer : Df l.prog w K mg base "_law_fewer" _ 1 (spFew K) _ _ := ⟨at__law_fewer, k__law_fewer, b__law_fewer, ok_few F__law_fewer T⟩
  have D__law_word : Df l.prog w K mg base "_law_word" _ 1 spLwd _ _ := ⟨at__law_word, k__law_word, b__law_word, ok_lwd F__law_word T⟩
  have D__law_words : Df l.prog w K mg base "_law_words" _ 2 (spLws K) _ _ := ⟨at__law_words, k__law_words, b__law_words, ok_lws F__law_words T D__law_word⟩
  have D__law_log : Df l.prog w K mg base "_law_log" _ 1 (spLlg K) _ _ := ⟨at__law_log, k__law_log, b__law_log, ok_llg F__law_log T⟩
  have D__law_word_of : Df l.prog w K mg base "_law_word_of" _ 1 (spTopR K optW) _ _ := ⟨at__law_word_of, k__law_word_of, b__law_word_of, ok_lwof F__law_word_of⟩
  have D__law_agreeing : Df l.prog w K mg base "_law_agreeing" _ 2 spLag _ _ := ⟨at__law_agreeing, k__law_agreeing, b__law_agreeing, ok_lag F__law_agreeing D__law_word_of⟩
  have D__law_reach : Df l.prog w K mg base "_law_reach" _ 1 (spLre K) _ _ := ⟨at__law_reach, k__law_reach, b__law_reach, ok_lre F__law_reach T⟩
  have D__law_pieces : Df l.prog w K mg base "_law_pieces" _ 2 (spLpc K) _ _ := ⟨at__law_pieces, k__law_pieces, b__law_pieces, ok_lpc F__law_pieces T D__law_reach⟩
  have D__law_top : Df l.prog w K mg base "_law_top" _ 1 (spTopR K optR) _ _ := ⟨at__law_top, k__law_top, b__law_top, ok_ltop F__law_top⟩
  have D__law_tops : Df l.prog w K mg base "_law_tops" _ 15 (spLts 12) _ _ := ⟨at__law_tops, k__law_tops, b__law_tops, ok_lts F__law_tops T b__law_tops at__law_tops D__law_pieces D__law_top D__law_word_of 12⟩
  have D__law_form : Df l.prog w K mg base "_law_form" _ 29 (spLf 12) _ _ := ⟨at__law_form, k__law_form, b__law_form, ok_lf F__law_form T b__law_form at__law_form D__law_pieces D__law_tops D__law_word_of 12⟩
  have D__law_longer : Df l.prog w K mg base "_law_longer" _ 1 spLlo _ _ := ⟨at__law_longer, k__law_longer, b__law_longer, ok_llo F__law_longer T⟩
  have D__law_first_apart : Df l.prog w K mg base "_law_first_apart" _ 2 spLfa _ _ := ⟨at__law_first_apart, k__law_first_apart, b__law_first_apart, ok_lfa F__law_first_apart T D__law_word_of D__law_longer⟩
  have D__law_same : Df l.prog w K mg base "_law_same" _ 28 (spSame 27) _ _ := ⟨at__law_same, k__law_same, b__law_same, ok_same F__law_same T b__law_same at__law_same 27⟩
  have D_plain_log : Df l.prog w K mg base "plain_log" _ 14 (spPlg 12) _ _ := ⟨at_plain_log, k_plain_log, b_plain_log, ok_plg F_plain_log T b_plain_log at_plain_log 12⟩
  have D_words_of : Df l.prog w K mg base "words_of" _ 1 (spWds C) _ _ := ⟨at_words_of, k_words_of, b_words_of, ok_wds F_words_of U⟩
  have D_unlike_room : Df l.prog w K mg base "unlike_room" _ 2 (spUr C) _ _ := ⟨at_unlike_room, k_unlike_room, b_unlike_room, ok_ur F_unlike_room T U D_words_of⟩
  have D_last_calls : Df l.prog w K mg base "last_calls" _ 1 spLast _ _ := ⟨at_last_calls, k_last_calls, b_last_calls, ok_last F_last_calls T (PySem.W.mg_none_of X G z_reversed)⟩
  have D_last_places : Df l.prog w K mg base "last_places" _ 1 spLp _ _ := ⟨at_last_places, k_last_places, b_last_places, ok_lp F_last_places T⟩
  have D_crossed_pairs : Df l.prog w K mg base "crossed_pairs" _ 2 spCrp _ _ := ⟨at_crossed_pairs, k_crossed_pairs, b_crossed_pairs, ok_crp F_crossed_pairs T (PySem.W.mg_none_of X G z_dict) D_last_calls D_last_places⟩
  have D_hall : Df l.prog w K mg base "hall" _ 2 (spHall C) _ _ := ⟨at_hall, k_hall, b_hall, ok_hall F_hall T U D_last_places⟩
  have D_first_paths_spFq : Df l.prog w K mg base "first_paths" _ 2 (spFq K C f_mneighbours) _ _ := ⟨at_first_paths, k_first_paths, b_first_paths, ok_fq F_first_paths T U bm GN b_mneighbours⟩
  have D_first_path : Df l.prog w K mg base "first_path" _ 3 (spFst K C) _ _ := ⟨at_first_path, k_first_path, b_first_path, ok_fst F_first_path T U bm D_first_paths_spFq⟩
  have D_parting_path : Df l.prog w K mg base "parting_path" _ 4 (spPp C) _ _ := ⟨at_parting_path, k_parting_path, b_parting_path, ok_pp (g := f_mneighbours) F_parting_path T U D_unlike_room D_crossed_pairs D_hall D_first_path⟩
  have D_order_matters : Df l.prog w K mg base "order_matters" _ 15 (spOm C) _ _ := ⟨at_order_matters, k_order_matters, b_order_matters, ok_om F_order_matters D_plain_log D_parting_path⟩
  have D_alike : Df l.prog w K mg base "alike" _ 5 (spAlk C) _ _ := ⟨at_alike, k_alike, b_alike, ok_alk F_alike D_parting_path⟩
  have D_blocks : Df l.prog w K mg base "blocks" _ 15 (spBlc 13) _ _ := ⟨at_blocks, k_blocks, b_blocks, ok_blc F_blocks T b_blocks at_blocks 13⟩
  have D_words_by_form : Df l.prog w K mg base "words_by_form" _ 16 spWoF _ _ := ⟨at_words_by_form, k_words_by_form, b_words_by_form, ok_wof2 F_words_by_form T D_blocks⟩
  have D_called_rooms : Df l.prog w K mg base "called_rooms" _ 1 spCrm _ _ := ⟨at_called_rooms, k_called_rooms, b_called_rooms, ok_crm F_called_rooms T⟩
  have D_called_by_form : Df l.prog w K mg base "called_by_form" _ 17 spCbf _ _ := ⟨at_called_by_form, k_called_by_form, b_called_by_form, ok_cbf F_called_by_form T D_words_by_form D_called_rooms⟩
  have D_lies_in_spLi : Df l.prog w K mg base "lies_in" _ 2 (spLi tb_lies_in) _ _ := ⟨at_lies_in, k_lies_in, b_lies_in, ok_li C_lies_in (PySem.W.mg_none_of X G z_all) ⟨B_lies_in.code, B_lies_in.bm, B_lies_in.gP⟩⟩
  have D_hides : Df l.prog w K mg base "hides" _ 18 (spHid tb_lies_in) _ _ := ⟨at_hides, k_hides, b_hides, ok_hid F_hides D_called_by_form D_lies_in_spLi⟩
  have D__law_all_called : Df l.prog w K mg base "_law_all_called" _ 2 spLac _ _ := ⟨at__law_all_called, k__law_all_called, b__law_all_called, ok_lac F__law_all_called T D__law_word_of⟩
  have D__law_alone : Df l.prog w K mg base "_law_alone" _ 29 (spLal C tb_lies_in) _ _ := ⟨at__law_alone, k__law_alone, b__law_alone, ok_lal F__law_alone T D_order_matters D__law_same D_hides⟩
  have D_last_call_in : Df l.prog w K mg base "last_call_in" _ 1 (spLci K) _ _ := ⟨at_last_call_in, k_last_call_in, b_last_call_in, ok_lci F_last_call_in (PySem.W.mg_none_of X G z_reversed)⟩
  have D_word_of : Df l.prog w K mg base "word_of" _ 2 (spTopR K optW) _ _ := ⟨at_word_of, k_word_of, b_word_of, ok_wof F_word_of D_last_call_in⟩
  have D_first_paths_spFp : Df l.prog w K mg base "first_paths" _ 2 (spFp K C f_mneighbours) _ _ := ⟨at_first_paths, k_first_paths, b_first_paths, ok_fp F_first_paths T U bm GN b_mneighbours⟩
  have D_reached : Df l.prog w K mg base "reached" _ 3 (spRea K C) _ _ := ⟨at_reached, k_reached, b_reached, ok_rea F_reached T U bm D_first_paths_spFp⟩
  have D_pieces : Df l.prog w K mg base "pieces" _ 4 (spPcs K C) _ _ := ⟨at_pieces, k_pieces, b_pieces, ok_pcs F_pieces T D_reached⟩
  have D_top_room : Df l.prog w K mg base "top_room" _ 2 (spTopR K optR) _ _ := ⟨at_top_room, k_top_room, b_top_room, ok_topR F_top_room D_last_call_in⟩
  have D_called_keepers : Df l.prog w K mg base "called_keepers" _ 17 (spCke C 12) _ _ := ⟨at_called_keepers, k_called_keepers, b_called_keepers, ok_cke F_called_keepers T b_called_keepers at_called_keepers D_pieces D_top_room D_word_of 12⟩
  have D_form_of : Df l.prog w K mg base "form_of" _ 50 (spFo C [(tb_form_of, nmFo), (tb_build_form, nmBf)]) _ _ := ⟨at_form_of, k_form_of, b_form_of, ok_fo (Tb := [(tb_form_of, nmFo), (tb_build_form, nmBf)]) C_form_of T U B_form_of (by simp) (hu21 ne_tb) ⟨C_build_form, at_build_form, k_build_form, b_build_form⟩ B_build_form (by simp) (hu22 ne_tb) D_last_calls D_word_of D_called_keepers D_pieces⟩
  have O_overlay : DfR l.prog w K mg base "overlay" 51 (spOv C [(tb_form_of, nmFo), (tb_build_form, nmBf)]) _ := ⟨at_overlay, k_overlay, ok_ov F_overlay T D_plain_log D_form_of⟩
  exact ok_law F_law T U mk_ GI b_m_init_ M_doors D__law_cell D__law_numbers D__law_doors D__law_fewer D__law_words D__law_log D__law_agreeing D__law_word_of D__law_form D__law_first_apart D__law_same D_order_matters D_parting_path D_alike D_hides D__law_all_called D__law_alone O_overlay
theorem walk {l : PySem.W.OpenLaw} {q : Program} {loose : List Str} {XP : (Str → Option Value) → Heap → Prop} {YP : World → Heap → Prop} {d : DefRec} {K : Params → PySem.W.Frag} {co_lies_in tb_lies_in co_form_of tb_form_of co_build_form tb_build_form : Addr} (hn : l.most = some 63) (hdf : d.params.defaults = [])
    (hY : ∀ (w : World) (h : Heap), YP w h → (K w.params).In h)
    (th_lies_in : TabH q K ("lies_in" : Str) co_lies_in tb_lies_in)
    (th_form_of : TabH q K ("form_of" : Str) co_form_of tb_form_of)
    (th_build_form : TabH q K ("build_form" : Str) co_build_form tb_build_form)
    (nd : [tb_lies_in, tb_form_of, tb_build_form].Nodup)
    (F : ∀ (w : World) (mg : Str → Option Value) (fa : Addr) (h : Heap), (K w.params).In h → h.Ns mainGlobals mg → mg d.name = some (.ref fa) →
      ∃ fd : FuncData, (∀ (s : Shared) (u : Value), BindsTo s fd ⟨[u], []⟩ [("script", u)]) ∧ ∀ base : Heap, (K w.params).In base → base.Ns mainGlobals mg → (∀ p ∈ [(co_lies_in, tb_lies_in), (co_form_of, tb_form_of), (co_build_form, tb_build_form)], LamX.TabB base mg p.1 p.2) → FnOk l.prog w (K w.params) mg base CX0 54 fa fd ["script"] (spLawM (K w.params) [tb_lies_in] [tb_form_of, tb_build_form])) :
    PySem.W.WalkO q loose XP YP l.row.toRowW d [] (fun f vs => PySem.call f vs) :=
  walkM (k := 54) (cs := [(co_lies_in, tb_lies_in)]) (ds := [(co_form_of, tb_form_of), (co_build_form, tb_build_form)]) hn hdf ⟨rfl, by decide, by decide⟩ hY nd (fun p hp => by
    simp only [List.cons_append, List.nil_append, List.mem_cons, List.not_mem_nil, or_false] at hp
    rcases hp with rfl | rfl | rfl
    · exact ⟨_, th_lies_in⟩
    · exact ⟨_, th_form_of⟩
    · exact ⟨_, th_build_form⟩) F
end My

open PySem PySem.W PyProof.Rows in
set_option maxRecDepth 100000 in
set_option maxHeartbeats 0 in
theorem PySem.Challenge.cw_callsheard_k69_hides_and_order_holds : PySem.Challenge.rw_callsheard_k69_hides_and_order.Holds := by
  w_on; o_law; k_head; (case hw => w_witness2)
  k_fill
  refine' My.walk (l := PySem.Challenge.rw_callsheard_k69_hides_and_order) rfl rfl (fun w h Y => PySem.W.km_in_of Y) ?th_lies_in ?th_form_of ?th_build_form ?nd ?F
  (case th_lies_in =>
    refine' My.TabH.of ?r ?n ?l ?e ?l2 ?v ?o
    (case n => intro w; k_is)
    (case l => intro w; k_is)
    (case e => exact rfl)
    (case l2 => intro w; k_is)
    (case v => exact rfl)
    (case o => intro w; first | rfl | k_is)
    (case r => first | kernel_rfl | decide +kernel))
  (case th_form_of =>
    refine' My.TabH.of ?r ?n ?l ?e ?l2 ?v ?o
    (case n => intro w; k_is)
    (case l => intro w; k_is)
    (case e => exact rfl)
    (case l2 => intro w; k_is)
    (case v => exact rfl)
    (case o => intro w; first | rfl | k_is)
    (case r => first | kernel_rfl | decide +kernel))
  (case th_build_form =>
    refine' My.TabH.of ?r ?n ?l ?e ?l2 ?v ?o
    (case n => intro w; k_is)
    (case l => intro w; k_is)
    (case e => exact rfl)
    (case l2 => intro w; k_is)
    (case v => exact rfl)
    (case o => intro w; first | rfl | k_is)
    (case r => first | kernel_rfl | decide +kernel))
  (case nd => decide)
  case F =>
    intro w mg fa h KX G hmg
    refine' My.all_mk KX G hmg ?aC ?pg ?hd ?po ?sa ?mk ?kc ?a_check_room_count ?l_check_room_count ?c_check_room_count ?k_check_room_count ?a_checked_doors ?l_checked_doors ?c_checked_doors ?k_checked_doors ?a__law_cell ?l__law_cell ?c__law_cell ?k__law_cell ?a__law_numbers ?l__law_numbers ?c__law_numbers ?k__law_numbers ?a__law_names ?l__law_names ?c__law_names ?k__law_names ?a__law_joined ?l__law_joined ?c__law_joined ?k__law_joined ?a__law_doors ?l__law_doors ?c__law_doors ?k__law_doors ?a__law_fewer ?l__law_fewer ?c__law_fewer ?k__law_fewer ?a__law_word ?l__law_word ?c__law_word ?k__law_word ?a__law_words ?l__law_words ?c__law_words ?k__law_words ?a__law_log ?l__law_log ?c__law_log ?k__law_log ?a__law_word_of ?l__law_word_of ?c__law_word_of ?k__law_word_of ?a__law_agreeing ?l__law_agreeing ?c__law_agreeing ?k__law_agreeing ?a__law_reach ?l__law_reach ?c__law_reach ?k__law_reach ?a__law_pieces ?l__law_pieces ?c__law_pieces ?k__law_pieces ?a__law_top ?l__law_top ?c__law_top ?k__law_top ?a__law_tops ?l__law_tops ?c__law_tops ?k__law_tops ?a__law_form ?l__law_form ?c__law_form ?k__law_form ?a__law_longer ?l__law_longer ?c__law_longer ?k__law_longer ?a__law_first_apart ?l__law_first_apart ?c__law_first_apart ?k__law_first_apart ?a__law_same ?l__law_same ?c__law_same ?k__law_same ?a_plain_log ?l_plain_log ?c_plain_log ?k_plain_log ?a_words_of ?l_words_of ?c_words_of ?k_words_of ?a_unlike_room ?l_unlike_room ?c_unlike_room ?k_unlike_room ?a_last_calls ?l_last_calls ?c_last_calls ?k_last_calls ?a_last_places ?l_last_places ?c_last_places ?k_last_places ?a_crossed_pairs ?l_crossed_pairs ?c_crossed_pairs ?k_crossed_pairs ?a_hall ?l_hall ?c_hall ?k_hall ?a_first_paths ?l_first_paths ?c_first_paths ?k_first_paths ?a_first_path ?l_first_path ?c_first_path ?k_first_path ?a_parting_path ?l_parting_path ?c_parting_path ?k_parting_path ?a_order_matters ?l_order_matters ?c_order_matters ?k_order_matters ?a_alike ?l_alike ?c_alike ?k_alike ?a_blocks ?l_blocks ?c_blocks ?k_blocks ?a_words_by_form ?l_words_by_form ?c_words_by_form ?k_words_by_form ?a_called_rooms ?l_called_rooms ?c_called_rooms ?k_called_rooms ?a_called_by_form ?l_called_by_form ?c_called_by_form ?k_called_by_form ?a_lies_in ?l_lies_in ?c_lies_in ?k_lies_in ?e_lies_in ?a_hides ?l_hides ?c_hides ?k_hides ?a__law_all_called ?l__law_all_called ?c__law_all_called ?k__law_all_called ?a__law_alone ?l__law_alone ?c__law_alone ?k__law_alone ?a_last_call_in ?l_last_call_in ?c_last_call_in ?k_last_call_in ?a_word_of ?l_word_of ?c_word_of ?k_word_of ?a_reached ?l_reached ?c_reached ?k_reached ?a_pieces ?l_pieces ?c_pieces ?k_pieces ?a_top_room ?l_top_room ?c_top_room ?k_top_room ?a_called_keepers ?l_called_keepers ?c_called_keepers ?k_called_keepers ?a_form_of ?l_form_of ?c_form_of ?k_form_of ?e_form_of ?a_overlay ?l_overlay ?c_overlay ?k_overlay ?a_build_form ?l_build_form ?c_build_form ?k_build_form ?e_build_form ?a_law ?l_law ?c_law ?k_law ?a_m_init_ ?l_m_init_ ?c_m_init_ ?k_m_init_ ?i_m_init_ ?a_mdoors ?l_mdoors ?c_mdoors ?k_mdoors ?i_mdoors ?a_mneighbours ?l_mneighbours ?c_mneighbours ?k_mneighbours ?i_mneighbours ?n_rooms ?n__doors ?n__near ?cr1 ?cr2 ?cv_MOST_ROOMS ?gf_nb ?tk_nb ?fi_nb ?ne_tb ?z_len ?z_abs ?z_int ?z_range ?z_list ?z_tuple ?z_min ?z_max ?z_sorted ?z_isinstance ?z_bool ?z_str ?z_set ?z_enumerate ?z_reversed ?z_dict ?z_all
    (case aC => k_is)
    (case pg => k_is)
    (case hd => k_is)
    (case po => k_is)
    (case sa => k_is)
    (case mk => k_is)
    (case kc => k_is)
    (case a_check_room_count => k_is)
    (case l_check_room_count => k_is)
    (case c_check_room_count => k_is)
    (case k_check_room_count => k_is)
    (case a_checked_doors => k_is)
    (case l_checked_doors => k_is)
    (case c_checked_doors => k_is)
    (case k_checked_doors => k_is)
    (case a__law_cell => k_is)
    (case l__law_cell => k_is)
    (case c__law_cell => k_is)
    (case k__law_cell => k_is)
    (case a__law_numbers => k_is)
    (case l__law_numbers => k_is)
    (case c__law_numbers => k_is)
    (case k__law_numbers => k_is)
    (case a__law_names => k_is)
    (case l__law_names => k_is)
    (case c__law_names => k_is)
    (case k__law_names => k_is)
    (case a__law_joined => k_is)
    (case l__law_joined => k_is)
    (case c__law_joined => k_is)
    (case k__law_joined => k_is)
    (case a__law_doors => k_is)
    (case l__law_doors => k_is)
    (case c__law_doors => k_is)
    (case k__law_doors => k_is)
    (case a__law_fewer => k_is)
    (case l__law_fewer => k_is)
    (case c__law_fewer => k_is)
    (case k__law_fewer => k_is)
    (case a__law_word => k_is)
    (case l__law_word => k_is)
    (case c__law_word => k_is)
    (case k__law_word => k_is)
    (case a__law_words => k_is)
    (case l__law_words => k_is)
    (case c__law_words => k_is)
    (case k__law_words => k_is)
    (case a__law_log => k_is)
    (case l__law_log => k_is)
    (case c__law_log => k_is)
    (case k__law_log => k_is)
    (case a__law_word_of => k_is)
    (case l__law_word_of => k_is)
    (case c__law_word_of => k_is)
    (case k__law_word_of => k_is)
    (case a__law_agreeing => k_is)
    (case l__law_agreeing => k_is)
    (case c__law_agreeing => k_is)
    (case k__law_agreeing => k_is)
    (case a__law_reach => k_is)
    (case l__law_reach => k_is)
    (case c__law_reach => k_is)
    (case k__law_reach => k_is)
    (case a__law_pieces => k_is)
    (case l__law_pieces => k_is)
    (case c__law_pieces => k_is)
    (case k__law_pieces => k_is)
    (case a__law_top => k_is)
    (case l__law_top => k_is)
    (case c__law_top => k_is)
    (case k__law_top => k_is)
    (case a__law_tops => k_is)
    (case l__law_tops => k_is)
    (case c__law_tops => k_is)
    (case k__law_tops => k_is)
    (case a__law_form => k_is)
    (case l__law_form => k_is)
    (case c__law_form => k_is)
    (case k__law_form => k_is)
    (case a__law_longer => k_is)
    (case l__law_longer => k_is)
    (case c__law_longer => k_is)
    (case k__law_longer => k_is)
    (case a__law_first_apart => k_is)
    (case l__law_first_apart => k_is)
    (case c__law_first_apart => k_is)
    (case k__law_first_apart => k_is)
    (case a__law_same => k_is)
    (case l__law_same => k_is)
    (case c__law_same => k_is)
    (case k__law_same => k_is)
    (case a_plain_log => k_is)
    (case l_plain_log => k_is)
    (case c_plain_log => k_is)
    (case k_plain_log => k_is)
    (case a_words_of => k_is)
    (case l_words_of => k_is)
    (case c_words_of => k_is)
    (case k_words_of => k_is)
    (case a_unlike_room => k_is)
    (case l_unlike_room => k_is)
    (case c_unlike_room => k_is)
    (case k_unlike_room => k_is)
    (case a_last_calls => k_is)
    (case l_last_calls => k_is)
    (case c_last_calls => k_is)
    (case k_last_calls => k_is)
    (case a_last_places => k_is)
    (case l_last_places => k_is)
    (case c_last_places => k_is)
    (case k_last_places => k_is)
    (case a_crossed_pairs => k_is)
    (case l_crossed_pairs => k_is)
    (case c_crossed_pairs => k_is)
    (case k_crossed_pairs => k_is)
    (case a_hall => k_is)
    (case l_hall => k_is)
    (case c_hall => k_is)
    (case k_hall => k_is)
    (case a_first_paths => k_is)
    (case l_first_paths => k_is)
    (case c_first_paths => k_is)
    (case k_first_paths => k_is)
    (case a_first_path => k_is)
    (case l_first_path => k_is)
    (case c_first_path => k_is)
    (case k_first_path => k_is)
    (case a_parting_path => k_is)
    (case l_parting_path => k_is)
    (case c_parting_path => k_is)
    (case k_parting_path => k_is)
    (case a_order_matters => k_is)
    (case l_order_matters => k_is)
    (case c_order_matters => k_is)
    (case k_order_matters => k_is)
    (case a_alike => k_is)
    (case l_alike => k_is)
    (case c_alike => k_is)
    (case k_alike => k_is)
    (case a_blocks => k_is)
    (case l_blocks => k_is)
    (case c_blocks => k_is)
    (case k_blocks => k_is)
    (case a_words_by_form => k_is)
    (case l_words_by_form => k_is)
    (case c_words_by_form => k_is)
    (case k_words_by_form => k_is)
    (case a_called_rooms => k_is)
    (case l_called_rooms => k_is)
    (case c_called_rooms => k_is)
    (case k_called_rooms => k_is)
    (case a_called_by_form => k_is)
    (case l_called_by_form => k_is)
    (case c_called_by_form => k_is)
    (case k_called_by_form => k_is)
    (case a_lies_in => k_is)
    (case l_lies_in => k_is)
    (case c_lies_in => k_is)
    (case k_lies_in => k_is)
    (case e_lies_in => rfl)
    (case a_hides => k_is)
    (case l_hides => k_is)
    (case c_hides => k_is)
    (case k_hides => k_is)
    (case a__law_all_called => k_is)
    (case l__law_all_called => k_is)
    (case c__law_all_called => k_is)
    (case k__law_all_called => k_is)
    (case a__law_alone => k_is)
    (case l__law_alone => k_is)
    (case c__law_alone => k_is)
    (case k__law_alone => k_is)
    (case a_last_call_in => k_is)
    (case l_last_call_in => k_is)
    (case c_last_call_in => k_is)
    (case k_last_call_in => k_is)
    (case a_word_of => k_is)
    (case l_word_of => k_is)
    (case c_word_of => k_is)
    (case k_word_of => k_is)
    (case a_reached => k_is)
    (case l_reached => k_is)
    (case c_reached => k_is)
    (case k_reached => k_is)
    (case a_pieces => k_is)
    (case l_pieces => k_is)
    (case c_pieces => k_is)
    (case k_pieces => k_is)
    (case a_top_room => k_is)
    (case l_top_room => k_is)
    (case c_top_room => k_is)
    (case k_top_room => k_is)
    (case a_called_keepers => k_is)
    (case l_called_keepers => k_is)
    (case c_called_keepers => k_is)
    (case k_called_keepers => k_is)
    (case a_form_of => k_is)
    (case l_form_of => k_is)
    (case c_form_of => k_is)
    (case k_form_of => k_is)
    (case e_form_of => rfl)
    (case a_overlay => k_is)
    (case l_overlay => k_is)
    (case c_overlay => k_is)
    (case k_overlay => k_is)
    (case a_build_form => k_is)
    (case l_build_form => k_is)
    (case c_build_form => k_is)
    (case k_build_form => k_is)
    (case e_build_form => rfl)
    (case a_law => k_is)
    (case l_law => k_is)
    (case c_law => k_is)
    (case k_law => k_is)
    (case a_m_init_ => k_is)
    (case l_m_init_ => k_is)
    (case c_m_init_ => k_is)
    (case k_m_init_ => k_is)
    (case i_m_init_ => k_is)
    (case a_mdoors => k_is)
    (case l_mdoors => k_is)
    (case c_mdoors => k_is)
    (case k_mdoors => k_is)
    (case i_mdoors => k_is)
    (case a_mneighbours => k_is)
    (case l_mneighbours => k_is)
    (case c_mneighbours => k_is)
    (case k_mneighbours => k_is)
    (case i_mneighbours => k_is)
    (case n_rooms => k_is)
    (case n__doors => k_is)
    (case n__near => k_is)
    (case cr1 => k_is)
    (case cr2 => k_is)
    (case cv_MOST_ROOMS => k_is)
    (case gf_nb => k_is)
    (case tk_nb => k_is)
    (case fi_nb => k_is)
    (case ne_tb => decide)
    (case z_len => k_is)
    (case z_abs => k_is)
    (case z_int => k_is)
    (case z_range => k_is)
    (case z_list => k_is)
    (case z_tuple => k_is)
    (case z_min => k_is)
    (case z_max => k_is)
    (case z_sorted => k_is)
    (case z_isinstance => k_is)
    (case z_bool => k_is)
    (case z_str => k_is)
    (case z_set => k_is)
    (case z_enumerate => k_is)
    (case z_reversed => k_is)
    (case z_dict => k_is)
    (case z_all => k_is)


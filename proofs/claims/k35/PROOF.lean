import PyProof.Rows.All
import Wide.All
import OpenK.AllK
import Wide.FinOn
import HandS.ForMost
import HandS.SortRule
import HandS.IsInst
import HandS.Deep
import HandS.Property
import HandS.TupSets
import HandS.Style
import HandS.Conv
import HandS.Evl
import HandS.ClsMeth
import HandS.Strs
import HandS.Rev
import HandS.SetFor
import HandS.Zip
import KE.DataCmp
import HandS.AnyAll
import PyProof.WalksMore
import HandS.Nested
import HandS.EndTab
import HandS.DictComp
import HandS.More
import KE.SortKeyHeap
import KE.SortUse
import PyProof.GenCompT
import PyProof.WalksPairs
import HandS.TupAny
import HandS.Walk
import PySem.Challenge.RW_callsheard_k35_whole_orders_exactly
set_option Elab.async false
set_option linter.all false
set_option maxRecDepth 100000
namespace My
open PySem PySem.Spec PyProof.Rows L2
theorem cxK {CX : CXT} {P : Program} {w : World} {K : PySem.W.Frag} {mg : Str → Option Value} {base : Heap} {N : List Str} {q : Str} {sc : Scope} {f : Addr} {cdv : Value} {A : Around} {outer : List Env} {s : Shared} {H : Hp} {E : XK} : (cxOf CX P w K mg base N q sc f cdv A outer s H E).nox.K = K := rfl
theorem cxK2 {CX : CXT} {P : Program} {w : World} {K : PySem.W.Frag} {mg : Str → Option Value} {base : Heap} {N : List Str} {q : Str} {sc : Scope} {f : Addr} {cdv : Value} {A : Around} {outer : List Env} {s : Shared} {H : Hp} {E : XK} : (cxOf CX P w K mg base N q sc f cdv A outer s H E).K = K := rfl
theorem cxP {CX : CXT} {P : Program} {w : World} {K : PySem.W.Frag} {mg : Str → Option Value} {base : Heap} {N : List Str} {q : Str} {sc : Scope} {f : Addr} {cdv : Value} {A : Around} {outer : List Env} {s : Shared} {H : Hp} {E : XK} : (cxOf CX P w K mg base N q sc f cdv A outer s H E).prog = P := rfl
theorem cxW {CX : CXT} {P : Program} {w : World} {K : PySem.W.Frag} {mg : Str → Option Value} {base : Heap} {N : List Str} {q : Str} {sc : Scope} {f : Addr} {cdv : Value} {A : Around} {outer : List Env} {s : Shared} {H : Hp} {E : XK} : (cxOf CX P w K mg base N q sc f cdv A outer s H E).w = w := rfl
/-- built-in names that the text has not bound -/
structure Bi (mg : Str → Option Value) : Prop where
  len : mg "len" = none
  abs : mg "abs" = none
  int : mg "int" = none
  range : mg "range" = none
  list : mg "list" = none
  tuple : mg "tuple" = none
  min : mg "min" = none
  max : mg "max" = none
  sorted : mg "sorted" = none
  isinstance : mg "isinstance" = none
  bool : mg "bool" = none
  str : mg "str" = none
  set : mg "set" = none
  enumerate : mg "enumerate" = none
/-- a def of the text, bound in the module, that keeps a promise -/
structure Df (P : Program) (w : World) (K : PySem.W.Frag) (mg : Str → Option Value) (base : Heap) (x : Str) (ps : List Str) (k : Nat) (sp : Sp) (f : Addr) (fd : FuncData) : Prop where
  at_ : mg x = some (.ref f)
  kp : PySem.W.keepIn K (.ref f) = true
  b : Binds K fd ps []
  ok : FnOk P w K mg base CX0 k f fd ps sp
local macro_rules | `(tactic| walk_at "rd") => `(tactic| try simp only [cxK, cxK2, cxP, cxW, L2.start, List.length_cons, List.length_nil, List.replicate_succ, List.replicate_zero, List.map_cons, List.map_nil, List.cons_append, List.nil_append, tVar, tC, tAdd, tSub, t2I, tIsN, tNotN, tB, tAnd, tOr, tNot, tAndV, tOrV, tNotV, tIf, tNext, tSeq, tBreak, tCont, tDrop, tRet, tRetN, tIfS, gName, gNil, gCons, gTup, gSub, tAsg, tOp, tUn, rI, rI0, rU, tTest, tChain, tNil, tCons, tTup, tLst, tCall, tCB, tNoPart, tPart, tSl, rIxL, rIxT, rIxS, rSetL, rAppend, rExtend, tBM, tBM0, tFld, tMeth, tMake, sFld, tYes, tLstRg, tRg1, tRg2, rSlL, iRng1, iRng2, iList, List.getElem?_cons_zero, List.getElem?_cons_succ, Option.some.injEq, List.cons.injEq, V.int.injEq, V.ref.injEq, V.bl.injEq, V.str.injEq, exists_eq_left', exists_eq_left, exists_eq_right, exists_eq_right', true_and, and_true, and_assoc, exists_and_left, exists_and_right, List.set_cons_zero, List.set_cons_succ, List.append_nil, reduceCtorEq, false_and, and_false, exists_false, or_false, false_or, decide_eq_true_eq, Nat.reduceAdd, Nat.reduceSub])
section
variable {X : Cx}
theorem cr_intI : CallR X (.type "int") (fun xs H Q => ∃ i, xs = [.int i] ∧ Q (.int i) H) := fun pins s σ H xs us Q I r h => call_int1 pins s σ H xs us Q I r (.inl h)
theorem op_eqI : OpR X (compareOp .Eq) (rI0 fun i j => .bl (decide (i = j))) := fun pins s σ H x y v u Q I rx ry h => by
  obtain ⟨i, j, rfl, rfl, q⟩ := h
  have e : decide (i = j) = decide (V.int i = V.int j) := by
    by_cases h : i = j
    · subst h
      rw [decide_eq_true rfl, decide_eq_true rfl]
    · rw [decide_eq_false h, decide_eq_false (fun z => h (V.int.inj z))]
  exact op_eq pins s σ H _ _ v u Q I rx ry ⟨rfl, by rw [← e]; exact q⟩
theorem op_neI : OpR X (compareOp .NotEq) (rI0 fun i j => .bl (!decide (i = j))) := fun pins s σ H x y v u Q I rx ry h => by
  obtain ⟨i, j, rfl, rfl, q⟩ := h
  have e : decide (i = j) = decide (V.int i = V.int j) := by
    by_cases h : i = j
    · subst h
      rw [decide_eq_true rfl, decide_eq_true rfl]
    · rw [decide_eq_false h, decide_eq_false (fun z => h (V.int.inj z))]
  exact op_ne pins s σ H _ _ v u Q I rx ry ⟨rfl, by rw [← e]; exact q⟩
def rIsT : R2 := fun x y H Q => ∃ b : Bool, y = .bl b ∧ Q (.bl (decide (x = .bl b))) H
/-- x is True, x is False -/
theorem op_isT : OpR X (compareOp .Is) rIsT := by
  intro pins s σ H x y v u Q I rx ry h
  obtain ⟨b, rfl, q⟩ := h
  cases (show u = Value.bool b from ry)
  cases x with
  | non => cases (show v = Value.none from rx); exact wpAny_is_other rfl (fun z => nomatch z) ⟨.bl false, H, I, rfl, by simpa using q⟩
  | bl a =>
    cases (show v = Value.bool a from rx)
    by_cases e : a = b
    · subst e
      exact wpAny_is_self rfl ⟨.bl true, H, I, rfl, by simpa using q⟩
    · exact wpAny_is_other rfl (fun z => e (Value.bool.inj z)) ⟨.bl false, H, I, rfl, by simpa [e] using q⟩
  | int i => obtain ⟨t, e⟩ := (show ∃ t, v = Value.int i t from rx); cases e; exact wpAny_is_other rfl (fun z => nomatch z) ⟨.bl false, H, I, rfl, by simpa using q⟩
  | str i => obtain ⟨t, e⟩ := (show ∃ t, v = Value.str i t from rx); cases e; exact wpAny_is_other rfl (fun z => nomatch z) ⟨.bl false, H, I, rfl, by simpa using q⟩
  | byt i => obtain ⟨t, e⟩ := (show ∃ t, v = Value.bytes i t from rx); cases e; exact wpAny_is_other rfl (fun z => nomatch z) ⟨.bl false, H, I, rfl, by simpa using q⟩
  | flt i => obtain ⟨t, e⟩ := (show ∃ t, v = Value.float i t from rx); cases e; exact wpAny_is_other rfl (fun z => nomatch z) ⟨.bl false, H, I, rfl, by simpa using q⟩
  | ref a => cases (show v = Value.ref a from rx); exact wpAny_is_other rfl (fun z => nomatch z) ⟨.bl false, H, I, rfl, by simpa using q⟩
  | ty n => cases (show v = Value.type n from rx); exact wpAny_is_other rfl (fun z => nomatch z) ⟨.bl false, H, I, rfl, by simpa using q⟩
end
theorem same_upd {H : Hp} {p : Addr} {o : HO} (h : H p = none) : Same H (upd H p o) := fun b x e => by
  rw [upd_ne (ne_of_none e h)]
  exact e
/-- a list that was new and is changed: what stood before stands -/
theorem same_ch {H0 H : Hp} {p : Addr} {o : HO} (s : Same H0 H) (n : H0 p = none) : Same H0 (upd H p o) := fun b x e => by
  rw [upd_ne (ne_of_none e n)]
  exact s _ _ e
theorem ixn {n j : Nat} {z : Int} (e : z = (j : Int)) (hj : j < n) : ixN n z = some j := by
  rw [e]
  unfold ixN
  rw [if_pos (by omega), if_pos (by omega)]
  simp
theorem len_big {n : Nat} (h : n ≤ 100000) : n < sizeLine := Nat.lt_of_le_of_lt h (by decide)
theorem mem_ix {α : Type} {l : List α} {i : Nat} (h : i < l.length) : ∃ x, l[i]? = some x ∧ x ∈ l := ⟨l[i], List.getElem?_eq_getElem h, List.getElem_mem h⟩

local macro_rules | `(tactic| walk_at "rg") => `(tactic| try simp only [cxK, cxK2, cxP, cxW, L2.start, List.length_cons, List.length_nil, List.replicate_succ, List.replicate_zero, List.map_cons, List.map_nil, List.cons_append, List.nil_append, gName, gNil, gCons, gTup, gSub, List.getElem?_cons_zero, List.getElem?_cons_succ, Option.some.injEq, List.cons.injEq, V.int.injEq, V.ref.injEq, V.bl.injEq, V.str.injEq, exists_eq_left', exists_eq_left, exists_eq_right, exists_eq_right', true_and, and_true, and_assoc, exists_and_left, exists_and_right, List.set_cons_zero, List.set_cons_succ, List.append_nil, reduceCtorEq, false_and, and_false, exists_false, or_false, false_or, decide_eq_true_eq, Nat.reduceAdd, Nat.reduceSub])
def topS (i : Nat) : Stmt := PySem.Challenge.pw_callsheard_k35_whole_orders_exactly.main.body.getD i (.Pass ⟨0, 0, 0, 0⟩)
abbrev sCell : Stmt := topS 34
abbrev sNum : Stmt := topS 35
def cellN (ns : List Int) (k : Nat) : Int := (ns.getD k 0).natAbs
theorem cellN_nn (ns : List Int) (k : Nat) : 0 ≤ cellN ns k := Int.natCast_nonneg _
section
variable {P : Program} {w : World} {K : PySem.W.Frag} {mg : Str → Option Value} {base : Heap}
theorem scCell : FnScope ["script", "k"] ["script", "k"] (defScope sCell) := ⟨rfl, rfl, rfl, by decide +kernel, rfl, by decide +kernel, by decide +kernel⟩
def spCell (K : PySem.W.Frag) : Sp := fun vs H Q _ => ∃ (a : Addr) (ns : List Int) (k : Nat), vs = [.ref a, .int k] ∧ SqL K H a (ns.map V.int) ∧ ∀ c, 0 ≤ c → Q (.int c) H
theorem ok_cell {f : Addr} {fd : FuncData} (F : Fun K "_law_cell" "_law_cell" sCell f fd) (T : Bi mg) : FnOk P w K mg base CX0 1 f fd ["script", "k"] (spCell K) := by
  refine F.ok scCell (fun vs H Q E h => ?_) (fun cdv A outer s H vs Q E hr h => ?_)
  · obtain ⟨a, ns, k, rfl, _⟩ := h
    rfl
  · obtain ⟨a, ns, k, rfl, hS, q⟩ := h
    refine ⟨_, (pss_cons (ps_if (pt_cmpR op_lt (pv 1) (pe_callB call_len_seq (by rfl) T.len (by decide +kernel) (pa_cons (pv 0) pa_nil)) (nomark _))
      (pss_one (ps_ret (pe_callB call_abs (by rfl) T.abs (by decide +kernel) (pa_cons (pe_callTy cr_intI (by rfl) T.int (by decide +kernel) (pa_cons (pe_ix ix_list (pv 0) (pv 1) (fun _ _ => rfl)) pa_nil)) pa_nil))))
      pss_nil)
      (pss_one (ps_ret pe_int))), ?_⟩
    walk_at "rd"
    refine ⟨_, .inl hS, ?_⟩
    rw [List.length_map]
    refine ite2 (fun hk => ?_) (fun _ => q _ (Int.le_refl _))
    have hk2 : k < ns.length := by omega
    refine ⟨_, hS, V.int ns[k], atI_nat (by rw [List.getElem?_map, List.getElem?_eq_getElem hk2]; rfl), _, rfl, ?_⟩
    refine q _ ?_
    split <;> omega
theorem scNum : FnScope ["cell", "count", "numbers", "rest", "mixed", "k"] ["cell", "count"] (defScope sNum) := ⟨rfl, rfl, rfl, by decide +kernel, rfl, by decide +kernel, by decide +kernel⟩
/-- n ints from 0 on below 997 -/
def Nums (n : Nat) (ns : List Int) : Prop := ns.length = n ∧ ∀ x ∈ ns, 0 ≤ x ∧ x < 997
def spNum (K : PySem.W.Frag) : Sp := fun vs H Q _ => ∃ (c : Int) (n : Nat), vs = [.int c, .int n] ∧ n ≤ 2000 ∧ ∀ ns p H', Nums n ns → Same H H' → H p = none → H' p = some (.lst (ns.map V.int)) → Q (.ref p) H'
theorem ok_num {f : Addr} {fd : FuncData} (F : Fun K "_law_numbers" "_law_numbers" sNum f fd) (T : Bi mg) : FnOk P w K mg base CX0 1 f fd ["cell", "count"] (spNum K) := by
  refine F.ok scNum (fun vs H Q E h => ?_) (fun cdv A outer s H vs Q E hr h => ?_)
  · obtain ⟨c, n, rfl, _⟩ := h
    rfl
  · obtain ⟨c, n, rfl, hn, q⟩ := h
    refine ⟨_, (pss_cons (ps_set (i := 2) scNum.nd rfl (Or.inl rfl) (pe_lst pa_nil))
      (pss_cons (ps_set (i := 3) scNum.nd rfl (Or.inl rfl) (pv 0))
      (pss_cons (ps_set (i := 4) scNum.nd rfl (Or.inl rfl) (pe_op op_mod (pe_callTy cr_intI (by rfl) T.int (by decide +kernel) (pa_cons (pe_op op_add (pe_op op_mul (pv 0) pe_int) pe_int) pa_nil)) pe_int))
      (pss_cons (ps_for PassesOwn.never rfl (pi_range1 (by rfl) T.range (pa_cons (pv 1) pa_nil)) (pg_name (i := 5) scNum.nd rfl (Or.inl rfl))
      (pss_cons (ps_set (i := 4) scNum.nd rfl (Or.inl rfl) (pe_op op_mod (pe_callTy cr_intI (by rfl) T.int (by decide +kernel) (pa_cons (pe_op op_add (pe_op op_add (pe_op op_mul (pv 4) pe_int) (pe_op op_mul pe_int (pv 5))) pe_int) pa_nil)) pe_int))
        (pss_one (ps_if (pt_cmpR op_ge (pv 0) (pe_op op_pow pe_int pe_int) (nomark _))
        (pss_cons (ps_expr (pe_bm PySem.F.plainAttrs_list PySem.F.slot_list_append PySem.F.type_list_append mt_append (pv 2) (pa_cons (pe_op op_mod (pe_callTy cr_intI (by rfl) T.int (by decide +kernel) (pa_cons (pv 3) pa_nil)) pe_int) pa_nil)))
          (pss_one (ps_set (i := 3) scNum.nd rfl (Or.inl rfl) (pe_op op_fdiv (pv 3) pe_int))))
        (pss_one (ps_expr (pe_bm PySem.F.plainAttrs_list PySem.F.slot_list_append PySem.F.type_list_append mt_append (pv 2) (pa_cons (pe_op op_mod (pe_callTy cr_intI (by rfl) T.int (by decide +kernel) (pa_cons (pe_op op_fdiv (pv 4) pe_int) pa_nil)) pe_int) pa_nil))))))))
      (pss_one (ps_ret (pv 2))))))), ?_⟩
    walk_at "rd"
    refine ⟨by decide, fun p np => ⟨.inr (by decide), by decide, ?_⟩⟩
    refine ⟨_, rfl, _, rfl, by omega, by omega, for_range (lo := 0) (n := (n : Int).toNat) (fun i σ H' => ∃ (ns : List Int) (rest mixed : Int) (v : Option V), σ = [some (.int c), some (.int n), some (.ref p), some (.int rest), some (.int mixed), v] ∧ Nums i ns ∧ Same H H' ∧ H' p = some (.lst (ns.map V.int)))
      ⟨[], c, _, none, rfl, ⟨rfl, fun x hx => by cases hx⟩, same_upd np, upd_same⟩ ?_ ?_⟩
    · rintro i σ H' hi ⟨ns, rest, mixed, v, rfl, hns, sm, hp⟩
      have small : (List.map V.int ns).length < sizeLine := len_big (by rw [List.length_map, hns.1]; omega)
      have next : ∀ y, 0 ≤ y → y < 997 → Nums (i + 1) (ns ++ [y]) := fun y h0 h1 => by
        refine ⟨by rw [List.length_append, hns.1]; rfl, fun x hx => ?_⟩
        rcases List.mem_append.mp hx with hx | hx
        · exact hns.2 x hx
        · rw [List.mem_singleton.mp hx]
          exact ⟨h0, h1⟩
      have ty : tyV K "list" (.ref p) H' := .inl ⟨rfl, _, SqL.of hp⟩
      walk_at "rd"
      refine ⟨.inr (by decide), .inl (by decide), by decide, ⟨by decide, by decide, by decide⟩, ite2 (fun _ => ?_) (fun _ => ?_)⟩
      · refine ⟨ty, by decide, _, hp, small, ⟨by decide, by decide⟩, ns ++ [rest % 997], next _ (Int.emod_nonneg _ (by decide)) (Int.emod_lt_of_pos _ (by decide)), same_ch sm np, ?_⟩
        rw [upd_same, List.map_append]
        rfl
      · refine ⟨ty, ⟨by decide, by decide⟩, by decide, _, hp, small, ns ++ [(mixed * 48271 + 7919 * (0 + (i : Int)) + 12345) % 2147483647 / 1009 % 997], next _ (Int.emod_nonneg _ (by decide)) (Int.emod_lt_of_pos _ (by decide)), same_ch sm np, ?_⟩
        rw [upd_same, List.map_append]
        rfl
    · rintro σ H' ⟨ns, rest, mixed, v, rfl, hns, sm, hp⟩
      walk_at "rd"
      exact q ns p H' (by simpa using hns) sm np hp
end

/-! ### pairs of ints in the heap -/
abbrev Pr := Int × Int
/-- v is a tuple of the two ints -/
def IsP (H : Hp) (v : V) (d : Pr) : Prop := ∃ t, v = .ref t ∧ H t = some (.tup [.int d.1, .int d.2])
def PL (H : Hp) (vs : List V) (D : List Pr) : Prop := Paired (IsP H) vs D
def kH (H : Hp) (v : V) : Pr := match v with
  | .ref t => match H t with
    | some (.tup [.int x, .int y]) => (x, y)
    | _ => (0, 0)
  | _ => (0, 0)
theorem IsP.k {H : Hp} {v : V} {d : Pr} (h : IsP H v d) : kH H v = d := by
  obtain ⟨t, rfl, e⟩ := h
  unfold kH
  simp only [e]
/-- tuples stand -/
def KT (H H' : Hp) : Prop := ∀ t xs, H t = some (.tup xs) → H' t = some (.tup xs)
theorem KT.refl (H : Hp) : KT H H := fun _ _ h => h
theorem KT.trans {H H1 H2 : Hp} (a : KT H H1) (b : KT H1 H2) : KT H H2 := fun t xs h => b t xs (a t xs h)
theorem KT.same {H H' : Hp} (s : Same H H') : KT H H' := fun t xs h => s t _ h
theorem KT.new {H : Hp} {p : Addr} {o : HO} (n : H p = none) : KT H (upd H p o) := KT.same (same_upd n)
theorem KT.ch {H : Hp} {p : Addr} {o o' : HO} (n : H p = some o') (ho : ∀ xs, o' ≠ .tup xs) : KT H (upd H p o) := fun t xs h => by
  rw [upd_ne]
  · exact h
  · rintro rfl
    rw [h] at n
    exact ho xs (Option.some.inj n).symm
theorem KT.lst {H : Hp} {p : Addr} {o : HO} {vs : List V} (n : H p = some (.lst vs)) : KT H (upd H p o) := KT.ch n (fun _ h => by cases h)
theorem IsP.kt {H H' : Hp} {v : V} {d : Pr} (h : IsP H v d) (k : KT H H') : IsP H' v d := by
  obtain ⟨t, e, h⟩ := h
  exact ⟨t, e, k _ _ h⟩
theorem PL.kt {H H' : Hp} {vs : List V} {D : List Pr} (h : PL H vs D) (k : KT H H') : PL H' vs D := Paired.mapP h fun _ _ q => q.kt k
theorem PL.len {H : Hp} {vs : List V} {D : List Pr} (h : PL H vs D) : vs.length = D.length := Paired.length h
theorem PL.nil0 (H : Hp) : PL H [] [] := Paired.nil
theorem PL.snoc {H : Hp} {vs : List V} {D : List Pr} {v : V} {d : Pr} (h : PL H vs D) (q : IsP H v d) : PL H (vs ++ [v]) (D ++ [d]) := Paired.snoc h q
theorem PL.get : ∀ {H : Hp} {vs : List V} {D : List Pr} {i : Nat} {v : V}, PL H vs D → vs[i]? = some v → ∃ d, D[i]? = some d ∧ IsP H v d
  | _, _, _, _, _, Paired.nil, e => by simp at e
  | _, _, _, 0, v, .cons r _, e => by
    have e2 := Option.some.inj e
    subst e2
    exact ⟨_, rfl, r⟩
  | _, _, _, i + 1, v, .cons _ t, e => PL.get (i := i) t e
theorem PL.get2 : ∀ {H : Hp} {vs : List V} {D : List Pr} {i : Nat} {d : Pr}, PL H vs D → D[i]? = some d → ∃ v, vs[i]? = some v ∧ IsP H v d
  | _, _, _, _, _, Paired.nil, e => by simp at e
  | _, _, _, 0, v, .cons r _, e => by
    have e2 := Option.some.inj e
    subst e2
    exact ⟨_, rfl, r⟩
  | _, _, _, i + 1, v, .cons _ t, e => PL.get2 (i := i) t e
theorem PL.toK : ∀ {H : Hp} {vs : List V} {D : List Pr}, PL H vs D → D = vs.map (kH H) ∧ ∀ v ∈ vs, IsP H v (kH H v)
  | _, _, _, Paired.nil => ⟨rfl, fun v hv => by cases hv⟩
  | H, _, _, .cons r t => by
    obtain ⟨e, h⟩ := PL.toK t
    have q := r.k
    refine ⟨by rw [List.map_cons, ← e, q], fun v hv => ?_⟩
    rcases List.mem_cons.mp hv with rfl | hv
    · rw [q]
      exact r
    · exact h v hv
theorem PL.ofK {H : Hp} : ∀ {vs : List V}, (∀ v ∈ vs, IsP H v (kH H v)) → PL H vs (vs.map (kH H))
  | [], _ => Paired.nil
  | v :: vs, h => .cons (h v List.mem_cons_self) (PL.ofK fun u hu => h u (List.mem_cons_of_mem _ hu))
/-! ### sorted lists of pairs -/
def lt2 (p q : Pr) : Prop := p.1 < q.1 ∨ (p.1 = q.1 ∧ p.2 < q.2)
def Asc (D : List Pr) : Prop := D.Pairwise lt2
theorem lt2_irr (p : Pr) : ¬ lt2 p p := by
  unfold lt2
  omega
theorem lt2_ne {p q : Pr} (h : lt2 p q) : p ≠ q := by
  rintro rfl
  exact lt2_irr p h
theorem Asc.nodup {D : List Pr} (h : Asc D) : D.Nodup := List.Pairwise.imp lt2_ne h
theorem asc_of {D : List Pr} (nd : D.Nodup) (h : D.Pairwise fun x y => ¬ lt2 y x) : Asc D := by
  induction D with
  | nil => exact List.Pairwise.nil
  | cons p D ih =>
    obtain ⟨h1, h2⟩ := List.pairwise_cons.mp h
    obtain ⟨n1, n2⟩ := List.nodup_cons.mp nd
    refine List.pairwise_cons.mpr ⟨fun q hq => ?_, ih n2 h2⟩
    have a := h1 q hq
    have b : p ≠ q := fun e => n1 (by rw [e]; exact hq)
    unfold lt2 at a ⊢
    obtain ⟨p1, p2⟩ := p
    obtain ⟨q1, q2⟩ := q
    have c : ¬ (p1 = q1 ∧ p2 = q2) := fun ⟨e1, e2⟩ => b (by rw [e1, e2])
    simp only at a ⊢
    omega
/-- two ascending lists with the same pairs are one -/
theorem asc_uniq : ∀ {D E : List Pr}, Asc D → Asc E → (∀ p, p ∈ D ↔ p ∈ E) → D = E
  | [], [], _, _, _ => rfl
  | [], q :: E, _, _, h => by
    have := (h q).mpr List.mem_cons_self
    cases this
  | p :: D, [], _, _, h => by
    have := (h p).mp List.mem_cons_self
    cases this
  | p :: D, q :: E, hD, hE, h => by
    obtain ⟨a1, a2⟩ := List.pairwise_cons.mp hD
    obtain ⟨b1, b2⟩ := List.pairwise_cons.mp hE
    have e : p = q := by
      rcases List.mem_cons.mp ((h p).mp List.mem_cons_self) with e | hp
      · exact e
      · rcases List.mem_cons.mp ((h q).mpr List.mem_cons_self) with e | hq
        · exact e.symm
        · have c1 := b1 p hp
          have c2 := a1 q hq
          unfold lt2 at c1 c2
          omega
    subst e
    rw [asc_uniq a2 b2 fun z => ?_]
    constructor
    · intro hz
      rcases List.mem_cons.mp ((h z).mp (List.mem_cons_of_mem _ hz)) with e | hz2
      · subst e
        exact absurd (a1 z hz) (lt2_irr z)
      · exact hz2
    · intro hz
      rcases List.mem_cons.mp ((h z).mpr (List.mem_cons_of_mem _ hz)) with e | hz2
      · subst e
        exact absurd (b1 z hz) (lt2_irr z)
      · exact hz2
theorem srtd_asc {H : Hp} {ys : List V} (nd : (ys.map (kH H)).Nodup) (h : SrtO.Srtd (ltP (kH H)) ys) : Asc (ys.map (kH H)) := by
  refine asc_of nd (List.pairwise_map.mpr (List.Pairwise.imp (fun {x y} h => ?_) h))
  exact SrtO.lexB_no.mp h
/-- doors of a house with r rooms -/
structure Drs (r : Nat) (D : List Pr) : Prop where
  asc : Asc D
  ok : ∀ d ∈ D, 0 ≤ d.1 ∧ d.1 < d.2 ∧ d.2 < r
def cd (d : Pr) : Nat := (d.1 * 12 + d.2).toNat
theorem drs_len' {r : Nat} {D : List Pr} (hr : r ≤ 12) (nd : D.Nodup) (ok : ∀ d ∈ D, 0 ≤ d.1 ∧ d.1 < d.2 ∧ d.2 < r) : D.length ≤ 66 := by
  have h1 : (D.map cd).Nodup := by
    refine List.pairwise_map.mpr (List.Pairwise.imp_of_mem (fun {x y} hx hy hne e => ?_) nd)
    have a := ok x hx
    have b := ok y hy
    unfold cd at e
    obtain ⟨x1, x2⟩ := x
    obtain ⟨y1, y2⟩ := y
    simp only at a b e
    have : x1 = y1 ∧ x2 = y2 := by omega
    exact hne (by rw [this.1, this.2])
  have h2 : ∀ c ∈ D.map cd, c ∈ (List.range 144).filter fun c => c / 12 < c % 12 := fun c hc => by
    obtain ⟨d, hd, rfl⟩ := List.mem_map.mp hc
    have a := ok d hd
    refine List.mem_filter.mpr ⟨List.mem_range.mpr ?_, ?_⟩
    · unfold cd
      omega
    · rw [decide_eq_true_eq]
      unfold cd
      omega
  have h3 := nat_nodup_len (D.map cd) _ h1 h2
  rw [List.length_map] at h3
  exact Nat.le_trans h3 (by decide)
theorem Drs.len {r : Nat} {D : List Pr} (hr : r ≤ 12) (h : Drs r D) : D.length ≤ 66 := drs_len' hr h.asc.nodup h.ok

abbrev sNam : Stmt := topS 36
abbrev sJnd : Stmt := topS 37
theorem sub_lt_of {i n : Nat} (h : i < n) : (0 : Int) < (n : Int) - (i : Int) := by omega
/-- the ints from 0 on below n -/
def rg (n : Nat) : List Int := (List.range n).map Int.ofNat
theorem rg_len (n : Nat) : (rg n).length = n := by unfold rg; rw [List.length_map, List.length_range]
theorem rgV_rg (n : Nat) : rgV 0 (n : Int) = (rg n).map V.int := by
  unfold rgV rg
  rw [List.map_map]
  show List.map _ (List.range ((n : Int) - 0).toNat) = _
  rw [show ((n : Int) - 0).toNat = n by omega]
  refine List.map_congr_left fun i _ => ?_
  show V.int (0 + (i : Int)) = V.int (i : Int)
  rw [Int.zero_add]
theorem set_map {α β : Type} (f : α → β) (l : List α) (i : Nat) (x : α) : (l.map f).set i (f x) = (l.set i x).map f := by
  rw [List.map_set]
section
variable {P : Program} {w : World} {K : PySem.W.Frag} {mg : Str → Option Value} {base : Heap}
theorem scNam : FnScope ["numbers", "at", "rooms", "names", "k", "j", "kept"] ["numbers", "at", "rooms"] (defScope sNam) := ⟨rfl, rfl, rfl, by decide +kernel, rfl, by decide +kernel, by decide +kernel⟩
def spNam (K : PySem.W.Frag) : Sp := fun vs H Q _ => ∃ (a : Addr) (ns : List Int) (at_ r : Nat), vs = [.ref a, .int at_, .int r] ∧ SqL K H a (ns.map V.int) ∧ at_ + r ≤ ns.length ∧ r ≤ 1000 ∧
  ∀ xs p H', List.Perm xs (rg r) → Same H H' → H p = none → H' p = some (.lst (xs.map V.int)) → Q (.ref p) H'
theorem ok_nam {f : Addr} {fd : FuncData} (F : Fun K "_law_names" "_law_names" sNam f fd) (T : Bi mg) : FnOk P w K mg base CX0 1 f fd ["numbers", "at", "rooms"] (spNam K) := by
  refine F.ok scNam (fun vs H Q E h => ?_) (fun cdv A outer s H vs Q E hr h => ?_)
  · obtain ⟨a, ns, at_, r, rfl, _⟩ := h
    rfl
  · obtain ⟨a, ns, at_, r, rfl, hS, hat, hr1, q⟩ := h
    refine ⟨_, (pss_cons (ps_set (i := 3) scNam.nd rfl (Or.inl rfl) (pe_listRg rfl (by rfl) T.list (prg_1 (by rfl) T.range (pv 2))))
      (pss_cons (ps_for PassesOwn.never rfl (pi_range1 (by rfl) T.range (pa_cons (pv 2) pa_nil)) (pg_name (i := 4) scNam.nd rfl (Or.inl rfl))
      (pss_cons (ps_set (i := 5) scNam.nd rfl (Or.inl rfl) (pe_op op_add (pv 4) (pe_op op_mod (pe_callTy cr_intI (by rfl) T.int (by decide +kernel) (pa_cons (pe_ix ix_list (pv 0) (pe_op op_add (pv 1) (pv 4)) (fun _ _ => rfl)) pa_nil)) (pe_op op_sub (pv 2) (pv 4)))))
        (pss_cons (ps_set (i := 6) scNam.nd rfl (Or.inl rfl) (pe_ix ix_list (pv 3) (pv 4) (fun _ _ => rfl)))
        (pss_cons (ps_asg (pe_ix ix_list (pv 3) (pv 5) (fun _ _ => rfl)) (pg_sub (pv 3) (pv 4) set_list))
        (pss_one (ps_asg (pv 6) (pg_sub (pv 3) (pv 5) set_list)))))))
      (pss_one (ps_ret (pv 3))))), ?_⟩
    walk_at "rd"
    refine ⟨RgOk.of_le (by omega) (by omega) (by omega) (by omega), fun p np => ?_⟩
    refine ⟨_, rfl, r, rfl, by omega, by omega, for_range (lo := 0) (n := (r : Int).toNat) (fun i σ H' => ∃ (xs : List Int) (v1 v2 v3 : Option V), σ = [some (.ref a), some (.int at_), some (.int r), some (.ref p), v1, v2, v3] ∧ List.Perm xs (rg r) ∧ Same H H' ∧ H' p = some (.lst (xs.map V.int)))
      ⟨rg r, none, none, none, rfl, List.Perm.refl _, same_upd np, by rw [upd_same, rgV_rg]⟩ ?_ ?_⟩
    · rintro i σ H' hi ⟨xs, v1, v2, v3, rfl, pm, sm, hp⟩
      have hi2 : i < r := by omega
      have hl : xs.length = r := by rw [pm.length_eq, rg_len]
      have hS' := sm.seq hS
      have hn : at_ + i < ns.length := by omega
      have hq : SqL K H' p (xs.map V.int) := SqL.of hp
      walk_at "rd"
      have hj0 := Int.emod_nonneg ns[at_ + i] (show ((r : Int) - (0 + (i : Int))) ≠ 0 by omega)
      have hj1 := Int.emod_lt_of_pos ns[at_ + i] (show 0 < ((r : Int) - (0 + (i : Int))) by omega)
      obtain ⟨j, hj⟩ : ∃ j : Nat, (0 + (i : Int)) + ns[at_ + i] % ((r : Int) - (0 + (i : Int))) = j := ⟨((0 + (i : Int)) + ns[at_ + i] % ((r : Int) - (0 + (i : Int)))).toNat, by omega⟩
      have hjr : j < r := by omega
      have gi : (xs.map V.int)[i]? = some (.int xs[i]) := by rw [List.getElem?_map, List.getElem?_eq_getElem (by omega)]; rfl
      have gj : (xs.map V.int)[j]? = some (.int xs[j]) := by rw [List.getElem?_map, List.getElem?_eq_getElem (by omega)]; rfl
      refine ⟨_, hS', .int ns[at_ + i], at_of (j := at_ + i) (by omega) (by rw [List.getElem?_map, List.getElem?_eq_getElem hn]; rfl), _, rfl, by omega, _, hq, .int xs[i], at_of (by omega) gi, _, hq, .int xs[j], at_of hj gj, _, hp, i, ixn (by omega) (by rw [List.length_map]; omega), _, upd_same, j, ixn hj (by rw [List.length_set, List.length_map]; omega), (xs.set i xs[j]).set j xs[i], (List.set_set_perm (by omega) (by omega)).trans pm, same_ch (same_ch sm np) np, ?_⟩
      rw [upd_same, set_map, set_map]
    · rintro σ H' ⟨xs, v1, v2, v3, rfl, pm, sm, hp⟩
      walk_at "rd"
      exact q xs p H' pm sm np hp
theorem scJnd : FnScope ["kind", "a", "b", "rooms", "number", "parent"] ["kind", "a", "b", "rooms", "number", "parent"] (defScope sJnd) := ⟨rfl, rfl, rfl, by decide +kernel, rfl, by decide +kernel, by decide +kernel⟩
def spJnd : Sp := fun vs H Q _ => ∃ (kd a b r n p : Int), vs = [.int kd, .int a, .int b, .int r, .int n, .int p] ∧ 0 < b ∧ (0 ≤ kd ∧ kd < 8) ∧ ∀ c H', Same H H' → Q (.bl c) H'
theorem ok_jnd {f : Addr} {fd : FuncData} (F : Fun K "_law_joined" "_law_joined" sJnd f fd) (T : Bi mg) : FnOk P w K mg base CX0 1 f fd ["kind", "a", "b", "rooms", "number", "parent"] spJnd := by
  refine F.ok scJnd (fun vs H Q E h => ?_) (fun cdv A outer s H vs Q E hr h => ?_)
  · obtain ⟨kd, a, b, r, n, p, rfl, _⟩ := h
    rfl
  · obtain ⟨kd, a, b, r, n, p, rfl, hb, ⟨k0, k8⟩, q⟩ := h
    refine ⟨_, (pss_cons (ps_if (pt_cmpR op_eqI (pv 0) pe_int (nomark _))
      (pss_one (ps_ret (pe_cmpR op_eqI (pv 1) pe_int (nomark _))))
      pss_nil)
      (pss_cons (ps_if (pt_cmpR op_eqI (pv 0) pe_int (nomark _))
      (pss_one (ps_ret (pe_or (pe_cmpR op_eqI (pv 2) (pe_op op_add (pv 1) pe_int) (nomark _)) (pe_one (pe_and (pe_cmpR op_eqI (pv 1) pe_int (nomark _)) (pe_one (pe_cmpR op_eqI (pv 2) (pe_op op_sub (pv 3) pe_int) (nomark _))))))))
      pss_nil)
      (pss_cons (ps_if (pt_cmpR op_eqI (pv 0) pe_int (nomark _))
      (pss_one (ps_ret pe_bl))
      pss_nil)
      (pss_cons (ps_if (pt_cmpR op_eqI (pv 0) pe_int (nomark _))
      (pss_one (ps_ret (pe_cmpR op_eqI (pv 1) (pe_op op_mod (pe_callTy cr_intI (by rfl) T.int (by decide +kernel) (pa_cons (pv 5) pa_nil)) (pv 2)) (nomark _))))
      pss_nil)
      (pss_cons (ps_if (pt_cmpR op_eqI (pv 0) pe_int (nomark _))
      (pss_one (ps_ret (pe_cmpR op_eqI (pe_op op_mod (pe_callTy cr_intI (by rfl) T.int (by decide +kernel) (pa_cons (pv 4) pa_nil)) pe_int) pe_int (nomark _))))
      pss_nil)
      (pss_cons (ps_if (pt_cmpR op_eqI (pv 0) pe_int (nomark _))
      (pss_one (ps_ret (pe_cmpR op_eqI (pe_op op_mod (pe_callTy cr_intI (by rfl) T.int (by decide +kernel) (pa_cons (pv 4) pa_nil)) pe_int) pe_int (nomark _))))
      pss_nil)
      (pss_cons (ps_if (pt_cmpR op_eqI (pv 0) pe_int (nomark _))
      (pss_one (ps_ret (pe_cmpR op_neI (pe_op op_mod (pe_callTy cr_intI (by rfl) T.int (by decide +kernel) (pa_cons (pv 4) pa_nil)) pe_int) pe_int (nomark _))))
      pss_nil)
      (pss_one (ps_ret (pe_cmpR op_eqI (pv 2) (pe_op op_add (pv 1) pe_int) (nomark _))))))))))), ?_⟩
    walk_at "rd"
    repeat (first | exact q _ _ (Same.refl _) | exact hb | decide | refine ⟨?_, ?_⟩ | refine ite2 (fun _ => ?_) (fun _ => ?_) | split)
end

abbrev sDrs : Stmt := topS 38
/-- min and max of the two names -/
def mm (xs : List Int) (p : Nat × Nat) : Pr := (if xs.getD p.2 0 < xs.getD p.1 0 then xs.getD p.2 0 else xs.getD p.1 0, if xs.getD p.2 0 > xs.getD p.1 0 then xs.getD p.2 0 else xs.getD p.1 0)
/-- pairs that have been met when the outer loop stands at b, the inner at a -/
structure Vis (r b a : Nat) (L : List (Nat × Nat)) : Prop where
  ok : ∀ p ∈ L, p.1 < p.2 ∧ p.2 < r ∧ (p.2 < b ∨ (p.2 = b ∧ p.1 < a))
  nd : L.Nodup
theorem Vis.zero (r : Nat) : Vis r 1 0 [] := ⟨fun p h => (by cases h), List.nodup_nil⟩
theorem Vis.skip {r b a : Nat} {L : List (Nat × Nat)} (h : Vis r b a L) : Vis r b (a + 1) L := by
  refine ⟨fun p hp => ?_, h.nd⟩
  have := h.ok p hp
  omega
theorem Vis.row {r b : Nat} {L : List (Nat × Nat)} (h : Vis r b b L) : Vis r (b + 1) 0 L := by
  refine ⟨fun p hp => ?_, h.nd⟩
  have := h.ok p hp
  omega
theorem Vis.more {r b a : Nat} {L : List (Nat × Nat)} (h : Vis r b a L) (hb : b < r) (ha : a < b) : Vis r b (a + 1) (L ++ [(a, b)]) := by
  refine ⟨fun p hp => ?_, ?_⟩
  · rcases List.mem_append.mp hp with hp | hp
    · have := h.ok p hp
      omega
    · rw [List.mem_singleton.mp hp]
      exact ⟨ha, hb, .inr ⟨rfl, Nat.lt_succ_self a⟩⟩
  · refine List.nodup_append.mpr ⟨h.nd, by simp, fun p hp q hq => ?_⟩
    rw [List.mem_singleton.mp hq]
    rintro rfl
    have := h.ok _ hp
    simp only at this
    omega
theorem rg_nodup (n : Nat) : (rg n).Nodup := by
  unfold rg
  exact List.pairwise_map.mpr (List.Pairwise.imp (fun {x y} h e => h (Int.ofNat.inj e)) List.nodup_range)
theorem rg_mem {n : Nat} {x : Int} (h : x ∈ rg n) : 0 ≤ x ∧ x < n := by
  obtain ⟨i, hi, rfl⟩ := List.mem_map.mp h
  have := List.mem_range.mp hi
  show 0 ≤ (i : Int) ∧ (i : Int) < n
  omega
/-- names: each room once -/
structure Nms (r : Nat) (xs : List Int) : Prop where
  pm : xs.Perm (rg r)
theorem Nms.len {r : Nat} {xs : List Int} (h : Nms r xs) : xs.length = r := by rw [h.pm.length_eq, rg_len]
theorem Nms.nd {r : Nat} {xs : List Int} (h : Nms r xs) : xs.Nodup := h.pm.nodup_iff.mpr (rg_nodup r)
theorem Nms.bd {r : Nat} {xs : List Int} (h : Nms r xs) {i : Nat} (hi : i < r) : 0 ≤ xs.getD i 0 ∧ xs.getD i 0 < r := by
  have hl := h.len
  have e : xs.getD i 0 = xs[i] := by rw [List.getD_eq_getElem?_getD, List.getElem?_eq_getElem (by omega)]; rfl
  rw [e]
  exact rg_mem (h.pm.mem_iff.mp (List.getElem_mem _))
theorem Nms.inj {r : Nat} {xs : List Int} (h : Nms r xs) {i j : Nat} (hi : i < r) (hj : j < r) (e : xs.getD i 0 = xs.getD j 0) : i = j := by
  have hl := h.len
  have e1 : xs.getD i 0 = xs[i] := by rw [List.getD_eq_getElem?_getD, List.getElem?_eq_getElem (by omega)]; rfl
  have e2 : xs.getD j 0 = xs[j] := by rw [List.getD_eq_getElem?_getD, List.getElem?_eq_getElem (by omega)]; rfl
  rw [e1, e2] at e
  refine nd_ix h.nd (List.getElem?_eq_getElem (by omega)) ?_
  rw [e]
  exact List.getElem?_eq_getElem (by omega)
theorem mm_ok {r : Nat} {xs : List Int} (h : Nms r xs) {p : Nat × Nat} (h1 : p.1 < p.2) (h2 : p.2 < r) : 0 ≤ (mm xs p).1 ∧ (mm xs p).1 < (mm xs p).2 ∧ (mm xs p).2 < r := by
  have a := h.bd (i := p.1) (by omega)
  have b := h.bd (i := p.2) h2
  have ne : xs.getD p.1 0 ≠ xs.getD p.2 0 := fun e => by
    have := h.inj (i := p.1) (j := p.2) (by omega) h2 e
    omega
  unfold mm
  simp only
  split <;> split <;> omega
theorem mm_inj {r : Nat} {xs : List Int} (h : Nms r xs) {p q : Nat × Nat} (p1 : p.1 < p.2) (p2 : p.2 < r) (q1 : q.1 < q.2) (q2 : q.2 < r) (e : mm xs p = mm xs q) : p = q := by
  have e1 := congrArg Prod.fst e
  have e2 := congrArg Prod.snd e
  unfold mm at e1 e2
  simp only at e1 e2
  have k : (xs.getD p.1 0 = xs.getD q.1 0 ∧ xs.getD p.2 0 = xs.getD q.2 0) ∨ (xs.getD p.1 0 = xs.getD q.2 0 ∧ xs.getD p.2 0 = xs.getD q.1 0) := by
    split at e1 <;> split at e1 <;> split at e2 <;> split at e2 <;> omega
  rcases k with ⟨k1, k2⟩ | ⟨k1, k2⟩
  · have a := h.inj (by omega) (by omega) k1
    have b := h.inj (by omega) (by omega) k2
    exact Prod.ext a b
  · have a := h.inj (by omega) (by omega) k1
    have b := h.inj (by omega) (by omega) k2
    omega
theorem vis_nd {r b a : Nat} {xs : List Int} {L : List (Nat × Nat)} (h : Nms r xs) (v : Vis r b a L) : (L.map (mm xs)).Nodup := by
  refine List.pairwise_map.mpr (List.Pairwise.imp_of_mem (fun {p q} hp hq hne e => ?_) v.nd)
  have a := v.ok p hp
  have b := v.ok q hq
  exact hne (mm_inj h a.1 a.2.1 b.1 b.2.1 e)
theorem vis_ok {r b a : Nat} {xs : List Int} {L : List (Nat × Nat)} (h : Nms r xs) (v : Vis r b a L) : ∀ d ∈ L.map (mm xs), 0 ≤ d.1 ∧ d.1 < d.2 ∧ d.2 < r := fun d hd => by
  obtain ⟨p, hp, rfl⟩ := List.mem_map.mp hd
  have a := v.ok p hp
  exact mm_ok h a.1 a.2.1
theorem tri {b : Nat} (h : b ≤ 11) : (b : Int) * ((b : Int) - 1) / 2 ≤ 55 ∧ 0 ≤ (b : Int) * ((b : Int) - 1) / 2 := by
  have : b = 0 ∨ b = 1 ∨ b = 2 ∨ b = 3 ∨ b = 4 ∨ b = 5 ∨ b = 6 ∨ b = 7 ∨ b = 8 ∨ b = 9 ∨ b = 10 ∨ b = 11 := by omega
  rcases this with rfl | rfl | rfl | rfl | rfl | rfl | rfl | rfl | rfl | rfl | rfl | rfl <;> decide
section
variable {P : Program} {w : World} {K : PySem.W.Frag} {mg : Str → Option Value} {base : Heap}
theorem scDrs : FnScope ["numbers", "rooms", "kind", "names", "doors", "b", "first", "a"] ["numbers", "rooms"] (defScope sDrs) := ⟨rfl, rfl, rfl, by decide +kernel, rfl, by decide +kernel, by decide +kernel⟩
def spDrs (K : PySem.W.Frag) : Sp := fun vs H Q _ => ∃ (a : Addr) (ns : List Int) (r : Nat), vs = [.ref a, .int r] ∧ SqL K H a (ns.map V.int) ∧ 79 ≤ ns.length ∧ 1 ≤ r ∧ r ≤ 12 ∧
  ∀ D vs p H', Drs r D → Same H H' → H p = none → H' p = some (.lst vs) → PL H' vs D → Q (.ref p) H'
theorem ok_drs {f fN fJ : Addr} {fd fdN fdJ : FuncData} (F : Fun K "_law_doors" "_law_doors" sDrs f fd) (T : Bi mg) (d__law_names : Df P w K mg base "_law_names" ["numbers", "at", "rooms"] 1 (spNam K) fN fdN)
    (d__law_joined : Df P w K mg base "_law_joined" ["kind", "a", "b", "rooms", "number", "parent"] 1 spJnd fJ fdJ) : FnOk P w K mg base CX0 2 f fd ["numbers", "rooms"] (spDrs K) := by
  refine F.ok scDrs (fun vs H Q E h => ?_) (fun cdv A outer s H vs Q E hr h => ?_)
  · obtain ⟨a, ns, r, rfl, _⟩ := h
    rfl
  · obtain ⟨a, ns, r, rfl, hS, hn, hr1, hr12, q⟩ := h
    refine ⟨_, (pss_cons (ps_set (i := 2) scDrs.nd rfl (Or.inl rfl) (pe_op op_mod (pe_callTy cr_intI (by rfl) T.int (by decide +kernel) (pa_cons (pe_ix ix_list (pv 0) pe_int (fun _ _ => rfl)) pa_nil)) pe_int))
      (pss_cons (ps_set (i := 3) scDrs.nd rfl (Or.inl rfl) (pe_call d__law_names.ok (hr.mono (by decide)) (by rfl) d__law_names.at_ d__law_names.kp d__law_names.b .nil pass0 (pa_cons (pv 0) (pa_cons pe_int (pa_cons (pv 1) pa_nil)))))
      (pss_cons (ps_set (i := 4) scDrs.nd rfl (Or.inl rfl) (pe_lst pa_nil))
      (pss_cons (ps_for PassesOwn.never rfl (pi_range2 (by rfl) T.range (pa_cons pe_int (pa_cons (pv 1) pa_nil))) (pg_name (i := 5) scDrs.nd rfl (Or.inl rfl))
      (pss_cons (ps_set (i := 6) scDrs.nd rfl (Or.inl rfl) (pe_op op_add (pe_op op_add pe_int (pv 1)) (pe_op op_fdiv (pe_op op_mul (pv 5) (pe_op op_sub (pv 5) pe_int)) pe_int)))
        (pss_one (ps_for PassesOwn.never rfl (pi_range1 (by rfl) T.range (pa_cons (pv 5) pa_nil)) (pg_name (i := 7) scDrs.nd rfl (Or.inl rfl))
        (pss_one (ps_if (pt_val (pe_call d__law_joined.ok (hr.mono (by decide)) (by rfl) d__law_joined.at_ d__law_joined.kp d__law_joined.b .nil pass0 (pa_cons (pv 2) (pa_cons (pv 7) (pa_cons (pv 5) (pa_cons (pv 1) (pa_cons (pe_ix ix_list (pv 0) (pe_op op_add (pv 6) (pv 7)) (fun _ _ => rfl)) (pa_cons (pe_ix ix_list (pv 0) (pv 6) (fun _ _ => rfl)) pa_nil))))))))
          (pss_one (ps_expr (pe_bm PySem.F.plainAttrs_list PySem.F.slot_list_append PySem.F.type_list_append mt_append (pv 4) (pa_cons (pe_tup (pa_cons (pe_callB (call_min2 rfl) (by rfl) T.min (by decide +kernel) (pa_cons (pe_ix ix_list (pv 3) (pv 7) (fun _ _ => rfl)) (pa_cons (pe_ix ix_list (pv 3) (pv 5) (fun _ _ => rfl)) pa_nil))) (pa_cons (pe_callB (call_max2 rfl) (by rfl) T.max (by decide +kernel) (pa_cons (pe_ix ix_list (pv 3) (pv 7) (fun _ _ => rfl)) (pa_cons (pe_ix ix_list (pv 3) (pv 5) (fun _ _ => rfl)) pa_nil))) pa_nil))) pa_nil))))
          pss_nil))))))
      (pss_one (ps_ret (pe_callB cr_sortedPO (by rfl) T.sorted (by decide +kernel) (pa_cons (pv 4) pa_nil)))))))), ?_⟩
    have at_n : ∀ (k : Nat) (hk : k < ns.length), (ns.map V.int)[k]? = some (.int ns[k]) := fun k hk => by
      rw [List.getElem?_map, List.getElem?_eq_getElem hk]
      rfl
    walk_at "rd"
    refine ⟨_, hS, .int ns[0], at_of (j := 0) rfl (at_n 0 (by omega)), _, rfl, by decide, a, ns, 1, r, rfl, hS, by omega, by omega, fun xs pn H1 pm s1 nn hN => ?_⟩
    have N : Nms r xs := ⟨pm⟩
    have hl := N.len
    walk_at "rd"
    refine ⟨Nat.zero_le _, fun p np => ?_⟩
    obtain ⟨Pv, hPv⟩ : ∃ Pv : Nat → L2.St → Hp → Prop, Pv = (fun i σ H' => ∃ (L : List (Nat × Nat)) (vs : List V) (v5 v6 v7 : Option V), σ = [some (.ref a), some (.int r), some (.int (ns[0] % 8)), some (.ref pn), some (.ref p), v5, v6, v7] ∧ Vis r (i + 1) 0 L ∧ Same H1 H' ∧ H' p = some (.lst vs) ∧ PL H' vs (L.map (mm xs))) := ⟨_, rfl⟩
    refine ⟨_, rfl, 1, (r : Int), rfl, ⟨by omega, by omega, by omega, by omega⟩, for_range (lo := 1) (n := ((r : Int) - 1).toNat) Pv (by rw [hPv]; exact ⟨[], [], none, none, none, rfl, Vis.zero r, same_upd np, upd_same, PL.nil0 _⟩) ?_ ?_⟩
    · rintro i σ H' hi pv
      have nxt : ∀ L vs v5 v6 v7 H', Vis r (i + 1 + 1) 0 L → Same H1 H' → H' p = some (.lst vs) → PL H' vs (L.map (mm xs)) → Pv (i + 1) [some (.ref a), some (.int r), some (.int (ns[0] % 8)), some (.ref pn), some (.ref p), v5, v6, v7] H' := fun L vs v5 v6 v7 H' h1 h2 h3 h4 => by
        rw [hPv]
        exact ⟨L, vs, v5, v6, v7, rfl, h1, h2, h3, h4⟩
      rw [hPv] at pv
      obtain ⟨L, vs, v5, v6, v7, rfl, vis, s2, hp, pl⟩ := pv
      have hb : i + 1 ≤ 11 := by omega
      have tr := tri hb
      have eb : (1 : Int) + (i : Int) = ((i + 1 : Nat) : Int) := by omega
      obtain ⟨fi, hfi⟩ : ∃ fi : Nat, (1 : Int) + (r : Int) + (1 + (i : Int)) * (1 + (i : Int) - 1) / 2 = fi ∧ fi ≤ 68 := by
        rw [eb]
        exact ⟨(1 + (r : Int) + ((i + 1 : Nat) : Int) * (((i + 1 : Nat) : Int) - 1) / 2).toNat, by omega, by omega⟩
      walk_at "rd"
      refine ⟨.inl (by omega), ⟨by decide, by decide⟩, ?_⟩
      rw [hfi.1]
      obtain ⟨Pw, hPw⟩ : ∃ Pw : Nat → L2.St → Hp → Prop, Pw = (fun j σ H' => ∃ (L : List (Nat × Nat)) (vs : List V) (v7 : Option V), σ = [some (.ref a), some (.int r), some (.int (ns[0] % 8)), some (.ref pn), some (.ref p), some (.int (1 + (i : Int))), some (.int fi), v7] ∧ Vis r (i + 1) j L ∧ Same H1 H' ∧ H' p = some (.lst vs) ∧ PL H' vs (L.map (mm xs))) := ⟨_, rfl⟩
      refine ⟨_, rfl, 1 + (i : Int), rfl, by omega, by omega, for_range (lo := 0) (n := (1 + (i : Int)).toNat) Pw (by rw [hPw]; exact ⟨L, vs, v7, rfl, vis, s2, hp, pl⟩) ?_ ?_⟩
      · clear hp pl s2 vis vs L v7
        rintro j σ H' hj pv
        have nxw : ∀ L vs v7 H', Vis r (i + 1) (j + 1) L → Same H1 H' → H' p = some (.lst vs) → PL H' vs (L.map (mm xs)) → Pw (j + 1) [some (.ref a), some (.int r), some (.int (ns[0] % 8)), some (.ref pn), some (.ref p), some (.int (1 + (i : Int))), some (.int fi), v7] H' := fun L vs v7 H' h1 h2 h3 h4 => by
          rw [hPw]
          exact ⟨L, vs, v7, rfl, h1, h2, h3, h4⟩
        rw [hPw] at pv
        obtain ⟨L, vs, v7, rfl, vis, s2, hp, pl⟩ := pv
        have hjb : j < i + 1 := by omega
        have hS' : SqL K H' a (ns.map V.int) := s2.seq (s1.seq hS)
        have hN' : SqL K H' pn (xs.map V.int) := s2.seq (SqL.of hN)
        have gj : (xs.map V.int)[j]? = some (.int (xs.getD j 0)) := by rw [List.getElem?_map, List.getElem?_eq_getElem (by omega), List.getD_eq_getElem?_getD, List.getElem?_eq_getElem (by omega)]; rfl
        have gi : (xs.map V.int)[i + 1]? = some (.int (xs.getD (i + 1) 0)) := by rw [List.getElem?_map, List.getElem?_eq_getElem (by omega), List.getD_eq_getElem?_getD, List.getElem?_eq_getElem (by omega)]; rfl
        have small : vs.length ≤ 66 := by
          rw [pl.len]
          exact drs_len' hr12 (vis_nd N vis) (vis_ok N vis)
        walk_at "rd"
        refine ⟨_, hS', .int ns[fi + j], at_of (j := fi + j) (by omega) (at_n _ (by omega)), _, hS', .int ns[fi], at_of (j := fi) rfl (at_n _ (by omega)), ?_⟩
        refine ⟨_, _, _, _, _, _, rfl, by omega, ⟨Int.emod_nonneg _ (by decide), Int.emod_lt_of_pos _ (by decide)⟩, fun c H' s3 => ?_⟩
        have hS' := s3.seq hS'
        have hN' := s3.seq hN'
        have hp := s3 _ _ hp
        have pl := pl.kt (KT.same s3)
        have s2 := s2.trans s3
        refine ⟨_, rfl, ite2 (fun _ => ?_) (fun _ => nxw L vs _ _ vis.skip s2 hp pl)⟩
        refine ⟨.inl ⟨rfl, _, SqL.of hp⟩, _, hN', .int (xs.getD j 0), at_of (j := j) (by omega) gj, _, hN', .int (xs.getD (i + 1) 0), at_of (j := i + 1) (by omega) gi, ?_⟩
        refine ⟨_, rfl, _, rfl, _, hN', .int (xs.getD j 0), at_of (j := j) (by omega) gj, _, hN', .int (xs.getD (i + 1) 0), at_of (j := i + 1) (by omega) gi, _, rfl, _, rfl, ?_⟩
        refine ⟨by decide, fun t nt => ⟨vs, ?_, len_big (by omega), ?_⟩⟩
        · rw [upd_ne (ne_of_none hp nt)]
          exact hp
        · have np' : p ≠ t := ne_of_none hp nt
          refine nxw (L ++ [(j, i + 1)]) (vs ++ [.ref t]) _ _ (vis.more (by omega) hjb) (same_ch (s2.trans (same_upd nt)) np) upd_same ?_
          rw [List.map_append]
          refine PL.snoc ((pl.kt (KT.new nt)).kt (KT.lst (by rw [upd_ne np']; exact hp))) ⟨t, rfl, ?_⟩
          rw [upd_ne np'.symm, upd_same]
          rfl
      · clear hp pl s2 vis vs L v7
        rintro σ H' pv
        rw [hPw] at pv
        obtain ⟨L, vs, v7, rfl, vis, s2, hp, pl⟩ := pv
        have e : (1 + (i : Int)).toNat = i + 1 := by omega
        rw [e] at vis
        exact nxt L vs _ _ _ _ vis.row s2 hp pl
    · rintro σ H' pv
      rw [hPv] at pv
      obtain ⟨L, vs, v5, v6, v7, rfl, vis, s2, hp, pl⟩ := pv
      walk_at "rd"
      obtain ⟨k1, k2⟩ := pl.toK
      refine ⟨p, vs, kH H', rfl, SqL.of hp, k2, fun ys t so st nt => ?_⟩
      have pmy := st.perm
      have hy : ∀ v ∈ ys, IsP H' v (kH H' v) := fun v hv => k2 v (pmy.mem_iff.mp hv)
      have nd : (ys.map (kH H')).Nodup := by
        refine (pmy.map _).nodup_iff.mpr ?_
        rw [← k1]
        exact vis_nd N vis
      refine q (ys.map (kH H')) ys t _ ⟨srtd_asc nd so, fun d hd => ?_⟩ ?_ ?_ upd_same ((PL.ofK hy).kt (KT.new nt))
      · refine vis_ok N vis d ?_
        rw [k1]
        exact (pmy.map _).mem_iff.mp hd
      · exact ((s1.trans s2).trans (same_upd nt))
      · exact (s1.trans s2).free nt
end

abbrev sSame : Stmt := topS 48
/-- isinstance of built-in kinds -/
def isTy (m n : String) : Bool := m == n || (m == "bool" && n == "int")
theorem kit5 {K : PySem.W.Frag} {m n : String} (hm : m = "bool" ∨ m = "int" ∨ m = "str" ∨ m = "list" ∨ m = "tuple") (hn : n = "bool" ∨ n = "int" ∨ n = "str" ∨ n = "list" ∨ n = "tuple") : PySem.W.kitOne K (.type m) (.type n) = some (isTy m n) := by
  rcases hm with rfl | rfl | rfl | rfl | rfl <;> rcases hn with rfl | rfl | rfl | rfl | rfl <;> exact kit_ty (by decide +kernel)
def rIs5 (K : PySem.W.Frag) : List V → Hp → VK → Prop := fun xs H Q => ∃ (x : V) (n m : String), xs = [x, .ty n] ∧ TyX K H x (.type m) ∧ (m = "bool" ∨ m = "int" ∨ m = "str" ∨ m = "list" ∨ m = "tuple") ∧ (n = "bool" ∨ n = "int" ∨ n = "str" ∨ n = "list" ∨ n = "tuple") ∧ Q (.bl (isTy m n)) H
theorem cr_is5 {X : Cx} : CallR X (.builtin "isinstance") (rIs5 X.K) := fun pins s σ H xs us Q I r h => by
  obtain ⟨x, n, m, rfl, ty, hm, hn, q⟩ := h
  exact call_isi pins s σ H _ us Q I r ⟨x, .ty n, _, _, _, rfl, .ty n, ty, kit5 hm hn, q⟩
theorem is5_of {K : PySem.W.Frag} {H : Hp} {x : V} {n m : String} {Q : VK} (ty : TyX K H x (.type m)) (hm : m = "bool" ∨ m = "int" ∨ m = "str" ∨ m = "list" ∨ m = "tuple") (hn : n = "bool" ∨ n = "int" ∨ n = "str" ∨ n = "list" ∨ n = "tuple") (q : Q (.bl (isTy m n)) H) : rIs5 K [x, .ty n] H Q :=
  ⟨x, n, m, rfl, ty, hm, hn, q⟩
theorem eqS_of {H : Hp} {x : V} {Q : VK} (h : scal x x = true) (q : Q (.bl true) H) : rEq x x H Q := ⟨h, by rw [decide_eq_true rfl]; exact q⟩
local macro_rules | `(tactic| walk_at "i5") => `(tactic| ((first | refine is5_of (.base (.int _)) (by decide) (by decide) ?_ | refine is5_of (.base (.str _)) (by decide) (by decide) ?_ | refine is5_of (.base (.bl _)) (by decide) (by decide) ?_ | refine is5_of (.base (.lst (by assumption))) (by decide) (by decide) ?_ | refine is5_of (.base (.tup (by assumption))) (by decide) (by decide) ?_)))
local macro_rules | `(tactic| walk_at "i6") => `(tactic| (simp only [rIsT, isTy, String.reduceBEq, Bool.or_false, Bool.or_true, Bool.and_false, Bool.and_true, Bool.true_or, Bool.false_or, Bool.true_and, Bool.false_and, reduceCtorEq, decide_false, decide_true, V.bl.injEq, exists_eq_left', if_true, if_false, Bool.false_eq_true, ↓reduceIte, Bool.not_true, Bool.not_false, ite_self]))
def flat4 : V → Bool
  | .non => true
  | .bl _ => true
  | .int _ => true
  | .str _ => true
  | _ => false
/-- the same data, of at most this depth, the lists and tuples tracked -/
def Sm (H : Hp) : Nat → V → V → Prop
  | 0, x, y => x = y ∧ flat4 x = true
  | n + 1, x, y => (x = y ∧ flat4 x = true) ∨ ∃ a b xs ys, x = .ref a ∧ y = .ref b ∧ ((H a = some (.lst xs) ∧ H b = some (.lst ys)) ∨ (H a = some (.tup xs) ∧ H b = some (.tup ys))) ∧ Paired (Sm H n) xs ys ∧ xs.length ≤ 100000
theorem Sm.flat {H : Hp} {n : Nat} {x : V} (h : flat4 x = true) : Sm H n x x := by
  cases n with
  | zero => exact ⟨rfl, h⟩
  | succ n => exact .inl ⟨rfl, h⟩
theorem paired_get {α β : Type} {F : α → β → Prop} : ∀ {xs : List α} {ys : List β} {i : Nat}, Paired F xs ys → i < xs.length → ∃ x y, xs[i]? = some x ∧ ys[i]? = some y ∧ F x y
  | _, _, _, .nil, h => by cases h
  | _, _, 0, .cons r _, _ => ⟨_, _, rfl, rfl, r⟩
  | _, _, i + 1, .cons _ t, h => paired_get (i := i) t (Nat.lt_of_succ_lt_succ h)
section
variable {P : Program} {w : World} {K : PySem.W.Frag} {mg : Str → Option Value} {base : Heap}
theorem scSame : FnScope ["got", "due", "k"] ["got", "due"] (defScope sSame) := ⟨rfl, rfl, rfl, by decide +kernel, rfl, by decide +kernel, by decide +kernel⟩
def spSame (n : Nat) : Sp := fun vs H Q _ => ∃ x y, vs = [x, y] ∧ Sm H n x y ∧ Q (.bl true) H
theorem ok_same {f : Addr} {fd : FuncData} (F : Fun K "_law_same" "_law_same" sSame f fd) (T : Bi mg) (bd : Binds K fd ["got", "due"] []) (hmg : mg "_law_same" = some (.ref f)) : ∀ n, FnOk P w K mg base CX0 (n + 1) f fd ["got", "due"] (spSame n) := by
  intro n
  induction n with
  | zero =>
    refine F.ok scSame (fun vs H Q E h => ?_) (fun cdv A outer s H vs Q E hr h => ?_)
    · obtain ⟨x, y, rfl, _⟩ := h
      rfl
    · obtain ⟨x, y, rfl, ⟨rfl, hf⟩, q⟩ := h
      refine ⟨_, (pss_cons (ps_if (pt_cmpR op_isN (pv 1) pe_non (nomark _))
      (pss_one (ps_ret (pe_cmpR op_isN (pv 0) pe_non (nomark _))))
      pss_nil)
      (pss_cons (ps_if (pt_cmpR op_isT (pv 1) pe_bl (nomark _))
      (pss_one (ps_ret (pe_cmpR op_isT (pv 0) pe_bl (nomark _))))
      pss_nil)
      (pss_cons (ps_if (pt_cmpR op_isT (pv 1) pe_bl (nomark _))
      (pss_one (ps_ret (pe_cmpR op_isT (pv 0) pe_bl (nomark _))))
      pss_nil)
      (pss_cons (ps_if (pt_val (pe_callB cr_is5 (by rfl) T.isinstance (by decide +kernel) (pa_cons (pv 1) (pa_cons (pe_bltn (v := .ty "int") (by rfl) T.int (by decide +kernel) rfl) pa_nil))))
      (pss_one (ps_ret (pe_and (pe_callB cr_is5 (by rfl) T.isinstance (by decide +kernel) (pa_cons (pv 0) (pa_cons (pe_bltn (v := .ty "int") (by rfl) T.int (by decide +kernel) rfl) pa_nil))) (pe_and (pe_not (pe_callB cr_is5 (by rfl) T.isinstance (by decide +kernel) (pa_cons (pv 0) (pa_cons (pe_bltn (v := .ty "bool") (by rfl) T.bool (by decide +kernel) rfl) pa_nil)))) (pe_one (pe_cmpR op_eq (pv 0) (pv 1) (nomark _)))))))
      pss_nil)
      (pss_cons (ps_if (pt_val (pe_callB cr_is5 (by rfl) T.isinstance (by decide +kernel) (pa_cons (pv 1) (pa_cons (pe_bltn (v := .ty "str") (by rfl) T.str (by decide +kernel) rfl) pa_nil))))
      (pss_one (ps_ret (pe_and (pe_callB cr_is5 (by rfl) T.isinstance (by decide +kernel) (pa_cons (pv 0) (pa_cons (pe_bltn (v := .ty "str") (by rfl) T.str (by decide +kernel) rfl) pa_nil))) (pe_one (pe_cmpR op_eq (pv 0) (pv 1) (nomark _))))))
      pss_nil)
      (pss_cons (ps_if (PW.pt (pw_and (pt_val (pe_callB cr_is5 (by rfl) T.isinstance (by decide +kernel) (pa_cons (pv 1) (pa_cons (pe_bltn (v := .ty "list") (by rfl) T.list (by decide +kernel) rfl) pa_nil)))) (pw_and1 (pt_not (pt_val (pe_callB cr_is5 (by rfl) T.isinstance (by decide +kernel) (pa_cons (pv 0) (pa_cons (pe_bltn (v := .ty "list") (by rfl) T.list (by decide +kernel) rfl) pa_nil))))))))
      (pss_one (ps_ret pe_bl))
      pss_nil)
      (pss_cons (ps_if (PW.pt (pw_and (pt_val (pe_callB cr_is5 (by rfl) T.isinstance (by decide +kernel) (pa_cons (pv 1) (pa_cons (pe_bltn (v := .ty "tuple") (by rfl) T.tuple (by decide +kernel) rfl) pa_nil)))) (pw_and1 (pt_not (pt_val (pe_callB cr_is5 (by rfl) T.isinstance (by decide +kernel) (pa_cons (pv 0) (pa_cons (pe_bltn (v := .ty "tuple") (by rfl) T.tuple (by decide +kernel) rfl) pa_nil))))))))
      (pss_one (ps_ret pe_bl))
      pss_nil)
      (pss_cons (ps_if (pt_cmpR op_neI (pe_callB call_len_seq (by rfl) T.len (by decide +kernel) (pa_cons (pv 0) pa_nil)) (pe_callB call_len_seq (by rfl) T.len (by decide +kernel) (pa_cons (pv 1) pa_nil)) (nomark _))
      (pss_one (ps_ret pe_bl))
      pss_nil)
      (pss_cons (ps_never)
      (pss_one (ps_ret pe_bl))))))))))), ?_⟩
      walk_at "rd"
      cases x with
      | non => walk_at "i6"; exact q
      | bl b =>
        cases b with
        | true => walk_at "i6"; exact q
        | false => walk_at "i6"; exact q
      | int i =>
        walk_at "i6"
        repeat (walk_at "i5"; walk_at "i6")
        exact eqS_of rfl q
      | str z =>
        walk_at "i6"
        repeat (walk_at "i5"; walk_at "i6")
        exact eqS_of rfl q
      | _ => cases hf
  | succ n ih =>
    refine F.ok scSame (fun vs H Q E h => ?_) (fun cdv A outer s H vs Q E hr h => ?_)
    · obtain ⟨x, y, rfl, _⟩ := h
      rfl
    · obtain ⟨x, y, rfl, hs, q⟩ := h
      refine ⟨_, (pss_cons (ps_if (pt_cmpR op_isN (pv 1) pe_non (nomark _))
      (pss_one (ps_ret (pe_cmpR op_isN (pv 0) pe_non (nomark _))))
      pss_nil)
      (pss_cons (ps_if (pt_cmpR op_isT (pv 1) pe_bl (nomark _))
      (pss_one (ps_ret (pe_cmpR op_isT (pv 0) pe_bl (nomark _))))
      pss_nil)
      (pss_cons (ps_if (pt_cmpR op_isT (pv 1) pe_bl (nomark _))
      (pss_one (ps_ret (pe_cmpR op_isT (pv 0) pe_bl (nomark _))))
      pss_nil)
      (pss_cons (ps_if (pt_val (pe_callB cr_is5 (by rfl) T.isinstance (by decide +kernel) (pa_cons (pv 1) (pa_cons (pe_bltn (v := .ty "int") (by rfl) T.int (by decide +kernel) rfl) pa_nil))))
      (pss_one (ps_ret (pe_and (pe_callB cr_is5 (by rfl) T.isinstance (by decide +kernel) (pa_cons (pv 0) (pa_cons (pe_bltn (v := .ty "int") (by rfl) T.int (by decide +kernel) rfl) pa_nil))) (pe_and (pe_not (pe_callB cr_is5 (by rfl) T.isinstance (by decide +kernel) (pa_cons (pv 0) (pa_cons (pe_bltn (v := .ty "bool") (by rfl) T.bool (by decide +kernel) rfl) pa_nil)))) (pe_one (pe_cmpR op_eq (pv 0) (pv 1) (nomark _)))))))
      pss_nil)
      (pss_cons (ps_if (pt_val (pe_callB cr_is5 (by rfl) T.isinstance (by decide +kernel) (pa_cons (pv 1) (pa_cons (pe_bltn (v := .ty "str") (by rfl) T.str (by decide +kernel) rfl) pa_nil))))
      (pss_one (ps_ret (pe_and (pe_callB cr_is5 (by rfl) T.isinstance (by decide +kernel) (pa_cons (pv 0) (pa_cons (pe_bltn (v := .ty "str") (by rfl) T.str (by decide +kernel) rfl) pa_nil))) (pe_one (pe_cmpR op_eq (pv 0) (pv 1) (nomark _))))))
      pss_nil)
      (pss_cons (ps_if (PW.pt (pw_and (pt_val (pe_callB cr_is5 (by rfl) T.isinstance (by decide +kernel) (pa_cons (pv 1) (pa_cons (pe_bltn (v := .ty "list") (by rfl) T.list (by decide +kernel) rfl) pa_nil)))) (pw_and1 (pt_not (pt_val (pe_callB cr_is5 (by rfl) T.isinstance (by decide +kernel) (pa_cons (pv 0) (pa_cons (pe_bltn (v := .ty "list") (by rfl) T.list (by decide +kernel) rfl) pa_nil))))))))
      (pss_one (ps_ret pe_bl))
      pss_nil)
      (pss_cons (ps_if (PW.pt (pw_and (pt_val (pe_callB cr_is5 (by rfl) T.isinstance (by decide +kernel) (pa_cons (pv 1) (pa_cons (pe_bltn (v := .ty "tuple") (by rfl) T.tuple (by decide +kernel) rfl) pa_nil)))) (pw_and1 (pt_not (pt_val (pe_callB cr_is5 (by rfl) T.isinstance (by decide +kernel) (pa_cons (pv 0) (pa_cons (pe_bltn (v := .ty "tuple") (by rfl) T.tuple (by decide +kernel) rfl) pa_nil))))))))
      (pss_one (ps_ret pe_bl))
      pss_nil)
      (pss_cons (ps_if (pt_cmpR op_neI (pe_callB call_len_seq (by rfl) T.len (by decide +kernel) (pa_cons (pv 0) pa_nil)) (pe_callB call_len_seq (by rfl) T.len (by decide +kernel) (pa_cons (pv 1) pa_nil)) (nomark _))
      (pss_one (ps_ret pe_bl))
      pss_nil)
      (pss_cons (ps_for PassesOwn.never rfl (pi_range1 (by rfl) T.range (pa_cons (pe_callB call_len_seq (by rfl) T.len (by decide +kernel) (pa_cons (pv 1) pa_nil)) pa_nil)) (pg_name (i := 2) scSame.nd rfl (Or.inl rfl))
      (pss_one (ps_if (pt_not (pt_val (pe_call ih hr (by rfl) hmg F.kp bd .nil pass0 (pa_cons (pe_ix ix_seq (pv 0) (pv 2) (fun _ _ => rfl)) (pa_cons (pe_ix ix_seq (pv 1) (pv 2) (fun _ _ => rfl)) pa_nil)))))
        (pss_one (ps_ret pe_bl))
        pss_nil)))
      (pss_one (ps_ret pe_bl))))))))))), ?_⟩
      walk_at "rd"
      rcases hs with ⟨rfl, hf⟩ | ⟨a, b, xs, ys, rfl, rfl, hk, pr, hl⟩
      · skip
        cases x with
        | non => walk_at "i6"; exact q
        | bl b =>
          cases b with
          | true => walk_at "i6"; exact q
          | false => walk_at "i6"; exact q
        | int i =>
          walk_at "i6"
          repeat (walk_at "i5"; walk_at "i6")
          exact eqS_of rfl q
        | str z =>
          walk_at "i6"
          repeat (walk_at "i5"; walk_at "i6")
          exact eqS_of rfl q
        | _ => cases hf
      · have el : xs.length = ys.length := pr.length
        have hx : SqL K H a xs ∨ SqT K H a xs := by
          rcases hk with ⟨ha, _⟩ | ⟨ha, _⟩
          · exact .inl (SqL.of ha)
          · exact .inr (SqT.of ha)
        have hy : SqL K H b ys ∨ SqT K H b ys := by
          rcases hk with ⟨_, ha⟩ | ⟨_, ha⟩
          · exact .inl (SqL.of ha)
          · exact .inr (SqT.of ha)
        have ix : ∀ {zs : List V} {k : Nat} {p : Addr} {v : V} {Q : VK}, (SqL K H p zs ∨ SqT K H p zs) → zs[k]? = some v → Q v H → rIx K (.ref p) (.int k) H Q := fun hz hv hq => by
          rcases hz with hz | hz
          · exact .inl ⟨_, _, _, _, rfl, rfl, hz, atI_nat hv, hq⟩
          · exact .inr (.inl ⟨_, _, _, _, rfl, rfl, hz, atI_nat hv, hq⟩)
        rcases hk with ⟨ha, hb⟩ | ⟨ha, hb⟩
        all_goals
          walk_at "i6"
          repeat (walk_at "i5"; walk_at "i6")
          refine ⟨_, rfl, _, hx, _, rfl, _, hy, ?_⟩
          rw [el, decide_eq_true rfl]
          refine iteF ?_
          obtain ⟨Pv, hPv⟩ : ∃ Pv : Nat → L2.St → Hp → Prop, Pv = (fun i σ H' => ∃ v : Option V, σ = [some (.ref a), some (.ref b), v] ∧ H' = H) := ⟨_, rfl⟩
          refine ⟨_, rfl, b, rfl, ys, hy, ys.length, rfl, by omega, by omega, for_range (lo := 0) (n := ((ys.length : Nat) : Int).toNat) Pv (by rw [hPv]; exact ⟨none, rfl, rfl⟩) ?_ ?_⟩
          · rintro i σ H' hi pv
            have nxt : ∀ v, Pv (i + 1) [some (.ref a), some (.ref b), v] H := fun v => by
              rw [hPv]
              exact ⟨v, rfl, rfl⟩
            rw [hPv] at pv
            obtain ⟨v, rfl, rfl⟩ := pv
            obtain ⟨x1, y1, g1, g2, sm⟩ := paired_get (i := i) pr (by omega)
            walk_at "rd"
            rw [Int.zero_add]
            refine ix hx g1 (ix hy g2 ⟨_, _, rfl, sm, ?_⟩)
            exact ⟨true, rfl, iteF (nxt _)⟩
          · rintro σ H' pv
            rw [hPv] at pv
            obtain ⟨v, rfl, rfl⟩ := pv
            walk_at "rd"
            exact q
end

/-! ### a set of tuples of ints, whatever their number (the table's masks: 7, 31, 127) -/
structure PsR (P : Program) (w : World) (h : Heap) (a : Addr) (L : List (Addr × List Int)) (es : Array (Int × Value)) (ep : Nat) (t : SetTable) : Prop where
  obj : ∃ o, h.get? a = some o ∧ o.ExactSet ∧ o.data = .set es ep t
  rw_ : es.toList = rowsOf P w L
  tb : TabOk t (L.map fun p => thash P w p.2)
  nod : (L.map (·.2)).Nodup
  tps : ∀ p ∈ L, IsT P w h p.2 p.1
  pln : t.plain = true
  ld : w.params.followText "set-order" = true ∨ t.led = true
  rm : L.length * 5 < t.mask * 3
section
variable {P : Program} {w : World} {A : Around} {E : Value → Shared → Prop} {s : Shared}
variable {a : Addr} {L : List (Addr × List Int)} {es : Array (Int × Value)} {ep : Nat} {t : SetTable}
theorem PsR.sz (R : PsR P w s.heap a L es ep t) : es.size = L.length := by
  have e := congrArg List.length R.rw_
  rw [Array.length_toList] at e
  rw [e]
  exact List.length_map _
theorem PsR.psz (R : PsR P w s.heap a L es ep t) : t.place.size = L.length := by
  have e := R.tb.sz
  rw [List.length_map] at e
  exact e
theorem PsR.fts (R : PsR P w s.heap a L es ep t) : t.fits es.size = true := by
  have e1 := R.psz
  have e2 := R.sz
  have e3 := R.rm
  have e4 : t.fill = t.place.size := by
    show t.place.size + t.dummies.size = t.place.size
    rw [R.tb.dm]
    rfl
  show (t.place.size == es.size && decide (t.fill ≤ t.mask)) = true
  rw [e4, e1, e2, beq_self_eq_true, Bool.true_and, decide_eq_true_eq]
  omega
theorem PsR.ent (R : PsR P w s.heap a L es ep t) {i : Nat} {p : Addr × List Int} (g : L[i]? = some p) : es[i]? = some (thash P w p.2, Value.ref p.1) := by
  have e : (rowsOf P w L)[i]? = some (thash P w p.2, Value.ref p.1) := by
    show (L.map _)[i]? = _
    rw [List.getElem?_map, g]
    rfl
  rw [← R.rw_, Array.getElem?_toList] at e
  exact e
theorem PsR.odd (R : PsR P w s.heap a L es ep t) : ¬ t.gaveWay = true := fun z => by
  have m := mask_odd R.tb.mok
  have z2 : (t.mask % 2 == 0) = true := z
  rw [m] at z2
  cases z2
/-- the c-th state of the search for the tuple k -/
abbrev stAt (P : Program) (w : World) (t : SetTable) (k : List Int) (c : Nat) : SetTable.Probe := nth t.mask (t.probeStart (thash P w k)) c
abbrev slAt (P : Program) (w : World) (t : SetTable) (k : List Int) (c : Nat) : Nat := (stAt P w t k c).j
theorem stAt_dm (k : List Int) (c : Nat) : (stAt P w t k c).dummy = none := by
  have all : ∀ (n : Nat) (p : SetTable.Probe), p.dummy = none → (nth t.mask p n).dummy = none := by
    intro n
    induction n with
    | zero => exact fun _ e => e
    | succ n ih =>
      intro p e
      show (nth t.mask (adv t.mask p) n).dummy = none
      exact ih _ (by rw [← adv_eq, advance_dummy]; exact e)
  exact all c _ rfl
theorem stAt_add (k : List Int) (c q : Nat) : nth t.mask (stAt P w t k c) q = stAt P w t k (c + q) := (nth_add t.mask c _ q).symm
theorem psearch (R : PsR P w s.heap a L es ep t) {x : Addr} {k : List Int} (hx : IsT P w s.heap k x) (hu : A.units < cLine) (ad : Bool) {N : Nat} (hN : N < 10 * SetTable.turns t.mask)
    (free : slAt P w t k N ∉ t.place.toList) (full : ∀ c, c < N → slAt P w t k c ∈ t.place.toList) {Q : SetFound → Shared → Prop}
    (yes : ∀ i, k ∈ L.map (·.2) → Q (.there (if ad then none else some i)) s) (no : k ∉ L.map (·.2) → Q (.free (slAt P w t k N) false) s) :
    ∀ (f c : Nat) (st : Option SetTable.Probe), st.getD (t.probeStart (thash P w k)) = stAt P w t k c → c ≤ N → N < f + c →
      (∀ (i : Nat) p, L[i]? = some p → p.2 = k → ∃ c', c ≤ c' ∧ c' < N ∧ t.place.toList[i]? = some (slAt P w t k c')) →
      wpAny (model P w) A (setSearchFrom a (.ref x) (thash P w k) ad f st) Q E s := by
  intro f
  induction f with
  | zero => intro c st _ h1 h2 _; omega
  | succ f ih =>
    intro c st est hc hf ahead
    obtain ⟨o, ho, hex, hd⟩ := R.obj
    rw [setSearchFrom_succ]
    refine wpAny_bind (wpAny_setState_of ho hd R.fts ?_)
    dsimp only
    refine wp_if_neg R.odd ?_
    try refine wpAny_bind (wpAny_pure ?_)
    have hashes : ∀ (i : Nat) p, L[i]? = some p → (es[i]?.map (·.1)).getD 0 = thash P w p.2 := fun i p g => by
      rw [R.ent g]
      rfl
    have spec := go_spec t R.tb.ris R.tb.dm (fun i => (es[i]?.map (·.1)).getD 0) (thash P w k) (10 * SetTable.turns t.mask) (N - c) (stAt P w t k c) (stAt_dm k c) (by omega)
      (fun q hq => by rw [stAt_add]; exact full (c + q) (by omega)) (by rw [stAt_add, Nat.add_sub_cancel' hc]; exact free)
    rw [est]
    simp only [stAt_add] at spec
    rcases spec with ⟨q, i, hq, hi, _, early, pr⟩ | ⟨early, pr⟩
    · -- an entry of this hash stands there
      have pr2 : t.probe (fun i => (es[i]?.map (·.1)).getD 0) (thash P w k) (stAt P w t k c) = _ := pr
      rw [pr2]
      dsimp only
      have il : i < L.length := by
        have e := (List.getElem?_eq_some_iff.mp hi).1
        rw [Array.length_toList, R.psz] at e
        exact e
      obtain ⟨p, gp⟩ : ∃ p, L[i]? = some p := ⟨_, List.getElem?_eq_getElem il⟩
      have mp : p ∈ L := List.mem_of_getElem? gp
      have live : t.slot (slAt P w t k (c + q)) = .live i := slot_live R.tb.ris hi
      have go : wpAny (model P w) A (searchRest a (.ref x) (thash P w k) ad f es t (slAt P w t k (c + q)) i (stAt P w t k (c + (q + 1)))) Q E s := by
        unfold searchRest
        rw [R.ent gp]
        dsimp only
        refine wpAny_bind (wpAny_holding (wpAny_eqBool_tuple hu (R.tps p mp) hx ?_))
        refine wpAny_bind (wpAny_setState_of ho hd R.fts ?_)
        dsimp only
        have later : p.2 ≠ k → wpAny (model P w) A (setSearchFrom a (.ref x) (thash P w k) ad f (some (stAt P w t k (c + (q + 1))))) Q E s := fun ne => by
          refine ih (c + (q + 1)) _ rfl (by omega) (by omega) fun i2 p2 g2 e2 => ?_
          obtain ⟨c2, b1, b2, b3⟩ := ahead i2 p2 g2 e2
          refine ⟨c2, ?_, b2, b3⟩
          refine Classical.byContradiction fun lt => ?_
          by_cases hc2 : c2 < c + q
          · refine early (c2 - c) i2 (by omega) (by rw [Nat.add_sub_cancel' b1]; exact b3) ?_
            rw [hashes i2 p2 g2, e2]
          · have e3 : c2 = c + q := by omega
            rw [e3] at b3
            have l2 := slot_live R.tb.ris b3
            rw [live] at l2
            injection l2 with l2
            rw [← l2, gp] at g2
            rw [Option.some.inj g2] at ne
            exact ne e2
        by_cases hk : p.2 = k
        · have mk : k ∈ L.map (·.2) := List.mem_map.mpr ⟨p, mp, hk⟩
          cases ad with
          | true =>
            refine wp_if_pos (by simp [hk]) ?_
            exact wpAny_pure (yes i mk)
          | false =>
            refine wp_if_neg (by simp) ?_
            try refine wpAny_bind (wpAny_pure ?_)
            rw [sameMem]
            dsimp only
            simp only [if_true, live, R.ent gp]
            refine wpAny_bind (wpAny_isSame_ref_self (wpAny_bind (wpAny_pure ?_)))
            rw [if_pos rfl]
            dsimp only
            rw [if_pos (decide_eq_true hk)]
            exact wpAny_pure (yes i mk)
        · refine wp_if_neg (by simp [hk]) ?_
          try refine wpAny_bind (wpAny_pure ?_)
          rw [sameMem]
          dsimp only
          simp only [if_true, live, R.ent gp]
          refine wpAny_bind (wpAny_isSame_ref_self (wpAny_bind (wpAny_pure ?_)))
          rw [if_pos rfl]
          dsimp only
          rw [if_neg (by rw [decide_eq_true_eq]; exact hk)]
          exact later hk
      by_cases hl : t.led = true
      · refine wp_if_neg (by rw [hl]; decide) ?_
        try refine wpAny_bind (wpAny_pure ?_)
        exact go
      · refine wp_if_pos (by simp [hl]) ?_
        refine wpAny_bind (seen_tup hx (fun y hy => ?_) ?_)
        · obtain ⟨e, he, rfl⟩ := List.mem_map.mp hy
          have he2 : e ∈ es.toList := by
            have := (Array.mem_filter.mp (Array.mem_toList_iff.mp he)).1
            exact Array.mem_toList_iff.mpr this
          rw [R.rw_] at he2
          obtain ⟨p2, m2, rfl⟩ := List.mem_map.mp he2
          exact ⟨p2.2, p2.1, rfl, R.tps p2 m2⟩
        · refine wp_if_neg Bool.false_ne_true ?_
          try refine wpAny_bind (wpAny_pure ?_)
          exact go
    · -- the empty slot
      have pr2 : t.probe (fun i => (es[i]?.map (·.1)).getD 0) (thash P w k) (stAt P w t k c) = _ := pr
      rw [pr2, Nat.add_sub_cancel' hc]
      dsimp only
      refine wpAny_pure (no fun hm => ?_)
      obtain ⟨p, mp, e⟩ := List.mem_map.mp hm
      obtain ⟨i, gp⟩ := List.getElem?_of_mem mp
      obtain ⟨c2, b1, b2, b3⟩ := ahead i p gp e
      refine early (c2 - c) i (by omega) (by rw [Nat.add_sub_cancel' b1]; exact b3) ?_
      rw [hashes i p gp, e]
/-- the search as it is asked for -/
theorem psearch0 (R : PsR P w s.heap a L es ep t) {x : Addr} {k : List Int} (hx : IsT P w s.heap k x) (hu : A.units < cLine) (ad : Bool) {Q : SetFound → Shared → Prop}
    (yes : ∀ i, k ∈ L.map (·.2) → Q (.there (if ad then none else some i)) s)
    (no : ∀ N, k ∉ L.map (·.2) → slAt P w t k N ∉ t.place.toList → (∀ c, c < N → slAt P w t k c ∈ t.place.toList) → Q (.free (slAt P w t k N) false) s) :
    wpAny (model P w) A (setSearch a (.ref x) (thash P w k) ad) Q E s := by
  have few := R.rm
  obtain ⟨N, n1, n2, n3⟩ := R.tb.first (by rw [List.length_map]; omega) (thash P w k)
  have n4 : N < 100000 := by
    have e : 10 * SetTable.turns t.mask ≤ 1420 := by
      unfold SetTable.turns
      rcases R.tb.mok with e | e | e <;> omega
    omega
  unfold setSearch
  refine psearch R hx hu ad n1 n2 n3 yes (fun z => no N z n2 n3) 100000 0 none rfl (Nat.zero_le _) (by omega) fun i p gp e => ?_
  have g1 : (L.map fun p => thash P w p.2)[i]? = some (thash P w k) := by
    rw [List.getElem?_map, gp, ← e]
    rfl
  have g2 : i < t.place.toList.length := by
    rw [Array.length_toList, R.psz]
    exact (List.getElem?_eq_some_iff.mp gp).1
  obtain ⟨c, c1, c2⟩ := R.tb.before n2 g1 (List.getElem?_eq_getElem g2)
  refine ⟨c, Nat.zero_le _, c1, ?_⟩
  rw [List.getElem?_eq_getElem g2]
  exact congrArg some c2.symm
end

section
variable {P : Program} {w : World} {A : Around} {E : Value → Shared → Prop} {s : Shared}
variable {a : Addr} {L : List (Addr × List Int)} {es : Array (Int × Value)} {ep : Nat} {t : SetTable}
theorem PsR.ty (R : PsR P w s.heap a L es ep t) : s.TypeIs (.ref a) "set" := by
  obtain ⟨o, ho, hx, _⟩ := R.obj
  exact ⟨o, ho, hx.1⟩
theorem PsR.nodict (R : PsR P w s.heap a L es ep t) : ∀ b, Value.ref a = .ref b → ∃ ob, s.heap.get? b = some ob ∧ ob.dict = none := fun b e => by
  injection e with e
  subst e
  obtain ⟨o, ho, hx, _⟩ := R.obj
  exact ⟨o, ho, hx.2.1⟩
/-- who is sought among tuples -/
theorem pfind (R : PsR P w s.heap a L es ep t) {x : Addr} {k : List Int} (hx : IsT P w s.heap k x) (hu : A.units < cLine) {Q : Option Nat → Shared → Prop}
    (h : ∀ r : Option Nat, r.isSome = decide (k ∈ L.map (·.2)) → Q r s) : wpAny (model P w) A (setFind a (.ref x) (thash P w k)) Q E s := by
  obtain ⟨o, ho, hex, hd⟩ := R.obj
  show wpAny (model P w) A (setFindIn a (.ref x) (thash P w k) (99999 + 1)) Q E s
  unfold setFindIn
  refine wpAny_bind (wpAny_setState_of ho hd R.fts ?_)
  dsimp only
  refine wp_if_neg (by simp [byScan, Value.scannable]) ?_
  try refine wpAny_bind (wpAny_pure ?_)
  refine wpAny_bind (psearch0 R hx hu false (fun i m => ?_) fun N m _ _ => ?_)
  · dsimp only
    exact wpAny_pure (h (some i) (by rw [decide_eq_true m]; rfl))
  · dsimp only
    exact wpAny_pure (h none (by rw [decide_eq_false m]; rfl))
theorem pis_in (R : PsR P w s.heap a L es ep t) {x : Addr} {k : List Int} (hx : IsT P w s.heap k x) (hu : A.units + 4 < cLine) {Q : Value → Shared → Prop}
    (h : Q (.bool (decide (k ∈ L.map (·.2)))) { s with toks := s.toks + (k.length + 1) }) : wpAny (model P w) A (compareOp .In (.ref x) (.ref a)) Q E s := by
  have ty := R.ty
  have ask : wpAny (model P w) A.in1 (Builtin.«frozenset.__contains__» ⟨[.ref a, .ref x], []⟩) (fun fin s' => ∃ v, fin = .done (.ret v) ∧ wpAny (model P w) A (truthy v) (fun c s' => wpAny (model P w) A (pure (Value.bool c)) Q E s') E s') E s := by
    simp only [Builtin.«frozenset.__contains__», Builtin.Frozenset.oneOther, Builtin.Frozenset.addrOf, Builtin.Frozenset.withSetAsKey, setContains, List.isEmpty_nil, bind_assoc]
    refine wpAny_bind (wpAny_pure ?_); try dsimp only
    refine wpAny_bind (wpAny_pure ?_); try dsimp only
    refine wpAny_bind (wpAny_tryCatch (wpAny_holding (wpAny_bind (wpAny_pyHash_tuple (by show A.units + 1 < cLine; omega) hx ?_))))
    refine wpAny_bind (pfind (s := { s with toks := s.toks + (k.length + 1) }) R hx (by show A.units + 1 < cLine; omega) fun r er => wpAny_pure ?_)
    show wpAny _ _ (ret (Value.bool r.isSome)) _ _ _
    rw [er]
    exact wpAny_pure ⟨_, rfl, wpAny_truthy_bool (wpAny_pure h)⟩
  show wpAny _ _ (contains (.ref a) (.ref x) >>= fun b => pure (Value.bool b)) Q E s
  refine wpAny_bind ?_
  unfold contains
  try with_reducible refine wpAny_holding ?_
  refine wpAny_bind (wpAny_specialOf ty F.slot_set_contains.lookup ?_)
  refine wp_if_neg (by rw [beq_builtin_none]; decide) (wpAny_bind (wpAny_callSpecialUnlessNone?_slot (name := Str.ofString "__contains__") ty F.slot_set_contains (wpAny_call_entry F.slot_set_contains ty entry_set_contains ask (F.args_set_contains_2 _ _))))
end

section
variable {P : Program} {w : World} {A : Around} {E : Value → Shared → Prop} {s : Shared}
variable {a : Addr} {L : List (Addr × List Int)} {es : Array (Int × Value)} {ep : Nat} {t : SetTable}
theorem PsR.small {h : Heap} (R : PsR P w h a L es ep t) (few : L.length < 64) : SetTR P w h a L es ep t := ⟨R.obj, R.rw_, R.tb, R.nod, R.tps, R.pln, R.ld, R.rm, few⟩
theorem PsR.of {h : Heap} (R : SetTR P w h a L es ep t) : PsR P w h a L es ep t := ⟨R.ob, R.rows, R.tab, R.nd, R.tup, R.plain, R.led, R.room⟩
/-- one more tuple -/
theorem padd (R : PsR P w s.heap a L es ep t) {x : Addr} {k : List Int} (hx : IsT P w s.heap k x) (hu : A.units < cLine) (bnd : L.length + 1 ≤ 76) {Q : Bool → Shared → Prop}
    (h : ∀ b h' L' es' ep' t', Heap.SameBut a s.heap h' → PsR P w h' a L' es' ep' t' → (k ∈ L.map (·.2) → L' = L) → (k ∉ L.map (·.2) → L'.Perm ((x, k) :: L)) → Q b { s with heap := h' }) :
    wpAny (model P w) A (setAddHashed a (.ref x) (thash P w k)) Q E s := by
  by_cases few : L.length + 1 < 64
  · exact add_at (R.small (by omega)) hx hu few fun b h' L' es' ep' t' sb R' c1 c2 => h b h' L' es' ep' t' sb (PsR.of R') c1 c2
  · obtain ⟨o, ho, hex, hd⟩ := R.obj
    have m127 : t.mask = 127 := by
      have := R.rm
      rcases R.tb.mok with e | e | e <;> omega
    unfold setAddHashed
    refine wpAny_holding ?_
    show wpAny (model P w) A (setAddHashedIn a (.ref x) (thash P w k) (99999 + 1)) Q E s
    rw [setAddHashedIn_succ]
    refine wpAny_bind (wpAny_setState_of ho hd R.fts ?_)
    dsimp only
    refine wp_if_neg (by simp [byScan, Value.scannable]) ?_
    try refine wpAny_bind (wpAny_pure ?_)
    refine wpAny_bind (psearch0 R hx hu true (fun i m => ?_) fun N m n1 n2 => ?_)
    · dsimp only
      exact wpAny_pure (h false s.heap L es ep t (Heap.SameBut.refl a s.heap) R (fun _ => rfl) fun z => absurd m z)
    · dsimp only
      refine wpAny_bind (wpAny_setState_of ho hd R.fts ?_)
      dsimp only
      obtain ⟨q1, q2, q3, q4, q5, q6, q7, q8, q9⟩ := R.tb.put n1 n2
      have e0 : way t.mask (thash P w k) N = slAt P w t k N := rfl
      rw [e0] at q1 q2 q3 q4 q5 q6 q7 q8 q9
      generalize slAt P w t k N = sl at q1 q2 q3 q4 q5 q6 q7 q8 q9 ⊢
      rw [q1]
      generalize (t.put sl).1 = t1 at q3 q4 q5 q6 q7 q8 q9 ⊢
      generalize SetTable.below t.place sl = b at q2 q3 ⊢
      have plain1 : t1.plain = true := by rw [q6]; exact R.pln
      refine wp_if_pos plain1 (wpAny_bind (hashBy_tup hx ?_))
      simp only [if_true, Bool.not_false, Bool.true_and]
      have pm : (L.take b ++ (x, k) :: L.drop b).Perm ((x, k) :: L) := put_perm L b (x, k)
      have rows : (SetTable.insertAt es b (thash P w k, Value.ref x)).toList = rowsOf P w (L.take b ++ (x, k) :: L.drop b) := by
        rw [rows_put, ← R.rw_]
        exact SetTable.toList_insertAt _ _ _
      have tabs : TabOk t1 ((L.take b ++ (x, k) :: L.drop b).map fun p => thash P w p.2) := by
        rw [List.map_append, List.map_cons, List.map_take, List.map_drop]
        exact q3
      generalize SetTable.insertAt es b (thash P w k, Value.ref x) = es1 at rows ⊢
      generalize L.take b ++ (x, k) :: L.drop b = L1 at pm rows tabs
      have len1 : L1.length = L.length + 1 := pm.length_eq
      have size1 : es1.size = L.length + 1 := by
        have e := congrArg List.length rows
        rw [Array.length_toList] at e
        rw [e, ← len1]
        exact List.length_map _
      have notFull : ¬ t1.tooFull = true := fun z => by
        have z2 : decide (t1.fill * 5 ≥ t1.mask * 3) = true := z
        rw [decide_eq_true_eq, q9, List.length_map, q4, m127] at z2
        omega
      refine wpAny_bind (wpAny_storeSet_of ho hd ?_ (by rw [size1, sizeLine_eq]; omega))
      refine wp_if_neg notFull ?_
      have sb : Heap.SameBut a s.heap (s.heap.update a (Obj.putSet es1 t1)) := Heap.SameBut.update ..
      refine wpAny_pure (h true _ L1 es1 (ep + 1) t1 sb ⟨⟨_, store_at ho hd, ⟨hex.1, hex.2.1, hex.2.2⟩, rfl⟩, rows, tabs, ?_, fun p hp => ?_, plain1, by rw [q5]; exact R.ld, by rw [len1, q4, m127]; omega⟩ (fun z => absurd z m) fun _ => pm)
      · refine (pm.map (·.2)).nodup_iff.mpr ?_
        rw [List.map_cons]
        exact List.nodup_cons.mpr ⟨m, R.nod⟩
      · rcases List.mem_cons.mp (pm.mem_iff.mp hp) with e | hp2
        · rw [e]
          exact isT_same hx ho hd sb
        · exact isT_same (R.tps p hp2) ho hd sb
end

/-! ### as rules of the layer: a set of pairs of ints -/
theorem perm_map {α β : Type} {f : α → β} {l m : List β} (h : l.Perm m) : ∀ L : List α, m = L.map f → ∃ L' : List α, List.Perm L' L ∧ l = List.map f L' := by
  induction h with
  | nil => intro L e; exact ⟨[], by rw [List.map_eq_nil_iff.mp e.symm], rfl⟩
  | cons x _ ih =>
    intro L e
    cases L with
    | nil => cases e
    | cons y L =>
      obtain ⟨e1, e2⟩ := List.cons.inj e
      obtain ⟨L', p, e3⟩ := ih L e2
      exact ⟨y :: L', p.cons y, by rw [List.map_cons, e1, e3]⟩
  | swap x y l =>
    intro L e
    match L, e with
    | y' :: x' :: L, e =>
      obtain ⟨e1, e2⟩ := List.cons.inj e
      obtain ⟨e3, e4⟩ := List.cons.inj e2
      exact ⟨x' :: y' :: L, List.Perm.swap y' x' L, by rw [List.map_cons, List.map_cons, ← e1, ← e3, ← e4]⟩
  | trans _ _ ih1 ih2 =>
    intro L e
    obtain ⟨L1, p1, e1⟩ := ih2 L e
    obtain ⟨L2, p2, e2⟩ := ih1 L1 e1
    exact ⟨L2, p2.trans p1, e2⟩
def pr2 : List Int → Pr
  | [x, y] => (x, y)
  | _ => (0, 0)
section
variable {P : Program} {w : World} {A : Around} {E : Value → Shared → Prop} {s : Shared}
variable {a : Addr} {L : List (Addr × List Int)} {es : Array (Int × Value)} {ep : Nat} {t : SetTable}
theorem IsT.pair {h : Heap} {b : Addr} {x y : Int} (q : IsT P w h [x, y] b) : Srt.IsPair h (.ref b) x y := by
  obtain ⟨o, items, n, ho, hc, hd, hi⟩ := q
  obtain ⟨its⟩ := items
  cases hi with
  | cons h1 h2 =>
    cases h2 with
    | cons h3 h4 =>
      cases h4
      obtain ⟨t1, rfl⟩ := Value.isInt_shape h1
      obtain ⟨t2, rfl⟩ := Value.isInt_shape h3
      exact ⟨b, o, t1, t2, n, rfl, ho, hc, hd⟩
/-- the pair that stands at a value -/
def kL (L : List (Addr × List Int)) (v : Value) : Pr := match v with
  | .ref b => pr2 ((L.lookup b).getD [])
  | _ => (0, 0)
theorem kL_of {h : Heap} (tps : ∀ p ∈ L, IsT P w h p.2 p.1) {q : Addr × List Int} (m : q ∈ L) : kL L (.ref q.1) = pr2 q.2 := by
  have key : ∀ L : List (Addr × List Int), (∀ p ∈ L, IsT P w h p.2 p.1) → q ∈ L → L.lookup q.1 = some q.2 := by
    intro L
    induction L with
    | nil => intro _ z; cases z
    | cons p L ih =>
      intro tps m
      obtain ⟨b, k⟩ := p
      by_cases e : q.1 = b
      · have t1 := tps _ m
        have t2 := tps (b, k) List.mem_cons_self
        rw [e] at t1
        have e2 : q.2 = k := t1.inj t2
        rw [List.lookup_cons, e, beq_self_eq_true, e2]
      · have m2 : q ∈ L := by
          rcases List.mem_cons.mp m with z | z
          · rw [z] at e
            exact absurd rfl e
          · exact z
        rw [List.lookup_cons, beq_eq_false_iff_ne.mpr e]
        exact ih (fun p hp => tps p (List.mem_cons_of_mem _ hp)) m2
  show pr2 ((L.lookup q.1).getD []) = _
  rw [key L tps m]
  rfl
/-- sorted(set) -/
theorem psorted (R : PsR P w s.heap a L es ep t) (hh : A.handled = none) (two : ∀ p ∈ L, ∃ x y, p.2 = [x, y]) (few : L.length ≤ 1000) {Q : Value → Shared → Prop}
    (h : ∀ s' p c (L' : List (Addr × List Int)), (∀ b o, s.heap.get? b = some o → s'.heap.get? b = some o) → s'.gens = s.gens → s'.os = s.os → s.heap.objs.size ≤ p → s'.heap.get? p = some (seqObj "list" (L'.map fun q => Value.ref q.1).toArray c) → L'.Perm L →
      L'.Pairwise (fun q r => ¬ lt2 (pr2 r.2) (pr2 q.2)) → Q (.ref p) s') : wpAny (model P w) A (call (.builtin "sorted") [.ref a]) Q E s := by
  obtain ⟨o, ho, hex, hd⟩ := R.obj
  have sz := R.sz
  refine Calls.call_function_entry kind_sorted plain_sorted entry_sorted (args_sorted1 _) ?_
  unfold Builtin.«sorted»; refine wpAny_bind (m := checkCount "sorted" 1 1 _) (wpAny_pure ?_)
  refine wpAny_bind (collect_set (A := A.in1) hh ⟨o, ho, hex.1, hd⟩ R.fts (by rw [sz]; unfold scanBound; omega) R.tb.ris R.ld fun s1 vs keep grow g1 o1 pm => ?_)
  have e1 : es.toList.map (·.2) = L.map fun q => Value.ref q.1 := by
    rw [R.rw_]
    show List.map _ (L.map _) = _
    rw [List.map_map]
    rfl
  rw [e1] at pm
  have lv : vs.length ≤ sizeLine := by
    rw [pm.length_eq, List.length_map, sizeLine_eq]
    omega
  refine wpAny_bind (wpAny_newList ?_ lv)
  have new : (s1.heap.push (seqObj "list" vs.toArray 0)).get? s1.heap.objs.size = some (seqObj "list" vs.toArray 0) := Heap.get?_push_size _ rfl
  have pairs : ∀ v ∈ vs, Srt.IsPair (s1.heap.push (seqObj "list" vs.toArray 0)) v (kL L v).1 (kL L v).2 := fun v hv => by
    obtain ⟨q, hq, rfl⟩ := List.mem_map.mp (pm.mem_iff.mp hv)
    rw [kL_of R.tps hq]
    obtain ⟨x, y, e2⟩ := two q hq
    have t1 := R.tps q hq
    rw [e2] at t1 ⊢
    exact Srt.IsPair.keeps (IsT.pair t1) fun b u e _ => Heap.get?_push_of_some _ (keep b u e)
  refine wpAny_bind (wpAny_holding (wpAny_call_entry slot_list_sort ⟨_, new, rfl⟩ entry_list_sort (SrtO.list_sort_ord (s := { s1 with heap := s1.heap.push (seqObj "list" vs.toArray 0) }) (SrtO.swo_lex (kL L)) new lv (fun h2 => SrtO.pairs_sortableO (by omega) pairs fun o e c => ?_) fun out so st => ⟨_, rfl, ?_⟩) (args_list_sort _)))
  · have e3 : some o = some (seqObj "list" vs.toArray 0) := e.symm.trans new
    cases e3
    exact absurd (Value.type.inj c) (by decide)
  · obtain ⟨L', p1, p2⟩ := perm_map (st.perm.trans pm) L rfl
    obtain ⟨c, hc⟩ := sortedHeap_at (vs := vs) (out := out.toArray) new
    refine wpAny_pure ⟨_, rfl, h _ s1.heap.objs.size c L' (fun b u e => ?_) g1 o1 grow ?_ p1 ?_⟩
    · have e4 := keep b u e
      have lt := Heap.lt_size e4
      show (sortedHeap (s1.heap.push (seqObj "list" vs.toArray 0)) s1.heap.objs.size vs out.toArray).get? b = some u
      rw [sortedHeap_old (Nat.ne_of_lt lt) (by rw [size_push']; exact Nat.lt_succ_of_lt lt)]
      exact Heap.get?_push_of_some _ e4
    · rw [← p2]
      exact hc
    · rw [p2] at so
      refine List.Pairwise.imp_of_mem (fun {q r} hq hr z => ?_) (List.pairwise_map.mp so)
      have z2 : SrtO.lexB (kL L (Value.ref r.1)) (kL L (Value.ref q.1)) = false := z
      rw [kL_of R.tps (p1.mem_iff.mp hq), kL_of R.tps (p1.mem_iff.mp hr)] at z2
      exact SrtO.lexB_no.mp z2
end
/-- the set at a without its tuples -/
structure Ps0 (P : Program) (w : World) (h : Heap) (a : Addr) (L : List (Addr × List Int)) : Prop where
  ex : ∃ (es : Array (Int × Value)) (ep : Nat) (t : SetTable), (∃ o, h.get? a = some o ∧ o.ExactSet ∧ o.data = .set es ep t) ∧ es.toList = rowsOf P w L ∧ TabOk t (L.map fun p => thash P w p.2) ∧ (L.map (·.2)).Nodup ∧ t.plain = true ∧ (w.params.followText "set-order" = true ∨ t.led = true) ∧ L.length * 5 < t.mask * 3
def PsO (P : Program) (w : World) (a : Addr) (L : List (Addr × List Int)) : HO := .ext fun h => Ps0 P w h a L
theorem PsR.p0 {P : Program} {w : World} {h : Heap} {a : Addr} {L : List (Addr × List Int)} {es : Array (Int × Value)} {ep : Nat} {t : SetTable} (R : PsR P w h a L es ep t) : Ps0 P w h a L := ⟨es, ep, t, R.obj, R.rw_, R.tb, R.nod, R.pln, R.ld, R.rm⟩
theorem Ps0.full {P : Program} {w : World} {h : Heap} {a : Addr} {L : List (Addr × List Int)} (R : Ps0 P w h a L) (tp : ∀ p ∈ L, IsT P w h p.2 p.1) : ∃ es ep t, PsR P w h a L es ep t := by
  obtain ⟨es, ep, t, h1, h2, h3, h4, h5, h6, h7⟩ := R.ex
  exact ⟨es, ep, t, ⟨h1, h2, h3, h4, tp, h5, h6, h7⟩⟩
theorem psO_new {P : Program} {w : World} {H : Hp} {h : Heap} {a : Addr} {L : List (Addr × List Int)} (R : Ps0 P w h a L) : ObjOk P w H h a (PsO P w a L) := by
  refine ⟨R, ?_, fun h1 h2 p k => ?_⟩
  · obtain ⟨_, _, _, ⟨o, ho, _⟩, _⟩ := R.ex
    exact ⟨o, ho⟩
  · obtain ⟨es, ep, t, ⟨o, ho, r⟩, q⟩ := Ps0.ex p
    exact ⟨es, ep, t, ⟨o, k o ho, r⟩, q⟩
section
variable {X : Cx}
theorem ps_get {pins : List (Addr × Obj)} {σ : L2.St} {H : Hp} {s : Shared} {a : Addr} {L : List (Addr × List Int)} (I : Inv X pins σ H s) (ha : H a = some (PsO X.prog X.w a L)) (tp : ∀ p ∈ L, SqT X.K H p.1 (p.2.map V.int)) : ∃ es ep t, PsR X.prog X.w s.heap a L es ep t :=
  Ps0.full (I.hok a _ ha).1 fun p hp => I.isT (tp p hp)
/-- set(), to be filled with pairs -/
def rPs0 (P : Program) (w : World) : List V → Hp → VK → Prop := fun xs H Q => xs = [] ∧ ∀ p, H p = none → Q (.ref p) (upd H p (PsO P w p []))
theorem cr_ps0 : CallR X (.type "set") (rPs0 X.prog X.w) := by
  intro pins s σ H xs us Q I r h
  obtain ⟨rfl, q⟩ := h
  cases r
  refine setR_new fun _ => ?_
  exact ⟨.ref _, upd H s.heap.objs.size (PsO X.prog X.w s.heap.objs.size []), I.laid (t' := s.toks) (fun b u e => Heap.get?_push_of_some _ e) (Nat.le_refl _) (psO_new (PsR.of (setTR_fresh (Heap.get?_push_size _ rfl))).p0), rfl, q _ (I.hok.fresh (Nat.le_refl _))⟩
/-- (a, b) in seen -/
def rPsIn (K : PySem.W.Frag) (P : Program) (w : World) : V → V → Hp → VK → Prop := fun x y H Q => ∃ b k a L, x = V.ref b ∧ y = V.ref a ∧ H a = some (PsO P w a L) ∧ (∀ p ∈ L, SqT K H p.1 (p.2.map V.int)) ∧ SqT K H b (k.map V.int) ∧ Q (.bl (decide (k ∈ L.map (·.2)))) H
theorem op_psIn (hu : X.A.units + 64 < cLine) : OpR X (compareOp .In) (rPsIn X.K X.prog X.w) := by
  intro pins s σ H x y v u Q I rx ry h
  obtain ⟨b, k, a, L, rfl, rfl, ha, tp, hb, q⟩ := h
  cases (show v = Value.ref b from rx)
  cases (show u = Value.ref a from ry)
  obtain ⟨es, ep, t, R⟩ := ps_get I ha tp
  exact pis_in R (I.isT hb) (by omega) ⟨.bl _, H, I.tok _, rfl, q⟩
/-- seen.add((a, b)) -/
def rPsAdd (K : PySem.W.Frag) (P : Program) (w : World) : V → List V → Hp → VK → Prop := fun x xs H Q => ∃ b k a L, x = V.ref a ∧ xs = [V.ref b] ∧ H a = some (PsO P w a L) ∧ (∀ p ∈ L, SqT K H p.1 (p.2.map V.int)) ∧ SqT K H b (k.map V.int) ∧ L.length + 1 ≤ 76 ∧
  ∀ L', (k ∈ L.map (·.2) → L' = L) → (k ∉ L.map (·.2) → L'.Perm ((b, k) :: L)) → Q .non (upd H a (PsO P w a L'))
theorem mt_psAdd (hu : X.A.units + 64 < cLine) : MtR X "set.add" (rPsAdd X.K X.prog X.w) := by
  intro pins s σ H x xs v us Q I rx rxs h
  obtain ⟨b, k, a, L, rfl, rfl, ha, tp, hb, bnd, q⟩ := h
  cases rx
  cases rxs with
  | cons ry rt =>
    cases rt
    cases (show _ = Value.ref b from ry)
    obtain ⟨es, ep, t, R⟩ := ps_get I ha tp
    have hx := I.isT hb
    refine wpAny_call_entry F.slot_set_add R.ty F.entry_set_add ?_ (F.args_set_add_2 _ _)
    simp only [Builtin.«set.add», Builtin.Frozenset.oneOther, Builtin.Frozenset.addrOf, setAdd, List.isEmpty_nil, bind_assoc]
    refine wpAny_bind (wpAny_pure ?_); try dsimp only
    refine wpAny_bind (wpAny_pure ?_); try dsimp only
    refine wpAny_bind (wpAny_holding (wpAny_bind (wpAny_pyHash_tuple (by show X.A.units + 1 < cLine; omega) hx ?_)))
    refine padd (s := { s with toks := s.toks + (k.length + 1) }) R hx (by show X.A.units + 1 < cLine; omega) bnd fun c h' L' es' ep' t' sb R' c1 c2 => ?_
    show wpAny _ _ (ret Value.none) _ _ _
    have he : ∃ u, h'.get? a = some u := by
      obtain ⟨o, ho, _⟩ := R'.obj
      exact ⟨o, ho⟩
    exact wpAny_pure ⟨_, rfl, .non, upd H a (PsO X.prog X.w a L'), I.write (e := a) (t' := s.toks + (k.length + 1)) (by rw [ha]; trivial) (.inl rfl) (fun b u hb hu => (sb.2 b hb).trans hu) he (psO_new R'.p0), rfl, q L' c1 c2⟩
/-- sorted(seen) -/
def rPsSort (K : PySem.W.Frag) (P : Program) (w : World) : List V → Hp → VK → Prop := fun vs H Q => ∃ a L, vs = [V.ref a] ∧ H a = some (PsO P w a L) ∧ (∀ p ∈ L, SqT K H p.1 (p.2.map V.int)) ∧ (∀ p ∈ L, ∃ x y, p.2 = [x, y]) ∧ L.length ≤ 1000 ∧
  ∀ (L' : List (Addr × List Int)) (p : Addr), L'.Perm L → (L'.map (·.2)).Nodup → L'.Pairwise (fun q r => ¬ lt2 (pr2 r.2) (pr2 q.2)) → H p = none → Q (.ref p) (upd H p (.lst (L'.map fun q => V.ref q.1)))
theorem cr_psSort (hc : X.calm = true) : CallR X (.builtin "sorted") (rPsSort X.K X.prog X.w) := by
  intro pins s σ H vs us Q I r h
  obtain ⟨a, L, rfl, ha, tp, two, few, q⟩ := h
  obtain ⟨es, ep, t, R⟩ := ps_get I ha tp
  rw [Vals.ref1 r]
  refine psorted R (I.ok.hd hc) two few fun s' p c L' keep g o hp hg pm pw => ?_
  have hn : H p = none := I.hok.fresh hp
  have ll : (L'.map fun q => V.ref q.1).length ≤ sizeLine := by
    rw [List.length_map, pm.length_eq, sizeLine_eq]
    omega
  have J : Inv X pins σ (upd H p (.lst (L'.map fun q => V.ref q.1))) { s with heap := s'.heap, gens := s'.gens, drawn := s'.drawn, toks := s'.toks } :=
    I.call (ch := []) (Un.laid keep hp hn) (I.hok.laid keep hp ⟨ll, _, c, vals_of_refs L', hg⟩) (by rw [g]; exact I.bare) (fun _ z => nomatch z)
  have e : s' = { s with heap := s'.heap, gens := s'.gens, drawn := s'.drawn, toks := s'.toks } := by
    cases s'
    cases s
    cases o
    rfl
  rw [e]
  exact ⟨.ref p, _, J, rfl, q L' p pm ((pm.map (·.2)).nodup_iff.mpr R.nod) pw hn⟩
/-- the call of the method -/
def tPsAdd (K : PySem.W.Frag) (P : Program) (w : World) (to : TE) (t : TA) : TE := fun σ H Q => to σ H fun x H1 => (∃ a L, x = V.ref a ∧ H1 a = some (PsO P w a L)) ∧ t σ H1 fun xs H2 => rPsAdd K P w x xs H2 Q
theorem ps_look {pins : List (Addr × Obj)} {σ : L2.St} {H : Hp} {s : Shared} {a : Addr} {L : List (Addr × List Int)} (I : Inv X pins σ H s) (ha : H a = some (PsO X.prog X.w a L)) : s.TypeIs (.ref a) "set" ∧ ∀ b, Value.ref a = .ref b → ∃ ob, s.heap.get? b = some ob ∧ ob.dict = none := by
  obtain ⟨_, _, _, ⟨o, ho, hx, _⟩, _⟩ := Ps0.ex (I.hok a _ ha).1
  refine ⟨⟨o, ho, hx.1⟩, fun b e => ?_⟩
  injection e with e
  subst e
  exact ⟨o, ho, hx.2.1⟩
theorem pe_psAdd {o e : Expr} {es : List Expr} {to : TE} {t : TA} {apos cpos : Pos} (hu : X.A.units + 64 < cLine) (ho : PE X o to) (ha : PA X (e :: es) t)
    (b1 : attributeBase o "add" X.env (eval o X.env) = eval o X.env := by rfl)
    (b2 : ((backTo cpos (starEach (e :: es) X.env)).all (fun x => !x.1) && (backToKw cpos (keywordEach [] X.env)).all (fun x => x.1.isSome) && decide ((e :: es).length + ([] : List Keyword).length + (if ([] : List Keyword).isEmpty then 0 else 1) < 30)) = true := by rfl)
    (b3 : (apos.endLine == cpos.line) = true := by rfl) (b4 : starEach (e :: es) X.env = (false, eval e X.env) :: starEach es X.env := by rfl) (b5 : (backTo cpos (starEach es X.env)).any (·.1) = false := by rfl) :
    PE X (.Call (.Attribute o "add" apos) (e :: es) [] cpos) (tPsAdd X.K X.prog X.w to t) := by
  refine ⟨fun pins s σ H Q I h => wpAny_Call_method_late b1 b2 b3 rfl (thn (ho.run pins s σ H _ I h) ?_)⟩
  rintro v s1 ⟨x, H1, I1, r1, ⟨a, L, rfl, hka⟩, q1⟩
  cases r1
  obtain ⟨k1, k2⟩ := ps_look I1 hka
  refine ⟨"set", "set.add", F.plainAttrs_set, F.slot_set_add, F.type_set_add, k1, k2, ?_⟩
  have run := ha.run cpos pins s1 σ H1 _ I1 q1
  rw [b4] at run ⊢
  refine Calls.callWith_builtin ?_ (Calls.evalArgs_plain (thn run ?_))
  · show (false || (backTo cpos (starEach es X.env)).any (·.1)) = false
    rw [b5]
    rfl
  · rintro us s2 ⟨vs, H2, I2, r2, q2⟩
    exact mt_psAdd hu pins s2 σ H2 (.ref a) vs (.ref a) us Q I2 rfl r2 q2
end

abbrev sHouse : Stmt := topS 13
abbrev sHinit : Stmt := inClass sHouse 2
abbrev sHcount : Stmt := inClass sHouse 3
abbrev sHdoors : Stmt := inClass sHouse 4
abbrev sHnear : Stmt := inClass sHouse 5
abbrev sHhas : Stmt := inClass sHouse 6
abbrev sRoom : Stmt := topS 14
abbrev sChk : Stmt := topS 15
/-- what the walk asks of the class House -/
structure Hs (K : PySem.W.Frag) (mg : Str → Option Value) (C : Addr) : Prop where
  cl : Cls K C
  nR : NoAttr K C "rooms"
  nD : NoAttr K C "_doors"
  nN : NoAttr K C "_near"
  mgC : mg "House" = some (.ref C)
  rd : ∃ mc u, ClX.CRead K C mc ∧ ClX.CVal K C mc "MOST_ROOMS" (.int 12) u
theorem for_enum {K : PySem.W.Frag} {a : Addr} {xs : List V} {g : TG} {tb : TS} {D : Ends} {σ : L2.St} {H : Hp} (Pv : Nat → L2.St → Hp → Prop) (h0 : Pv 0 σ H) (hl : ∀ i σ H, Pv i σ H → SqL K H a xs)
    (hs : ∀ (i : Nat) (x : V) (t : Addr) (σ : L2.St) (H : Hp), xs[i]? = some x → Pv i σ H → H t = none → g (.ref t) σ (upd H t (.tup [.int (i : Nat), x])) fun σ2 H2 => tb { D with nx := Pv (i + 1), ct := Pv (i + 1), bk := D.nx } σ2 H2) (hd : ∀ σ H, Pv xs.length σ H → D.nx σ H) :
    tFor (fun _ H R => R (Ite K a) H) g tb D σ H := by
  refine ⟨fun i m σ H => m = xs.length - i ∧ i ≤ xs.length ∧ Pv i σ H, ⟨xs.length, rfl, Nat.zero_le _, h0⟩, ?_⟩
  rintro i m σ H ⟨rfl, hi, p⟩
  have q := hl i σ H p
  by_cases lt : i < xs.length
  · refine .inr ⟨⟨xs, xs[i], q, List.getElem?_eq_getElem lt⟩, Pv (i + 1), fun σ' H' p' => ⟨xs.length - (i + 1), by omega, rfl, lt, p'⟩, ?_⟩
    rintro v H' ⟨t, x, rfl, nt, rfl, f⟩
    exact hs i x t σ H (f xs q) p nt
  · have e : i = xs.length := by omega
    subst e
    exact .inl ⟨⟨xs, q, Nat.le_refl _⟩, hd σ H p⟩
section
variable {P : Program} {w : World} {K : PySem.W.Frag} {mg : Str → Option Value} {base : Heap}
theorem scRoom : FnScope ["rooms"] ["rooms"] (defScope sRoom) := ⟨rfl, rfl, rfl, by decide +kernel, rfl, by decide +kernel, by decide +kernel⟩
def spRoom : Sp := fun vs H Q _ => ∃ r : Int, vs = [.int r] ∧ 1 ≤ r ∧ r ≤ 12 ∧ Q .non H
theorem ok_room {f C : Addr} {fd : FuncData} (F : Fun K "check_room_count" "check_room_count" sRoom f fd) (T : Hs K mg C) : FnOk P w K mg base CX0 1 f fd ["rooms"] spRoom := by
  refine F.ok scRoom (fun vs H Q E h => ?_) (fun cdv A outer s H vs Q E hr h => ?_)
  · obtain ⟨r, rfl, _⟩ := h
    rfl
  · obtain ⟨r, rfl, h1, h2, q⟩ := h
    refine ⟨_, (pss_one (ps_if (pt_not (pt_chain op_le op_le pe_int (pv 0) (ClX.pe_cval (pe_glob (v := .ref C) (by rfl) T.mgC rfl))))
      (pss_one (ps_never))
      pss_nil)), ?_⟩
    obtain ⟨mc, u, c1, c2⟩ := T.rd
    walk_at "rd"
    rw [if_pos h1]
    refine ⟨C, mc, .int 12, u, rfl, c1, c2, 12, rfl, ?_⟩
    rw [decide_eq_true h2]
    exact iteF q
theorem scChk : FnScope ["rooms", "doors", "seen", "place", "a", "b"] ["rooms", "doors"] (defScope sChk) := ⟨rfl, rfl, rfl, by decide +kernel, rfl, by decide +kernel, by decide +kernel⟩
def two (d : Pr) : List Int := [d.1, d.2]
theorem psO_ne {P : Program} {w : World} {a : Addr} {L : List (Addr × List Int)} {xs : List V} : PsO P w a L ≠ .tup xs := fun h => by
  unfold PsO at h
  cases h
theorem two_inj {d e : Pr} (h : two d = two e) : d = e := by
  unfold two at h
  obtain ⟨h1, h2⟩ := List.cons.inj h
  exact Prod.ext h1 (List.cons.inj h2).1
theorem not_taken {D : List Pr} (nd : D.Nodup) {i : Nat} {d : Pr} (g : D[i]? = some d) : d ∉ D.take i := fun z => by
  obtain ⟨j, gj⟩ := List.getElem?_of_mem z
  have lt : j < (D.take i).length := (List.getElem?_eq_some_iff.mp gj).1
  rw [List.length_take] at lt
  rw [List.getElem?_take_of_lt (by omega)] at gj
  have := nd_ix nd gj g
  omega
def spChk : Sp := fun vs H Q _ => ∃ (r : Nat) (l : Addr) (us : List V) (D : List Pr), vs = [.int r, .ref l] ∧ H l = some (.lst us) ∧ PL H us D ∧ D.Nodup ∧ (∀ d ∈ D, 0 ≤ d.1 ∧ d.1 < d.2 ∧ d.2 < r) ∧ r ≤ 12 ∧
  ∀ D' ws p H', Asc D' → (∀ d, d ∈ D' ↔ d ∈ D) → Same H H' → H p = none → H' p = some (.lst ws) → PL H' ws D' → Q (.ref p) H'
theorem ok_chk {f : Addr} {fd : FuncData} (F : Fun K "checked_doors" "checked_doors" sChk f fd) (T : Bi mg) : FnOk P w K mg base CX0 1 f fd ["rooms", "doors"] spChk := by
  refine F.ok scChk (fun vs H Q E h => ?_) (fun cdv A outer s H vs Q E hr h => ?_)
  · obtain ⟨r, l, us, D, rfl, _⟩ := h
    rfl
  · obtain ⟨r, l, us, D, rfl, hl, pl, nd, ok, hr12, q⟩ := h
    refine ⟨_, (pss_cons (ps_set (i := 2) scChk.nd rfl (Or.inl rfl) (pe_callTy0 cr_ps0 (by rfl) T.set (by decide +kernel)))
      (pss_cons (ps_for PassesOwn.never rfl (pi_enum (by rfl) T.enumerate (pa_cons (pv 1) pa_nil)) (pg_tup rfl (pgs_cons (pg_name (i := 3) scChk.nd rfl (Or.inl rfl)) (pgs_cons (pg_tup rfl (pgs_cons (pg_name (i := 4) scChk.nd rfl (Or.inl rfl)) (pgs_cons (pg_name (i := 5) scChk.nd rfl (Or.inl rfl)) pgs_nil))) pgs_nil)))
      (pss_cons (ps_if (PW.pt (pw_or (pt_not (PW.pt (pw_and (pt_chain op_le op_lt pe_int (pv 4) (pv 0)) (pw_and1 (pt_chain op_le op_lt pe_int (pv 5) (pv 0)))))) (pw_or (pt_cmpR op_eqI (pv 4) (pv 5) (nomark _)) (pw_or1 (pt_cmpR (op_psIn hr.units) (pe_tup (pa_cons (pv 4) (pa_cons (pv 5) pa_nil))) (pv 2) (by rfl))))))
        (pss_one (ps_never))
        pss_nil)
        (pss_one (ps_expr (pe_psAdd hr.units (pv 2) (pa_cons (pe_tup (pa_cons (pv 4) (pa_cons (pv 5) pa_nil))) pa_nil))))))
      (pss_one (ps_ret (pe_callB (cr_psSort rfl) (by rfl) T.sorted (by decide +kernel) (pa_cons (pv 2) pa_nil)))))), ?_⟩
    walk_at "rd"
    refine ⟨rfl, fun p np => ?_⟩
    obtain ⟨Pv, hPv⟩ : ∃ Pv : Nat → L2.St → Hp → Prop, Pv = (fun i σ H' => ∃ (L : List (Addr × List Int)) (v3 v4 v5 : Option V), σ = [some (.int r), some (.ref l), some (.ref p), v3, v4, v5] ∧ Same H H' ∧ H' p = some (PsO P w p L) ∧ (∀ q ∈ L, H' q.1 = some (.tup (q.2.map V.int))) ∧ List.Perm (L.map (·.2)) ((D.take i).map two)) := ⟨_, rfl⟩
    have hul : us.length = D.length := pl.len
    have dlen := drs_len' hr12 nd ok
    refine ⟨_, rfl, l, us, rfl, SqL.of (same_upd np l _ hl), for_enum (xs := us) Pv (by rw [hPv]; exact ⟨[], none, none, none, rfl, same_upd np, upd_same, fun q hq => (by cases hq), List.Perm.refl _⟩) (fun i σ H' pv => ?_) ?_ ?_⟩
    · rw [hPv] at pv
      obtain ⟨L, v3, v4, v5, _, sm, _⟩ := pv
      exact SqL.of (sm l _ hl)
    · rintro i v t σ H' gv pv nt
      have nxt : ∀ (L : List (Addr × List Int)) (v3 v4 v5 : Option V) (H' : Hp), Same H H' → H' p = some (PsO P w p L) → (∀ q ∈ L, H' q.1 = some (.tup (q.2.map V.int))) → List.Perm (L.map (·.2)) ((D.take (i + 1)).map two) → Pv (i + 1) [some (.int r), some (.ref l), some (.ref p), v3, v4, v5] H' := fun L v3 v4 v5 H' h1 h2 h3 h4 => by
        rw [hPv]
        exact ⟨L, v3, v4, v5, rfl, h1, h2, h3, h4⟩
      rw [hPv] at pv
      obtain ⟨L, v3, v4, v5, rfl, sm, hp, tp, pm⟩ := pv
      obtain ⟨d, gd, td, rfl, htd⟩ := pl.get gv
      have hid : i < D.length := (List.getElem?_eq_some_iff.mp gd).1
      have md : d ∈ D := List.mem_of_getElem? gd
      have okd := ok d md
      have hl1 := sm l _ hl
      have htd1 := sm td _ htd
      have ntd : td ≠ t := ne_of_none htd1 nt
      have htd2 : upd H' t (HO.tup [V.int i, V.ref td]) td = some (.tup [.int d.1, .int d.2]) := by rw [upd_ne ntd]; exact htd1
      walk_at "rd"
      refine ⟨[.int i, .ref td], SqT.of upd_same, rfl, .int i, [.ref td], rfl, .ref td, [], rfl, td, rfl, [.int d.1, .int d.2], SqT.of htd2, rfl, .int d.1, [.int d.2], rfl, .int d.2, [], rfl, rfl, rfl, d.1, rfl, ?_⟩
      rw [if_pos okd.1]
      refine ⟨d.1, rfl, ?_⟩
      rw [if_pos (show d.1 < (r : Int) by omega)]
      refine ⟨d.2, rfl, ?_⟩
      rw [if_pos (show 0 ≤ d.2 by omega)]
      refine ⟨d.2, rfl, ?_⟩
      rw [decide_eq_true okd.2.2]
      refine iteF ?_
      refine ⟨d.1, rfl, d.2, rfl, ?_⟩
      rw [if_neg (show ¬ d.1 = d.2 by omega)]
      refine ⟨by decide, fun t1 nt1 => ?_⟩
      have ne1 : t1 ≠ p := fun e => by
        rw [e, upd_ne (show p ≠ t from ne_of_none hp nt), hp] at nt1
        cases nt1
      have s1 : Same H' (upd (upd H' t (HO.tup [V.int i, V.ref td])) t1 (HO.tup [V.int d.1, V.int d.2])) := (same_upd nt).trans (same_upd nt1)
      have out : two d ∉ L.map (·.2) := fun z => by
        obtain ⟨e, he, ee⟩ := List.mem_map.mp (pm.mem_iff.mp z)
        rw [two_inj ee] at he
        exact not_taken nd gd he
      have lenL : L.length ≤ 66 := by
        have e := pm.length_eq
        rw [List.length_map, List.length_map, List.length_take] at e
        omega
      refine ⟨t1, two d, p, L, rfl, rfl, s1 p _ hp, fun q hq => SqT.of (s1 _ _ (tp q hq)), SqT.of upd_same, ?_⟩
      rw [decide_eq_false out]
      refine ⟨false, rfl, iteF ?_⟩
      generalize upd (upd H' t (HO.tup [V.int i, V.ref td])) t1 (HO.tup [V.int d.1, V.int d.2]) = H1 at s1
      have hp1 := s1 p _ hp
      refine ⟨_, rfl, ⟨p, L, rfl, hp1⟩, _, rfl, _, rfl, (by show 2 ≤ sizeLine; decide), fun t2 nt2 => ?_⟩
      have s2 : Same H1 (upd H1 t2 (HO.tup [V.int d.1, V.int d.2])) := same_upd nt2
      have hp2 := s2 p _ hp1
      refine ⟨t2, two d, p, L, rfl, rfl, hp2, fun q hq => SqT.of (s2 _ _ (s1 _ _ (tp q hq))), SqT.of upd_same, by omega, fun L' _ c2 => ?_⟩
      have pm2 := c2 out
      have keep : ∀ b xs, upd H1 t2 (HO.tup [V.int d.1, V.int d.2]) b = some (.tup xs) → upd (upd H1 t2 (HO.tup [V.int d.1, V.int d.2])) p (PsO P w p L') b = some (.tup xs) := fun b xs e => by
        rw [upd_ne]
        · exact e
        · rintro rfl
          rw [hp2] at e
          exact psO_ne (Option.some.inj e)
      refine nxt L' _ _ _ _ (same_ch ((sm.trans s1).trans s2) np) upd_same (fun q hq => ?_) ?_
      · refine keep _ _ ?_
        rcases List.mem_cons.mp (pm2.mem_iff.mp hq) with e | hq2
        · rw [e]
          exact upd_same
        · exact s2 _ _ (s1 _ _ (tp q hq2))
      · refine (pm2.map (·.2)).trans ?_
        rw [List.map_cons, List.take_add_one, gd, List.map_append]
        exact (List.Perm.cons _ pm).trans (List.perm_append_singleton _ _).symm
    · intro σ H' pv
      rw [hPv] at pv
      obtain ⟨L, v3, v4, v5, rfl, sm, hp, tp, pm⟩ := pv
      rw [hul, List.take_length] at pm
      have shape : ∀ q ∈ L, ∃ d ∈ D, q.2 = two d := fun q hq => by
        obtain ⟨d, hd, e⟩ := List.mem_map.mp (pm.mem_iff.mp (List.mem_map.mpr ⟨q, hq, rfl⟩))
        exact ⟨d, hd, e.symm⟩
      have lenL : L.length = D.length := by
        have e := pm.length_eq
        rw [List.length_map, List.length_map] at e
        exact e
      walk_at "rd"
      refine ⟨p, L, rfl, hp, fun q hq => SqT.of (tp q hq), fun q hq => ?_, by omega, fun L' t p1 n1 w1 nt => ?_⟩
      · obtain ⟨d, _, e⟩ := shape q hq
        exact ⟨d.1, d.2, e⟩
      · have hl' : ∀ q ∈ L', pr2 q.2 ∈ D ∧ H' q.1 = some (.tup [.int (pr2 q.2).1, .int (pr2 q.2).2]) := fun q hq => by
          have hq2 := p1.mem_iff.mp hq
          obtain ⟨d, hd, e⟩ := shape q hq2
          have e2 := tp q hq2
          rw [e] at e2 ⊢
          exact ⟨hd, e2⟩
        have back : ∀ q ∈ L', two (pr2 q.2) = q.2 := fun q hq => by
          obtain ⟨d, hd, e⟩ := shape q (p1.mem_iff.mp hq)
          rw [e]
          rfl
        refine q (L'.map fun q => pr2 q.2) (L'.map fun q => V.ref q.1) t _ (asc_of ?_ ?_) (fun d => ?_) (sm.trans (same_upd nt)) (sm.free nt) upd_same ?_
        · refine List.pairwise_map.mpr (List.Pairwise.imp_of_mem (fun {x y} hx hy hne e => hne ?_) (List.pairwise_map.mp n1))
          rw [← back x hx, ← back y hy, e]
        · exact List.pairwise_map.mpr w1
        · constructor
          · intro hd
            obtain ⟨q, hq, rfl⟩ := List.mem_map.mp hd
            exact (hl' q hq).1
          · intro hd
            have m1 : two d ∈ L.map (·.2) := pm.mem_iff.mpr (List.mem_map.mpr ⟨d, hd, rfl⟩)
            obtain ⟨q, hq, e⟩ := List.mem_map.mp m1
            refine List.mem_map.mpr ⟨q, p1.mem_iff.mpr hq, ?_⟩
            rw [e]
            rfl
        · have all : ∀ M : List (Addr × List Int), (∀ q ∈ M, H' q.1 = some (.tup [.int (pr2 q.2).1, .int (pr2 q.2).2])) → PL H' (M.map fun q => V.ref q.1) (M.map fun q => pr2 q.2) := by
            intro M
            induction M with
            | nil => intro _; exact Paired.nil
            | cons q M ih => intro h; exact Paired.cons ⟨q.1, rfl, h q List.mem_cons_self⟩ (ih fun z hz => h z (List.mem_cons_of_mem _ hz))
          exact (all L' fun q hq => (hl' q hq).2).kt (KT.new nt)
end

/-! ### the house as an object -/
def hf (r : Int) (l m : Addr) : List (Str × V) := putF "_near" (.ref m) (putF "_doors" (.ref l) (putF "rooms" (.int r) []))
theorem hn1 : ¬ (("rooms" : Str) = "_doors") := by decide +kernel
theorem hn2 : ¬ (("rooms" : Str) = "_near") := by decide +kernel
theorem hn3 : ¬ (("_doors" : Str) = "_near") := by decide +kernel
theorem hf_rooms (r : Int) (l m : Addr) : (hf r l m).lookup ("rooms" : Str) = some (.int r) := by
  unfold hf
  rw [lookup_putF, if_neg hn2, lookup_putF, if_neg hn1, lookup_putF, if_pos rfl]
theorem hf_doors (r : Int) (l m : Addr) : (hf r l m).lookup ("_doors" : Str) = some (.ref l) := by
  unfold hf
  rw [lookup_putF, if_neg hn3, lookup_putF, if_pos rfl]
theorem hf_near (r : Int) (l m : Addr) : (hf r l m).lookup ("_near" : Str) = some (.ref m) := by
  unfold hf
  rw [lookup_putF, if_pos rfl]
theorem hf_no (r : Int) (l m : Addr) {x : Str} (h1 : ¬ x = "_near") (h2 : ¬ x = "_doors") (h3 : ¬ x = "rooms") : (hf r l m).lookup x = none := by
  unfold hf
  rw [lookup_putF, if_neg h1, lookup_putF, if_neg h2, lookup_putF, if_neg h3]
  rfl
/-- the neighbours of room i by the doors D, in the order in which they are met -/
def nearF (i : Int) (D : List Pr) : List Int := D.filterMap fun d => if d.1 = i then some d.2 else if d.2 = i then some d.1 else none
/-- a house with these rooms and doors stands at p -/
structure HouseAt (C : Addr) (H : Hp) (p : Addr) (r : Nat) (D : List Pr) (own : List Addr) : Prop where
  ex : ∃ (dx l m : Addr) (ls : List V) (ns : List Addr), H p = some (.ins C dx (hf r l m)) ∧ H l = some (.lst ls) ∧ PL H ls D ∧ H m = some (.lst (ns.map V.ref)) ∧ ns.length = r ∧ (∀ i n, ns[i]? = some n → H n = some (.lst ((nearF (i : Nat) D).map V.int))) ∧ own = p :: l :: m :: ns
  ok : Drs r D
  r1 : 1 ≤ r
  r12 : r ≤ 12
theorem nearF_snoc (j : Int) (D : List Pr) (d : Pr) : nearF j (D ++ [d]) = nearF j D ++ (if d.1 = j then [d.2] else if d.2 = j then [d.1] else []) := by
  unfold nearF
  rw [List.filterMap_append]
  congr 1
  show List.filterMap _ [d] = _
  rw [List.filterMap_cons]
  by_cases h1 : d.1 = j
  · simp [h1]
  · by_cases h2 : d.2 = j
    · simp [h1, h2]
    · simp [h1, h2]
def mm2 (d : Pr) : Pr := (if d.2 < d.1 then d.2 else d.1, if d.2 > d.1 then d.2 else d.1)
section
variable {P : Program} {w : World} {K : PySem.W.Frag} {mg : Str → Option Value} {base : Heap}
theorem scHinit : FnScope ["self", "rooms", "doors", "a", "b", "_"] ["self", "rooms", "doors"] (defScope sHinit) := ⟨rfl, rfl, rfl, by decide +kernel, rfl, by decide +kernel, by decide +kernel⟩
def spHinit (C : Addr) : Sp := fun vs H Q _ => ∃ (p dx l : Addr) (r : Nat) (us : List V) (D E : List Pr), vs = [.ref p, .int r, .ref l] ∧ H p = some (.ins C dx []) ∧ H l = some (.lst us) ∧ PL H us D ∧ D.map mm2 = E ∧ E.Nodup ∧ (∀ d ∈ E, 0 ≤ d.1 ∧ d.1 < d.2 ∧ d.2 < r) ∧ 1 ≤ r ∧ r ≤ 12 ∧
  ∀ D' own H', (∀ d, d ∈ D' ↔ d ∈ E) → HouseAt C H' p r D' own → (∀ b o, H b = some o → b ≠ p → H' b = some o) → (∀ b ∈ own, b ≠ p → H b = none) → Q .non H'
theorem ok_hinit {f C fR fC : Addr} {fd fdR fdC : FuncData} (F : Fun K "__init__" "House.__init__" sHinit f fd) (T : Bi mg) (U : Hs K mg C) (d_check_room_count : Df P w K mg base "check_room_count" ["rooms"] 1 spRoom fR fdR)
    (d_checked_doors : Df P w K mg base "checked_doors" ["rooms", "doors"] 1 spChk fC fdC) : FnOk P w K mg base CX0 2 f fd ["self", "rooms", "doors"] (spHinit C) := by
  refine F.ok scHinit (fun vs H Q E h => ?_) (fun cdv A outer s H vs Q E hr h => ?_)
  · obtain ⟨p, dx, l, r, us, D, E, rfl, _⟩ := h
    rfl
  · obtain ⟨p, dx, l, r, us, D, E, rfl, hp, hl, pl, eE, nd, ok, hr1, hr12, q⟩ := h
    refine ⟨_, (pss_cons (ps_expr (pe_call d_check_room_count.ok (hr.mono (by decide)) (by rfl) d_check_room_count.at_ d_check_room_count.kp d_check_room_count.b .nil pass0 (pa_cons (pv 1) pa_nil)))
      (pss_cons (ps_fld (pv 0) (pv 1) rfl)
      (pss_cons (ps_fld (pv 0) (pe_call d_checked_doors.ok (hr.mono (by decide)) (by rfl) d_checked_doors.at_ d_checked_doors.kp d_checked_doors.b .nil pass0 (pa_cons (pv 1) (pa_cons (pe_lc (own := [("a", 3), ("b", 4)]) (g := gTup K 2 (gCons (gName 3) (gCons (gName 4) gNil))) (by rfl) scHinit.nd (pi_list (pv 2)) (blkOk_by (N := ["self", "rooms", "doors", "a", "b", "_"]) (sc := defScope sHinit) (by decide +kernel)) (fun _ _ _ _ _ => pg_tup rfl (pgs_cons (pg_name (i := 3) scHinit.nd rfl (Or.inl rfl)) (pgs_cons (pg_name (i := 4) scHinit.nd rfl (Or.inl rfl)) pgs_nil))) (fun _ _ _ _ _ => pts_nil) (fun _ _ _ _ _ => (pe_tup (pa_cons (pe_callB (call_min2 rfl) (by rfl) T.min (by decide +kernel) (pa_cons (pv 3) (pa_cons (pv 4) pa_nil))) (pa_cons (pe_callB (call_max2 rfl) (by rfl) T.max (by decide +kernel) (pa_cons (pv 3) (pa_cons (pv 4) pa_nil))) pa_nil))))) pa_nil))) rfl)
      (pss_cons (ps_fld (pv 0) (pe_lc (own := [("_", 5)]) (by rfl) scHinit.nd (pi_range1 (by rfl) T.range (pa_cons (pv 1) pa_nil)) (blkOk_by (N := ["self", "rooms", "doors", "a", "b", "_"]) (sc := defScope sHinit) (by decide +kernel)) (fun _ _ _ _ _ => pg_name (i := 5) scHinit.nd rfl (Or.inl rfl)) (fun _ _ _ _ _ => pts_nil) (fun _ _ _ _ _ => (pe_lst pa_nil))) rfl)
      (pss_one (ps_for PassesOwn.never rfl (pi_list (pe_fld (pv 0) rfl)) (pg_tup rfl (pgs_cons (pg_name (i := 3) scHinit.nd rfl (Or.inl rfl)) (pgs_cons (pg_name (i := 4) scHinit.nd rfl (Or.inl rfl)) pgs_nil)))
      (pss_cons (ps_expr (pe_bm PySem.F.plainAttrs_list PySem.F.slot_list_append PySem.F.type_list_append mt_append (pe_ix ix_list (pe_fld (pv 0) rfl) (pv 3) (fun _ _ => rfl)) (pa_cons (pv 4) pa_nil)))
        (pss_one (ps_expr (pe_bm PySem.F.plainAttrs_list PySem.F.slot_list_append PySem.F.type_list_append mt_append (pe_ix ix_list (pe_fld (pv 0) rfl) (pv 4) (fun _ _ => rfl)) (pa_cons (pv 3) pa_nil))))))))))), ?_⟩
    walk_at "rd"
    refine ⟨r, rfl, by omega, by omega, ?_⟩
    have npl : l ≠ p := ne_of hl hp (by intro z; cases z)
    refine ⟨C, dx, [], hp, U.cl, U.nR, (by show 0 < 1000; decide), ?_⟩
    have hl1 : upd H p (HO.ins C dx (putF "rooms" (V.int r) [])) l = some (.lst us) := by rw [upd_ne npl]; exact hl
    have pl1 : PL (upd H p (HO.ins C dx (putF "rooms" (V.int r) []))) us D := pl.kt (KT.ch hp (fun _ z => by cases z))
    have hp1 : upd H p (HO.ins C dx (putF "rooms" (V.int r) [])) p = some (HO.ins C dx (putF "rooms" (V.int r) [])) := upd_same
    have old1 : ∀ b o, H b = some o → b ≠ p → upd H p (HO.ins C dx (putF "rooms" (V.int r) [])) b = some o := fun b o e h => by rw [upd_ne h]; exact e
    have free1 : ∀ b, upd H p (HO.ins C dx (putF "rooms" (V.int r) [])) b = none → H b = none ∧ b ≠ p := fun b e => by
      have h : b ≠ p := fun z => by
        rw [z, upd_same] at e
        cases e
      rw [upd_ne h] at e
      exact ⟨e, h⟩
    generalize upd H p (HO.ins C dx (putF "rooms" (V.int r) [])) = H1 at hl1 pl1 hp1 old1 free1
    have dlen : D.length ≤ 66 := by
      have e := drs_len' hr12 nd ok
      rw [← eE, List.length_map] at e
      exact e
    have ul : us.length = D.length := pl.len
    -- [(min(a, b), max(a, b)) for a, b in doors]
    refine ⟨_, rfl, l, rfl, ⟨_, SqL.of hl1⟩, fun c nc => ?_⟩
    obtain ⟨Pv, hPv⟩ : ∃ Pv : Nat → Hp → Prop, Pv = (fun i H' => ∃ ws, Same H1 H' ∧ H' c = some (.lst ws) ∧ PL H' ws ((D.take i).map mm2)) := ⟨_, rfl⟩
    refine lc_list (K := K) (a := l) (xs := us) Pv (by rw [hPv]; exact ⟨[], same_upd nc, upd_same, PL.nil0 _⟩) (fun i H' _ pv => by rw [hPv] at pv; obtain ⟨_, sm, _⟩ := pv; exact SqL.of (sm _ _ hl1)) (fun i v H' gv pv => ?_) (fun H' pv => ?_)
    · have nxt : ∀ ws H', Same H1 H' → H' c = some (.lst ws) → PL H' ws ((D.take (i + 1)).map mm2) → Pv (i + 1) H' := fun ws H' h1 h2 h3 => by
        rw [hPv]
        exact ⟨ws, h1, h2, h3⟩
      rw [hPv] at pv
      obtain ⟨ws, sm, hc, pw⟩ := pv
      obtain ⟨d, gd, td, rfl, htd⟩ := pl1.get gv
      have hid : i < D.length := (List.getElem?_eq_some_iff.mp gd).1
      have htd1 := sm _ _ htd
      have lw : ws.length ≤ 66 := by
        rw [pw.len, List.length_map, List.length_take]
        omega
      simp only [wipe]
      walk_at "rd"
      refine ⟨_, SqT.of htd1, rfl, _, _, rfl, _, _, rfl, rfl, ?_⟩
      walk_at "rd"
      refine ⟨(by show 2 ≤ sizeLine; decide), fun t nt => ?_⟩
      have nct : c ≠ t := ne_of_none hc nt
      refine ⟨ws, by rw [upd_ne nct]; exact hc, len_big (by omega), nxt (ws ++ [.ref t]) _ (same_ch (sm.trans (same_upd nt)) nc) upd_same ?_⟩
      rw [List.take_add_one, gd, List.map_append]
      refine PL.snoc ((pw.kt (KT.new nt)).kt (KT.lst (by rw [upd_ne nct]; exact hc))) ⟨t, rfl, ?_⟩
      rw [upd_ne nct.symm, upd_same]
      rfl
    · rw [hPv] at pv
      obtain ⟨ws, s2, hc, pw⟩ := pv
      rw [ul, List.take_length, eE] at pw
      -- checked_doors
      refine ⟨r, c, ws, E, rfl, hc, pw, nd, ok, hr12, fun D' ls q0 H2 asc mem s3 nq hq pq => ?_⟩
      have s13 : Same H1 H2 := s2.trans s3
      have hp2 := s13 _ _ hp1
      have nqp : q0 ≠ p := ne_of hq hp2 (by intro z; cases z)
      refine ⟨C, dx, _, hp2, U.cl, U.nD, (by show 1 < 1000; decide), ?_⟩
      have hq3 : upd H2 p (HO.ins C dx (putF "_doors" (V.ref q0) (putF "rooms" (V.int r) []))) q0 = some (.lst ls) := by rw [upd_ne nqp]; exact hq
      have hp3 : upd H2 p (HO.ins C dx (putF "_doors" (V.ref q0) (putF "rooms" (V.int r) []))) p = some (HO.ins C dx (putF "_doors" (V.ref q0) (putF "rooms" (V.int r) []))) := upd_same
      have pq3 : PL (upd H2 p (HO.ins C dx (putF "_doors" (V.ref q0) (putF "rooms" (V.int r) [])))) ls D' := pq.kt (KT.ch hp2 (fun _ z => by cases z))
      have old3 : ∀ b o, H b = some o → b ≠ p → upd H2 p (HO.ins C dx (putF "_doors" (V.ref q0) (putF "rooms" (V.int r) []))) b = some o := fun b o e h => by
        rw [upd_ne h]
        exact s13 _ _ (old1 b o e h)
      have free3 : ∀ b, upd H2 p (HO.ins C dx (putF "_doors" (V.ref q0) (putF "rooms" (V.int r) []))) b = none → H b = none ∧ b ≠ p := fun b e => by
        have h : b ≠ p := fun z => by
          rw [z, upd_same] at e
          cases e
        rw [upd_ne h] at e
        exact free1 b (s13.free e)
      have fq : H q0 = none := (free1 q0 (s2.free nq)).1
      generalize upd H2 p (HO.ins C dx (putF "_doors" (V.ref q0) (putF "rooms" (V.int r) []))) = H3 at hq3 hp3 pq3 old3 free3
      -- [[] for _ in range(rooms)]
      refine ⟨_, rfl, r, rfl, by omega, by omega, fun m nm => ?_⟩
      obtain ⟨Pv, hPv⟩ : ∃ Pv : Nat → Hp → Prop, Pv = (fun i H' => ∃ ns : List Addr, Same H3 H' ∧ H' m = some (.lst (ns.map V.ref)) ∧ ns.length = i ∧ ns.Nodup ∧ (∀ n ∈ ns, H' n = some (.lst []) ∧ H3 n = none ∧ n ≠ m)) := ⟨_, rfl⟩
      refine lc_range (lo := 0) (n := ((r : Nat) : Int).toNat) Pv (by rw [hPv]; exact ⟨[], same_upd nm, upd_same, rfl, List.nodup_nil, fun n hn => by cases hn⟩) (fun i H' hi pv => ?_) (fun H' pv => ?_)
      · have nxt : ∀ (ns : List Addr) H', Same H3 H' → H' m = some (.lst (ns.map V.ref)) → ns.length = i + 1 → ns.Nodup → (∀ n ∈ ns, H' n = some (.lst []) ∧ H3 n = none ∧ n ≠ m) → Pv (i + 1) H' := fun ns H' h1 h2 h3 h4 h5 => by
          rw [hPv]
          exact ⟨ns, h1, h2, h3, h4, h5⟩
        rw [hPv] at pv
        obtain ⟨ns, sm, hm, ln, nn, hn⟩ := pv
        simp only [wipe]
        walk_at "rd"
        refine ⟨by decide, fun e ne => ?_⟩
        have nem : m ≠ e := ne_of_none hm ne
        refine ⟨ns.map V.ref, by rw [upd_ne nem]; exact hm, len_big (by rw [List.length_map]; omega), nxt (ns ++ [e]) _ (same_ch (sm.trans (same_upd ne)) nm) (by rw [upd_same, List.map_append]; rfl) (by rw [List.length_append, ln]; rfl) ?_ fun n hn2 => ?_⟩
        · refine List.nodup_append.mpr ⟨nn, by simp, fun a ha b hb => ?_⟩
          rw [List.mem_singleton.mp hb]
          exact ne_of_none (hn a ha).1 ne
        · rcases List.mem_append.mp hn2 with h | h
          · obtain ⟨h1, h2, h3⟩ := hn n h
            refine ⟨?_, h2, h3⟩
            rw [upd_ne h3, upd_ne (ne_of_none h1 ne)]
            exact h1
          · rw [List.mem_singleton.mp h]
            refine ⟨?_, sm.free ne, nem.symm⟩
            rw [upd_ne nem.symm, upd_same]
      · rw [hPv] at pv
        obtain ⟨ns, s4, hm, ln, nn, hn⟩ := pv
        have hp4 := s4 _ _ hp3
        have nmp : m ≠ p := (ne_of_none hp3 nm).symm
        refine ⟨C, dx, _, hp4, U.cl, U.nN, (by show 2 < 1000; decide), ?_⟩
        have ehf : putF "_near" (V.ref m) (putF "_doors" (V.ref q0) (putF "rooms" (V.int r) [])) = hf r q0 m := rfl
        rw [ehf]
        have npn : ∀ n ∈ ns, n ≠ p := fun n h => (ne_of_none hp3 (hn n h).2.1).symm
        have nqn : ∀ n ∈ ns, n ≠ q0 := fun n h => (ne_of_none hq3 (hn n h).2.1).symm
        have hp5 : upd H' p (HO.ins C dx (hf r q0 m)) p = some (HO.ins C dx (hf r q0 m)) := upd_same
        have hq5 : upd H' p (HO.ins C dx (hf r q0 m)) q0 = some (.lst ls) := by rw [upd_ne nqp]; exact s4 _ _ hq3
        have hm5 : upd H' p (HO.ins C dx (hf r q0 m)) m = some (.lst (ns.map V.ref)) := by rw [upd_ne nmp]; exact hm
        have hn5 : ∀ n ∈ ns, upd H' p (HO.ins C dx (hf r q0 m)) n = some (.lst []) := fun n h => by rw [upd_ne (npn n h)]; exact (hn n h).1
        have pq5 : PL (upd H' p (HO.ins C dx (hf r q0 m))) ls D' := (pq3.kt (KT.same s4)).kt (KT.ch hp4 (fun _ z => by cases z))
        have old5 : ∀ b o, H b = some o → b ≠ p → upd H' p (HO.ins C dx (hf r q0 m)) b = some o := fun b o e h => by
          rw [upd_ne h]
          exact s4 _ _ (old3 b o e h)
        have fm : H m = none := (free3 m nm).1
        have fn : ∀ n ∈ ns, H n = none := fun n h => (free3 n (hn n h).2.1).1
        have nmn : ∀ n ∈ ns, n ≠ m := fun n h => (hn n h).2.2
        generalize upd H' p (HO.ins C dx (hf r q0 m)) = H5 at hp5 hq5 hm5 hn5 pq5 old5
        have drs : Drs r D' := ⟨asc, fun d hd => ok d ((mem d).mp hd)⟩
        have dl : D'.length ≤ 66 := drs.len hr12
        have ll : ls.length = D'.length := pq.len
        -- the rooms' neighbours
        obtain ⟨Pw, hPw⟩ : ∃ Pw : Nat → L2.St → Hp → Prop, Pw = (fun i σ H' => ∃ v3 v4 : Option V, σ = [some (.ref p), some (.int r), some (.ref l), v3, v4, none] ∧ (∀ b o, H5 b = some o → b ∉ ns → H' b = some o) ∧ (∀ (j : Nat) n, ns[j]? = some n → H' n = some (.lst ((nearF (j : Nat) (D'.take i)).map V.int)))) := ⟨_, rfl⟩
        refine ⟨_, rfl, p, C, dx, _, .ref q0, rfl, hp5, U.cl, U.nD, hf_doors _ _ _, q0, rfl, ⟨_, SqL.of hq5⟩, for_list (K := K) (a := q0) (xs := ls) Pw (by rw [hPw]; exact ⟨none, none, rfl, fun b o e _ => e, fun j n g => hn5 n (List.mem_of_getElem? g)⟩) (fun i σ H' _ pv => ?_) (fun i v σ H' gv pv => ?_) (fun σ H' pv => ?_)⟩
        · rw [hPw] at pv
          obtain ⟨_, _, _, k1, _⟩ := pv
          exact SqL.of (k1 _ _ hq5 fun z => nqn _ z rfl)
        · have nxt : ∀ v3 v4 H', (∀ b o, H5 b = some o → b ∉ ns → H' b = some o) → (∀ (j : Nat) n, ns[j]? = some n → H' n = some (.lst ((nearF (j : Nat) (D'.take (i + 1))).map V.int))) → Pw (i + 1) [some (.ref p), some (.int r), some (.ref l), v3, v4, none] H' := fun v3 v4 H' h1 h2 => by
            rw [hPw]
            exact ⟨v3, v4, rfl, h1, h2⟩
          rw [hPw] at pv
          obtain ⟨v3, v4, rfl, k1, k2⟩ := pv
          obtain ⟨d, gd, td, rfl, htd⟩ := pq5.get gv
          have okd := drs.ok d (List.mem_of_getElem? gd)
          have htd1 : H' td = some (.tup [.int d.1, .int d.2]) := k1 _ _ htd fun z => by
            have e := hn5 td z
            rw [htd] at e
            cases e
          obtain ⟨ja, eja⟩ : ∃ ja : Nat, d.1 = ja := ⟨d.1.toNat, by omega⟩
          obtain ⟨jb, ejb⟩ : ∃ jb : Nat, d.2 = jb := ⟨d.2.toNat, by omega⟩
          obtain ⟨na, gna⟩ : ∃ n, ns[ja]? = some n := ⟨_, List.getElem?_eq_getElem (by omega)⟩
          obtain ⟨nb, gnb⟩ : ∃ n, ns[jb]? = some n := ⟨_, List.getElem?_eq_getElem (by omega)⟩
          have nab : na ≠ nb := fun z => by
            rw [← z] at gnb
            have := nd_ix nn gna gnb
            omega
          have mna := List.mem_of_getElem? gna
          have mnb := List.mem_of_getElem? gnb
          have hp6 := k1 _ _ hp5 fun z => npn _ z rfl
          have hm6 := k1 _ _ hm5 fun z => nmn _ z rfl
          have short : ∀ j : Int, (nearF j (D'.take i)).length ≤ 66 := fun j => by
            have := List.length_filterMap_le (fun d : Pr => if d.1 = j then some d.2 else if d.2 = j then some d.1 else none) (D'.take i)
            rw [List.length_take] at this
            show (List.filterMap _ _).length ≤ 66
            omega
          have ga := k2 ja na gna
          have gb := k2 jb nb gnb
          walk_at "rd"
          refine ⟨_, SqT.of htd1, rfl, _, _, rfl, _, _, rfl, rfl, ?_⟩
          walk_at "rd"
          have npa : p ≠ na := fun z => npn na mna z.symm
          have nma : m ≠ na := fun z => nmn na mna z.symm
          have big : ∀ j : Int, ((nearF j (D'.take i)).map V.int).length < sizeLine := fun j => len_big (by rw [List.length_map]; have := short j; omega)
          refine ⟨C, dx, _, hp6, U.cl, U.nN, .ref m, hf_near _ _ _, m, rfl, _, SqL.of hm6, .ref na, at_of (j := ja) eja (by rw [List.getElem?_map, gna]; rfl), .inl ⟨rfl, _, SqL.of ga⟩, na, rfl, _, ga, big _, ?_⟩
          refine ⟨C, dx, _, by rw [upd_ne npa]; exact hp6, U.cl, U.nN, .ref m, hf_near _ _ _, m, rfl, _, SqL.of (by rw [upd_ne nma]; exact hm6), .ref nb, at_of (j := jb) ejb (by rw [List.getElem?_map, gnb]; rfl), ?_⟩
          have gb2 : upd H' na (HO.lst ((nearF (ja : Nat) (D'.take i)).map V.int ++ [V.int d.2])) nb = some (.lst ((nearF (jb : Nat) (D'.take i)).map V.int)) := by rw [upd_ne nab.symm]; exact gb
          refine ⟨.inl ⟨rfl, _, SqL.of gb2⟩, nb, rfl, _, gb2, big _, ?_⟩
          refine nxt _ _ _ (fun b o e h => ?_) (fun j n gn => ?_)
          · rw [upd_ne (show b ≠ nb from fun z => h (by rw [z]; exact mnb)), upd_ne (show b ≠ na from fun z => h (by rw [z]; exact mna))]
            exact k1 b o e h
          · rw [List.take_add_one, gd]
            show _ = some (HO.lst ((nearF (j : Nat) (D'.take i ++ [d])).map V.int))
            rw [nearF_snoc]
            by_cases e1 : n = nb
            · subst e1
              have ej := nd_ix nn gn gnb
              subst ej
              rw [upd_same, if_neg (by omega), if_pos ejb, List.map_append, eja]
              rfl
            · rw [upd_ne e1]
              by_cases e2 : n = na
              · subst e2
                have ej := nd_ix nn gn gna
                subst ej
                rw [upd_same, if_pos eja, List.map_append]
                rfl
              · have j1 : ¬ d.1 = (j : Int) := fun z => e2 (by
                  have ej : j = ja := by omega
                  rw [ej, gna] at gn
                  exact (Option.some.inj gn).symm)
                have j2 : ¬ d.2 = (j : Int) := fun z => e1 (by
                  have ej : j = jb := by omega
                  rw [ej, gnb] at gn
                  exact (Option.some.inj gn).symm)
                rw [upd_ne e2, if_neg j1, if_neg j2, List.append_nil]
                exact k2 j n gn
        · rw [hPw] at pv
          obtain ⟨v3, v4, rfl, k1, k2⟩ := pv
          rw [ll, List.take_length] at k2
          refine q D' (p :: q0 :: m :: ns) H' mem ⟨⟨dx, q0, m, ls, ns, k1 _ _ hp5 fun z => npn _ z rfl, k1 _ _ hq5 fun z => nqn _ z rfl, ?_, k1 _ _ hm5 fun z => nmn _ z rfl, by omega, k2, rfl⟩, drs, hr1, hr12⟩ (fun b o e h => ?_) fun b hb h => ?_
          · refine Paired.mapP pq5 fun v d ⟨t, e, ht⟩ => ⟨t, e, k1 _ _ ht fun z => ?_⟩
            have e2 := hn5 t z
            rw [ht] at e2
            cases e2
          · refine k1 _ _ (old5 b o e h) fun z => ?_
            rw [fn b z] at e
            cases e
          · rcases List.mem_cons.mp hb with z | hb
            · exact absurd z h
            · rcases List.mem_cons.mp hb with z | hb
              · rw [z]; exact fq
              · rcases List.mem_cons.mp hb with z | hb
                · rw [z]; exact fm
                · exact fn b hb
end

theorem HouseAt.keep {C : Addr} {H H' : Hp} {p : Addr} {r : Nat} {D : List Pr} {own : List Addr} (h : HouseAt C H p r D own) (k : ∀ b o, b ∈ own → H b = some o → H' b = some o) (kt : KT H H') : HouseAt C H' p r D own := by
  obtain ⟨dx, l, m, ls, ns, h1, h2, h3, h4, h5, h6, rfl⟩ := h.ex
  refine ⟨⟨dx, l, m, ls, ns, k _ _ List.mem_cons_self h1, k _ _ (by simp) h2, h3.kt kt, k _ _ (by simp) h4, h5, fun i n g => k _ _ (by have := List.mem_of_getElem? g; simp [this]) (h6 i n g), rfl⟩, h.ok, h.r1, h.r12⟩
theorem HouseAt.same {C : Addr} {H H' : Hp} {p : Addr} {r : Nat} {D : List Pr} {own : List Addr} (h : HouseAt C H p r D own) (s : Same H H') : HouseAt C H' p r D own := h.keep (fun b o _ e => s b o e) (KT.same s)
theorem HouseAt.stands {C : Addr} {H : Hp} {p : Addr} {r : Nat} {D : List Pr} {own : List Addr} (h : HouseAt C H p r D own) : ∀ b ∈ own, ∃ o, H b = some o := by
  obtain ⟨dx, l, m, ls, ns, h1, h2, h3, h4, h5, h6, rfl⟩ := h.ex
  intro b hb
  rcases List.mem_cons.mp hb with z | hb
  · exact ⟨_, by rw [z]; exact h1⟩
  · rcases List.mem_cons.mp hb with z | hb
    · exact ⟨_, by rw [z]; exact h2⟩
    · rcases List.mem_cons.mp hb with z | hb
      · exact ⟨_, by rw [z]; exact h4⟩
      · obtain ⟨i, g⟩ := List.getElem?_of_mem hb
        exact ⟨_, h6 i b g⟩
section
variable {P : Program} {w : World} {K : PySem.W.Frag} {mg : Str → Option Value} {base : Heap}
theorem scHdoors : FnScope ["self"] ["self"] (defScope sHdoors) := ⟨rfl, rfl, rfl, by decide +kernel, rfl, by decide +kernel, by decide +kernel⟩
def spHdoors (C : Addr) : Sp := fun vs H Q _ => ∃ (p : Addr) (r : Nat) (D : List Pr) (own : List Addr), vs = [.ref p] ∧ HouseAt C H p r D own ∧ ∀ ls q, PL H ls D → H q = none → Q (.ref q) (upd H q (.lst ls))
theorem ok_hdoors {f C : Addr} {fd : FuncData} (F : Fun K "doors" "House.doors" sHdoors f fd) (T : Bi mg) (U : Hs K mg C) : FnOk P w K mg base CX0 1 f fd ["self"] (spHdoors C) := by
  refine F.ok scHdoors (fun vs H Q E h => ?_) (fun cdv A outer s H vs Q E hr h => ?_)
  · obtain ⟨p, r, D, own, rfl, _⟩ := h
    rfl
  · obtain ⟨p, r, D, own, rfl, hh, q⟩ := h
    obtain ⟨dx, l, m, ls, ns, h1, h2, h3, h4, h5, h6, rfl⟩ := hh.ex
    refine ⟨_, (pss_one (ps_ret (pe_callTy call_list_of (by rfl) T.list (by decide +kernel) (pa_cons (pe_fld (pv 0) rfl) pa_nil)))), ?_⟩
    walk_at "rd"
    exact ⟨C, dx, _, h1, U.cl, U.nD, .ref l, hf_doors _ _ _, l, rfl, _, .inl (SqL.of h2), fun t nt => q ls t h3 nt⟩
theorem scHnear : FnScope ["self", "room"] ["self", "room"] (defScope sHnear) := ⟨rfl, rfl, rfl, by decide +kernel, rfl, by decide +kernel, by decide +kernel⟩
def spHnear (C : Addr) : Sp := fun vs H Q _ => ∃ (p : Addr) (r : Nat) (D : List Pr) (own : List Addr) (i : Nat), vs = [.ref p, .int i] ∧ HouseAt C H p r D own ∧ i < r ∧ ∀ q, H q = none → Q (.ref q) (upd H q (.lst ((nearF (i : Nat) D).map V.int)))
theorem ok_hnear {f C : Addr} {fd : FuncData} (F : Fun K "neighbours" "House.neighbours" sHnear f fd) (T : Bi mg) (U : Hs K mg C) : FnOk P w K mg base CX0 1 f fd ["self", "room"] (spHnear C) := by
  refine F.ok scHnear (fun vs H Q E h => ?_) (fun cdv A outer s H vs Q E hr h => ?_)
  · obtain ⟨p, r, D, own, i, rfl, _⟩ := h
    rfl
  · obtain ⟨p, r, D, own, i, rfl, hh, hi, q⟩ := h
    obtain ⟨dx, l, m, ls, ns, h1, h2, h3, h4, h5, h6, rfl⟩ := hh.ex
    obtain ⟨n, gn⟩ : ∃ n, ns[i]? = some n := ⟨_, List.getElem?_eq_getElem (by omega)⟩
    refine ⟨_, (pss_one (ps_ret (pe_callTy call_list_of (by rfl) T.list (by decide +kernel) (pa_cons (pe_ix ix_list (pe_fld (pv 0) rfl) (pv 1) (fun _ _ => rfl)) pa_nil)))), ?_⟩
    walk_at "rd"
    refine ⟨C, dx, _, h1, U.cl, U.nN, .ref m, hf_near _ _ _, m, rfl, _, SqL.of h4, .ref n, atI_nat (by rw [List.getElem?_map, gn]; rfl), n, rfl, _, .inl (SqL.of (h6 i n gn)), fun t nt => q t nt⟩
end

/-! ### a bound method as a value, and its call -/
def tBnd (C : Addr) (m : Str) (g : Addr) (ta : TE) : TE := fun σ H Q => ta σ H fun x H1 => ∃ a dx fs, x = .ref a ∧ H1 a = some (.ins C dx fs) ∧ fs.lookup m = none ∧ ∀ q, H1 q = none → Q (.ref q) (upd H1 q (.met g a))
theorem pe_bnd {X : Cx} {C g : Addr} {m : Str} {e : Expr} {ta : TE} {pos : Pos} (he : PE X e ta) (c : Cls X.K C) (k : BMeth X.K C m g) (hb : attributeBase e m X.env (eval e X.env) = eval e X.env := by rfl) : PE X (.Attribute e m pos) (tBnd C m g ta) := by
  refine ⟨fun pins s σ H Q I h => ?_⟩
  refine attr_of hb (thn (he.run pins s σ H _ I h) fun u s1 ⟨x, H1, I1, rx, a, dx, fs, ex, ea, l, q⟩ => ?_)
  subst ex
  obtain rfl : u = Value.ref a := rx
  exact getbound_ok I1 ea c k l fun p s2 hp I2 => ⟨.ref p, _, I2, rfl, q p hp⟩
/-- f(e, ..), the i-th slot a bound method of the def at g -/
def tCallM (i : Nat) (g : Addr) (sp : Sp) (E : XK) (t : TA) : TE := fun σ H Q => ∃ q a, σ[i]? = some (some (.ref q)) ∧ t σ H fun vs H1 => H1 q = some (.met g a) ∧ sp (.ref a :: vs) H1 Q E
theorem pe_callM {X : Cx} {CX : CXT} {k i : Nat} {g : Addr} {sp : Sp} {E : XK} {x : Str} {p pos : Pos} {e : Expr} {es : List Expr} {t : TA} (F : FnR X.prog X.w X.K X.mg X.base CX k g sp) (hr : Room k X.A) (hN : X.N[i]? = some x) (hv : L2.Vis X.env.scope x) (hf : PySem.W.fnIn X.K g = true) (hx : Passes CX X E) (ha : PA X (e :: es) t)
    (hdb : (x == ("__debug__" : Str)) = false := by decide) (hcd : (x == ("__classdict__" : Str)) = false := by decide)
    (he : starEach (e :: es) X.env = (false, eval e X.env) :: starEach es X.env := by rfl) (hpl : (backTo pos (starEach es X.env)).any (·.1) = false := by rfl) : PE X (.Call (.Name x p) (e :: es) [] pos) (tCallM i g sp E t) := by
  refine ⟨fun pins s σ H Q I h => ?_⟩
  obtain ⟨q, a, hs, ht⟩ := h
  refine wpAny_Call_Name_kw (thn ((pe_var (pos := p) hN hv hdb hcd).run pins s σ H (fun v H1 => v = .ref q ∧ H1 = H) I ⟨.ref q, hs, rfl, rfl⟩) fun u s1 ⟨v, H1, I1, r1, q1⟩ => ?_)
  obtain ⟨rfl, rfl⟩ := q1
  cases r1
  have h2 : wpAny (model X.prog X.w) X.A (spliced (backTo pos (starEach (e :: es) X.env))) (fun us s2 => PySem.W.MethP X.K q g (.ref a) s2.heap ∧ wpAny (model X.prog X.w) X.A (call (.ref q) ([] ++ us)) (EP X pins σ Q) X.xe s2) X.xe s1 :=
    thn (ha.run pos pins s1 σ _ _ I1 ht) fun us s2 ⟨vs, H2, I2, r, hm, hsp⟩ => ⟨met_P I2 hm, wpAny_call (call_met I2 hm (run_fnR (us := Value.ref a :: us) (vs := V.ref a :: vs) F hr hx I2 (.cons rfl r) hsp))⟩
  rw [he] at h2 ⊢
  exact PySem.W.callWith_of (P := PySem.W.MethP X.K q g (.ref a)) (by show ((false || (backTo pos (starEach es X.env)).any (·.1)) || false) = false; rw [hpl]; rfl) (PySem.W.keeps_M hf) (PySem.Calls.evalArgs_plain h2)

/-! ### sorted of a tuple of ints -/
def rSortTup (K : PySem.W.Frag) : List V → Hp → VK → Prop := fun vs H Q => ∃ (a : Addr) (ns : List Int), vs = [V.ref a] ∧ (SqL K H a (ns.map V.int) ∨ SqT K H a (ns.map V.int)) ∧ ns.length < 64 ∧
  ∀ (ns' : List Int) (p : Addr), ns'.Perm ns → ns'.Pairwise (· ≤ ·) → H p = none → Q (.ref p) (upd H p (.lst (ns'.map V.int)))
theorem cr_sortTup {X : Cx} : CallR X (.builtin "sorted") (rSortTup X.K) := by
  intro pins s σ H vs us Q I r h
  obtain ⟨a, ns, rfl, hs, h64, q⟩ := h
  rcases hs with hs | hs
  · exact cr_sorted pins s σ H _ us Q I r ⟨a, ns, rfl, hs, h64, q⟩
  obtain ⟨its, rv, ⟨o, ho, hc, n, hd⟩, hz⟩ := I.tuple hs
  rw [Vals.ref1 r]
  have hi := rv.ints
  have il : its.length = ns.length := hi.length
  refine Calls.call_function_entry kind_sorted plain_sorted entry_sorted (args_sorted1 _) ?_
  unfold Builtin.«sorted»
  refine wpAny_bind (m := checkCount "sorted" 1 1 _) (wpAny_pure ?_)
  refine wpAny_bind (wpAny_collect_seq a (.inr rfl) ho hc hd (fun h' hk => ?_) (by rw [List.size_toArray, il]; exact small64 h64))
  rw [show its.toArray.toList = its by simp]
  have I1 : Inv X pins σ H { s with heap := h' } := I.kept (t' := s.toks) hk
  refine wpAny_bind (wpAny_newList ?_ (by rw [il]; exact small64 h64))
  have new : (h'.push (seqObj "list" its.toArray 0)).get? h'.objs.size = some (seqObj "list" its.toArray 0) := Heap.get?_push_size _ rfl
  refine wpAny_bind (wpAny_holding (wpAny_call_entry slot_list_sort ⟨_, new, rfl⟩ entry_list_sort (list_sort_tree (s := { s with heap := h'.push (seqObj "list" its.toArray 0) }) new hi (by rw [il]; exact h64) fun out ns' a1 a2 a3 => ⟨_, rfl, ?_⟩) (args_list_sort _)))
  obtain ⟨ep, he⟩ := sortedHeap_at (vs := its) (out := out) new
  have hlen : (ns'.map V.int).length ≤ sizeLine := by rw [List.length_map, a2.length_eq]; exact small64 h64
  refine wpAny_pure ⟨_, rfl, .ref h'.objs.size, upd H h'.objs.size (.lst (ns'.map V.int)), I1.laid (t' := s.toks) (fun b u e => ?_) (Nat.le_refl _) ⟨hlen, out.toList, ep, vals_of_ints a1, he⟩, rfl, q ns' _ a2 a3 (I1.hok.fresh (Nat.le_refl _))⟩
  have lt := Heap.lt_size e
  show (sortedHeap (h'.push (seqObj "list" its.toArray 0)) h'.objs.size its out).get? b = some u
  rw [sortedHeap_old (Nat.ne_of_lt lt) (by rw [size_push']; exact Nat.lt_succ_of_lt lt)]
  exact Heap.get?_push_of_some _ e

/-! ### pieces of a house -/
def Adj (D : List Pr) (a b : Int) : Prop := (a, b) ∈ D ∨ (b, a) ∈ D
theorem mem_nearF {D : List Pr} {a b : Int} (ok : ∀ d ∈ D, d.1 < d.2) : b ∈ nearF a D ↔ Adj D a b := by
  unfold nearF Adj
  rw [List.mem_filterMap]
  constructor
  · rintro ⟨d, hd, e⟩
    by_cases h1 : d.1 = a
    · rw [if_pos h1] at e
      have e := Option.some.inj e
      subst h1
      subst e
      exact .inl hd
    · rw [if_neg h1] at e
      by_cases h2 : d.2 = a
      · rw [if_pos h2] at e
        have e := Option.some.inj e
        subst h2
        subst e
        exact .inr hd
      · rw [if_neg h2] at e
        cases e
  · rintro (h | h)
    · exact ⟨_, h, if_pos rfl⟩
    · have := ok _ h
      refine ⟨_, h, ?_⟩
      rw [if_neg (by simp only at this ⊢; omega), if_pos rfl]
inductive Rch (D : List Pr) (R : List Int) (s : Int) : Int → Prop
  | base : s ∈ R → Rch D R s s
  | step {a b : Int} : Rch D R s a → Adj D a b → b ∈ R → Rch D R s b
theorem Rch.mem {D : List Pr} {R : List Int} {s x : Int} (h : Rch D R s x) : x ∈ R := by
  cases h with
  | base h => exact h
  | step _ _ h => exact h
theorem Rch.start {D : List Pr} {R : List Int} {s x : Int} (h : Rch D R s x) : s ∈ R := by
  induction h with
  | base h => exact h
  | step _ _ _ ih => exact ih
theorem Rch.trans {D : List Pr} {R : List Int} {s x y : Int} (h : Rch D R s x) (k : Rch D R x y) : Rch D R s y := by
  induction k with
  | base _ => exact h
  | step _ a b ih => exact ih.step a b
theorem Rch.symm {D : List Pr} {R : List Int} {s x : Int} (h : Rch D R s x) : Rch D R x s := by
  induction h with
  | base h => exact .base h
  | step k a b ih => exact Rch.trans (.step (.base b) a.symm k.mem) ih
theorem Rch.mono {D : List Pr} {R R' : List Int} {s x : Int} (h : Rch D R s x) (m : ∀ x, x ∈ R → x ∈ R') : Rch D R' s x := by
  induction h with
  | base h => exact .base (m _ h)
  | step _ a b ih => exact ih.step a (m _ b)
theorem pw_uniq {α : Type} {r : α → α → Prop} (asy : ∀ a b, r a b → r b a → False) : ∀ {D E : List α}, D.Pairwise r → E.Pairwise r → (∀ p, p ∈ D ↔ p ∈ E) → D = E
  | [], [], _, _, _ => rfl
  | [], q :: E, _, _, h => by
    have := (h q).mpr List.mem_cons_self
    cases this
  | p :: D, [], _, _, h => by
    have := (h p).mp List.mem_cons_self
    cases this
  | p :: D, q :: E, hD, hE, h => by
    obtain ⟨a1, a2⟩ := List.pairwise_cons.mp hD
    obtain ⟨b1, b2⟩ := List.pairwise_cons.mp hE
    have e : p = q := by
      rcases List.mem_cons.mp ((h p).mp List.mem_cons_self) with e | hp
      · exact e
      · rcases List.mem_cons.mp ((h q).mpr List.mem_cons_self) with e | hq
        · exact e.symm
        · exact (asy _ _ (b1 p hp) (a1 q hq)).elim
    subst e
    rw [pw_uniq asy a2 b2 fun z => ?_]
    constructor
    · intro hz
      rcases List.mem_cons.mp ((h z).mp (List.mem_cons_of_mem _ hz)) with e | m
      · subst e
        exact (asy _ _ (a1 z hz) (a1 z hz)).elim
      · exact m
    · intro hz
      rcases List.mem_cons.mp ((h z).mpr (List.mem_cons_of_mem _ hz)) with e | m
      · subst e
        exact (asy _ _ (b1 z hz) (b1 z hz)).elim
      · exact m
def Up (ys : List Int) : Prop := ys.Pairwise (· < ·)
theorem up_uniq {ys zs : List Int} (h1 : Up ys) (h2 : Up zs) (h : ∀ x, x ∈ ys ↔ x ∈ zs) : ys = zs := pw_uniq (fun a b h1 h2 => by omega) h1 h2 h
def hdI : List Int → Int
  | [] => 0
  | x :: _ => x
theorem hdI_mem {ys : List Int} {x : Int} (h : x ∈ ys) : hdI ys ∈ ys := by
  cases ys with
  | nil => cases h
  | cons y ys => exact List.mem_cons_self
theorem hdI_le {ys : List Int} {x : Int} (u : Up ys) (h : x ∈ ys) : hdI ys ≤ x := by
  cases ys with
  | nil => cases h
  | cons y ys =>
    rcases List.mem_cons.mp h with e | m
    · rw [e]; exact Int.le_refl _
    · exact Int.le_of_lt ((List.pairwise_cons.mp u).1 x m)
/-- the piece of s among the rooms R -/
def Pc (D : List Pr) (R : List Int) (s : Int) (ys : List Int) : Prop := Up ys ∧ ∀ x, x ∈ ys ↔ Rch D R s x
/-- all pieces of the rooms R, by their least rooms -/
structure Pcs (D : List Pr) (R : List Int) (P : List (List Int)) : Prop where
  pc : ∀ ys ∈ P, ∃ s ∈ R, Pc D R s ys
  cov : ∀ s ∈ R, ∃ ys ∈ P, s ∈ ys
  asc : P.Pairwise fun a b => hdI a < hdI b
theorem Pc.of {D : List Pr} {R : List Int} {s t : Int} {ys : List Int} (h : Pc D R s ys) (m : t ∈ ys) : Pc D R t ys :=
  ⟨h.1, fun x => ⟨fun hx => (((h.2 t).mp m).symm).trans ((h.2 x).mp hx), fun hx => (h.2 x).mpr (((h.2 t).mp m).trans hx)⟩⟩
theorem Pc.congr {D : List Pr} {R R' : List Int} {s : Int} {ys : List Int} (h : Pc D R s ys) (e : ∀ x, x ∈ R ↔ x ∈ R') : Pc D R' s ys :=
  ⟨h.1, fun x => (h.2 x).trans ⟨fun z => z.mono fun x => (e x).mp, fun z => z.mono fun x => (e x).mpr⟩⟩
theorem Pc.uniq {D : List Pr} {R : List Int} {s : Int} {ys zs : List Int} (h : Pc D R s ys) (k : Pc D R s zs) : ys = zs := up_uniq h.1 k.1 fun x => (h.2 x).trans (k.2 x).symm
theorem Pc.self {D : List Pr} {R : List Int} {s : Int} {ys : List Int} (h : Pc D R s ys) (m : s ∈ R) : s ∈ ys := (h.2 s).mpr (.base m)
theorem Pcs.sub {D : List Pr} {R R' : List Int} {P P' : List (List Int)} (h : Pcs D R P) (k : Pcs D R' P') (e : ∀ x, x ∈ R ↔ x ∈ R') {ys : List Int} (m : ys ∈ P) : ys ∈ P' := by
  obtain ⟨s, hs, hc⟩ := h.pc ys m
  obtain ⟨zs, hz, sz⟩ := k.cov s ((e s).mp hs)
  obtain ⟨t, ht, hk⟩ := k.pc zs hz
  rw [(hc.congr e).uniq (hk.of sz)]
  exact hz
theorem Pcs.uniq {D : List Pr} {R R' : List Int} {P P' : List (List Int)} (h : Pcs D R P) (k : Pcs D R' P') (e : ∀ x, x ∈ R ↔ x ∈ R') : P = P' :=
  pw_uniq (fun a b h1 h2 => by omega) h.asc k.asc fun ys => ⟨fun m => h.sub k e m, fun m => k.sub h (fun x => (e x).symm) m⟩
theorem Pcs.nil (D : List Pr) : Pcs D [] [] := ⟨fun ys m => (by cases m), fun s m => (by cases m), List.Pairwise.nil⟩
/-- a piece is one piece -/
theorem Pc.one {D : List Pr} {R R' : List Int} {s : Int} {ys : List Int} (h : Pc D R s ys) (m : s ∈ R) (e : ∀ x, x ∈ R' ↔ x ∈ ys) : Pcs D R' [ys] := by
  have key : ∀ x, Rch D R s x → Rch D R' s x := fun x k => by
    induction k with
    | base k => exact .base ((e s).mpr (h.self m))
    | step k a b ih => exact ih.step a ((e _).mpr ((h.2 _).mpr (k.step a b)))
  refine ⟨fun zs hz => ?_, fun t ht => ⟨ys, List.mem_cons_self, (e t).mp ht⟩, List.pairwise_singleton _ _⟩
  rw [List.mem_singleton.mp hz]
  exact ⟨s, (e s).mpr (h.self m), h.1, fun x => ⟨fun hx => key x ((h.2 x).mp hx), fun hx => (e x).mp hx.mem⟩⟩
/-- two pieces are not one -/
theorem Pc.two {D : List Pr} {R R' : List Int} {s t : Int} {ys zs : List Int} {P : List (List Int)} (h : Pc D R s ys) (k : Pc D R t zs) (hs : s ∈ R) (ht : t ∈ R) (ne : ys ≠ zs) (e : ∀ x, x ∈ R' ↔ x ∈ ys ∨ x ∈ zs) (p : Pcs D R' P) : P.length ≠ 1 := by
  intro z
  obtain ⟨c, rfl⟩ : ∃ c, P = [c] := by
    cases P with
    | nil => cases z
    | cons c P =>
      cases P with
      | nil => exact ⟨c, rfl⟩
      | cons d P => exact absurd z (by rw [List.length_cons, List.length_cons]; omega)
  obtain ⟨c1, m1, s1⟩ := p.cov s ((e s).mpr (.inl (h.self hs)))
  obtain ⟨c2, m2, t2⟩ := p.cov t ((e t).mpr (.inr (k.self ht)))
  rw [List.mem_singleton.mp m1] at s1
  rw [List.mem_singleton.mp m2] at t2
  obtain ⟨u, hu, hc⟩ := p.pc c List.mem_cons_self
  have st : Rch D R' s t := (((hc.2 s).mp s1).symm).trans ((hc.2 t).mp t2)
  have st2 : Rch D R s t := st.mono fun x hx => by
    rcases (e x).mp hx with m | m
    · exact ((h.2 x).mp m).mem
    · exact ((k.2 x).mp m).mem
  exact ne ((h.of ((h.2 t).mpr st2)).uniq k)
/-! the program's way -/
structure PInv (D : List Pr) (R : List Int) (P : List (List Int)) (Lf : List Int) : Prop where
  pc : ∀ ys ∈ P, ∃ s ∈ R, Pc D R s ys
  lf : ∀ x, x ∈ Lf ↔ x ∈ R ∧ ∀ ys ∈ P, x ∉ ys
  asc : P.Pairwise fun a b => hdI a < hdI b
  lo : ∀ ys ∈ P, ∀ x ∈ Lf, hdI ys < x
  up : Lf.Pairwise (· ≤ ·)
theorem PInv.start {D : List Pr} {R Lf : List Int} (m : ∀ x, x ∈ Lf ↔ x ∈ R) (u : Lf.Pairwise (· ≤ ·)) : PInv D R [] Lf :=
  ⟨fun ys h => (by cases h), fun x => ⟨fun h => ⟨(m x).mp h, fun ys z => (by cases z)⟩, fun h => (m x).mpr h.1⟩, List.Pairwise.nil, fun ys h => (by cases h), u⟩
theorem PInv.done {D : List Pr} {R : List Int} {P : List (List Int)} (h : PInv D R P []) : Pcs D R P :=
  ⟨h.pc, fun s hs => Classical.byContradiction fun z => List.not_mem_nil ((h.lf s).mpr ⟨hs, fun ys hy m => z ⟨ys, hy, m⟩⟩), h.asc⟩
theorem PInv.rch {D : List Pr} {R : List Int} {P : List (List Int)} {Lf : List Int} (h : PInv D R P Lf) {s x : Int} : Rch D Lf s x ↔ s ∈ Lf ∧ Rch D R s x := by
  constructor
  · exact fun k => ⟨k.start, k.mono fun x hx => ((h.lf x).mp hx).1⟩
  · rintro ⟨m, k⟩
    induction k with
    | base _ => exact .base m
    | step k a b ih =>
      rename_i a' b'
      refine ih.step a ((h.lf _).mpr ⟨b, fun ys hy z => ?_⟩)
      obtain ⟨t, ht, hc⟩ := h.pc ys hy
      exact ((h.lf _).mp ih.mem).2 ys hy ((hc.2 _).mpr (((hc.2 _).mp z).step a.symm k.mem))
theorem PInv.step {D : List Pr} {R : List Int} {P : List (List Int)} {l0 : Int} {Lf ys : List Int} (h : PInv D R P (l0 :: Lf)) (k : Pc D (l0 :: Lf) l0 ys) : PInv D R (P ++ [ys]) ((l0 :: Lf).filter fun x => decide (x ∉ ys)) := by
  have m0 : l0 ∈ l0 :: Lf := List.mem_cons_self
  have r0 := ((h.lf l0).mp m0).1
  have kR : Pc D R l0 ys := ⟨k.1, fun x => (k.2 x).trans (h.rch.trans ⟨fun z => z.2, fun z => ⟨m0, z⟩⟩)⟩
  have hd : hdI ys = l0 := by
    have a1 := hdI_le k.1 (k.self m0)
    have a2 := ((k.2 _).mp (hdI_mem (k.self m0))).mem
    rcases List.mem_cons.mp a2 with e | e
    · exact e
    · have := (List.pairwise_cons.mp h.up).1 _ e
      omega
  refine ⟨fun zs hz => ?_, fun x => ?_, ?_, fun zs hz x hx => ?_, h.up.filter _⟩
  · rcases List.mem_append.mp hz with m | m
    · exact h.pc zs m
    · rw [List.mem_singleton.mp m]
      exact ⟨l0, r0, kR⟩
  · rw [List.mem_filter, h.lf x]
    constructor
    · rintro ⟨⟨h1, h2⟩, h3⟩
      refine ⟨h1, fun zs hz => ?_⟩
      rcases List.mem_append.mp hz with m | m
      · exact h2 zs m
      · rw [List.mem_singleton.mp m]
        exact of_decide_eq_true h3
    · rintro ⟨h1, h2⟩
      exact ⟨⟨h1, fun zs hz => h2 zs (List.mem_append_left _ hz)⟩, decide_eq_true (h2 ys (List.mem_append_right _ List.mem_cons_self))⟩
  · refine List.pairwise_append.mpr ⟨h.asc, List.pairwise_singleton _ _, fun a ha b hb => ?_⟩
    rw [List.mem_singleton.mp hb, hd]
    exact h.lo a ha l0 m0
  · obtain ⟨hx1, hx2⟩ := List.mem_filter.mp hx
    rcases List.mem_append.mp hz with m | m
    · exact h.lo zs m x hx1
    · rw [List.mem_singleton.mp m, hd]
      rcases List.mem_cons.mp hx1 with e | e
      · exact absurd (k.self m0) (by rw [← e]; exact of_decide_eq_true hx2)
      · have := (List.pairwise_cons.mp h.up).1 _ e
        have ne : x ≠ l0 := fun z => of_decide_eq_true hx2 (by rw [z]; exact k.self m0)
        omega
/-! the law's way -/
structure LInv (D : List Pr) (R S : List Int) (j : Nat) (P : List (List Int)) (dn : List Int) : Prop where
  pc : ∀ ys ∈ P, ∃ s ∈ R, Pc D R s ys
  dnm : ∀ x, x ∈ dn ↔ ∃ ys ∈ P, x ∈ ys
  asc : P.Pairwise fun a b => hdI a < hdI b
  seen : ∀ x ∈ S.take j, x ∈ dn
  hds : ∀ ys ∈ P, hdI ys ∈ S.take j
theorem LInv.start (D : List Pr) (R S : List Int) : LInv D R S 0 [] [] :=
  ⟨fun ys h => (by cases h), fun x => ⟨fun h => (by cases h), fun ⟨ys, h, _⟩ => (by cases h)⟩, List.Pairwise.nil, fun x h => (by rw [List.take_zero] at h; cases h), fun ys h => (by cases h)⟩
theorem LInv.skip {D : List Pr} {R S : List Int} {j : Nat} {P : List (List Int)} {dn : List Int} {x : Int} (h : LInv D R S j P dn) (g : S[j]? = some x) (m : x ∈ dn) : LInv D R S (j + 1) P dn := by
  refine ⟨h.pc, h.dnm, h.asc, fun y hy => ?_, fun ys hy => ?_⟩
  · rw [List.take_add_one, g] at hy
    rcases List.mem_append.mp hy with z | z
    · exact h.seen y z
    · rw [show y = x from List.mem_singleton.mp z]
      exact m
  · rw [List.take_add_one]
    exact List.mem_append_left _ (h.hds ys hy)
theorem LInv.step {D : List Pr} {R S : List Int} {j : Nat} {P : List (List Int)} {dn ys : List Int} {x : Int} (h : LInv D R S j P dn) (g : S[j]? = some x) (sm : ∀ x, x ∈ S ↔ x ∈ R) (su : S.Pairwise (· ≤ ·)) (m : x ∉ dn) (k : Pc D R x ys) : LInv D R S (j + 1) (P ++ [ys]) (dn ++ ys) := by
  have xR : x ∈ R := (sm x).mp (List.mem_of_getElem? g)
  have hj : j < S.length := (List.getElem?_eq_some_iff.mp g).1
  have split : S = S.take j ++ x :: S.drop (j + 1) := by
    have e := (List.take_append_drop j S).symm
    rw [List.drop_eq_getElem_cons hj] at e
    rw [List.getElem?_eq_getElem hj] at g
    rw [Option.some.inj g] at e
    exact e
  have su2 := su
  rw [split] at su2
  obtain ⟨_, sb, sc⟩ := List.pairwise_append.mp su2
  have hd : hdI ys = x := by
    have a1 := hdI_le k.1 (k.self xR)
    have a2 := (k.2 _).mp (hdI_mem (k.self xR))
    have a3 := (sm _).mpr a2.mem
    rw [split] at a3
    rcases List.mem_append.mp a3 with e | e
    · obtain ⟨zs, hz, mz⟩ := (h.dnm _).mp (h.seen _ e)
      obtain ⟨t, ht, hc⟩ := h.pc zs hz
      exact absurd ((h.dnm x).mpr ⟨zs, hz, (hc.2 x).mpr (((hc.2 _).mp mz).trans a2.symm)⟩) m
    · rcases List.mem_cons.mp e with e | e
      · exact e
      · have := (List.pairwise_cons.mp sb).1 _ e
        omega
  refine ⟨fun zs hz => ?_, fun y => ?_, ?_, fun y hy => ?_, fun zs hz => ?_⟩
  · rcases List.mem_append.mp hz with q | q
    · exact h.pc zs q
    · rw [List.mem_singleton.mp q]
      exact ⟨x, xR, k⟩
  · rw [List.mem_append, h.dnm y]
    constructor
    · rintro (⟨zs, hz, mz⟩ | z)
      · exact ⟨zs, List.mem_append_left _ hz, mz⟩
      · exact ⟨ys, List.mem_append_right _ List.mem_cons_self, z⟩
    · rintro ⟨zs, hz, mz⟩
      rcases List.mem_append.mp hz with q | q
      · exact .inl ⟨zs, q, mz⟩
      · rw [List.mem_singleton.mp q] at mz
        exact .inr mz
  · refine List.pairwise_append.mpr ⟨h.asc, List.pairwise_singleton _ _, fun a ha b hb => ?_⟩
    rw [List.mem_singleton.mp hb, hd]
    have m1 := h.hds a ha
    have le := sc _ m1 x List.mem_cons_self
    have ne : hdI a ≠ x := fun z => m (by rw [← z]; exact h.seen _ m1)
    omega
  · rw [List.take_add_one, g] at hy
    rcases List.mem_append.mp hy with z | z
    · exact List.mem_append_left _ (h.seen y z)
    · rw [show y = x from List.mem_singleton.mp z]
      exact List.mem_append_right _ (k.self xR)
  · rw [List.take_add_one, g]
    rcases List.mem_append.mp hz with q | q
    · exact List.mem_append_left _ (h.hds zs q)
    · rw [List.mem_singleton.mp q, hd]
      exact List.mem_append_right _ (by simp)
theorem LInv.fin {D : List Pr} {R S : List Int} {P : List (List Int)} {dn : List Int} (h : LInv D R S S.length P dn) (sm : ∀ x, x ∈ S ↔ x ∈ R) : Pcs D R P :=
  ⟨h.pc, fun s hs => (h.dnm s).mp (h.seen s (by rw [List.take_length]; exact (sm s).mpr hs)), h.asc⟩
/-! reaching by rounds -/
structure FInv (D : List Pr) (R : List Int) (s : Int) (F : List Int) : Prop where
  nd : F.Nodup
  rc : ∀ x ∈ F, Rch D R s x
  st : s ∈ R → s ∈ F
def Clo (D : List Pr) (R F : List Int) : Prop := ∀ a ∈ F, ∀ b ∈ R, Adj D a b → b ∈ F
theorem FInv.all {D : List Pr} {R F : List Int} {s : Int} (h : FInv D R s F) (c : Clo D R F) (x : Int) : x ∈ F ↔ Rch D R s x := by
  refine ⟨h.rc x, fun k => ?_⟩
  induction k with
  | base m => exact h.st m
  | step _ a b ih => exact c _ ih _ b a
theorem FInv.add {D : List Pr} {R F : List Int} {s a b : Int} (h : FInv D R s F) (ha : a ∈ F) (hb : b ∈ R) (ab : Adj D a b) (n : b ∉ F) : FInv D R s (F ++ [b]) := by
  refine ⟨?_, fun x hx => ?_, fun m => List.mem_append_left _ (h.st m)⟩
  · refine List.nodup_append.mpr ⟨h.nd, by simp, fun x hx y hy z => ?_⟩
    rw [List.mem_singleton.mp hy] at z
    exact n (by rw [← z]; exact hx)
  · rcases List.mem_append.mp hx with z | z
    · exact h.rc x z
    · rw [List.mem_singleton.mp z]
      exact (h.rc a ha).step ab hb

abbrev sFp : Stmt := topS 19
abbrev sRea : Stmt := topS 18
abbrev sPcs : Stmt := topS 17
theorem u1 {u : Nat} (h : u + 64 < cLine) : u + 1 < cLine := by omega
theorem ints_len {r : Nat} {l : List Int} (nd : l.Nodup) (h : ∀ x ∈ l, 0 ≤ x ∧ x < r) : l.length ≤ r := by
  have h1 : (l.map Int.toNat).Nodup := by
    refine List.pairwise_map.mpr (List.Pairwise.imp_of_mem (fun {x y} hx hy ne e => ?_) nd)
    have b1 := h x hx
    have b2 := h y hy
    omega
  have h2 := nat_nodup_len _ (List.range r) h1 fun c hc => by
    obtain ⟨x, hx, rfl⟩ := List.mem_map.mp hc
    have := h x hx
    exact List.mem_range.mpr (by omega)
  rw [List.length_map, List.length_range] at h2
  exact h2
theorem inI (j : Int) (l : List Int) : inV (.int j) (l.map V.int) = decide (j ∈ l) := by
  induction l with
  | nil => rfl
  | cons x l ih =>
    have e : inV (.int j) ((x :: l).map V.int) = (eqV (.int x) (.int j) || inV (.int j) (l.map V.int)) := rfl
    rw [e, ih]
    have e2 : eqV (.int x) (.int j) = decide (x = j) := by
      unfold eqV
      by_cases h : x = j
      · subst h
        simp
      · simp [h]
    rw [e2]
    by_cases h : j = x
    · subst h
      simp
    · have h' : ¬ x = j := fun z => h z.symm
      simp [h, h']
theorem flI (l : List Int) : (l.map V.int).all flatV = true := by
  rw [List.all_eq_true]
  intro v hv
  obtain ⟨x, _, rfl⟩ := List.mem_map.mp hv
  rfl
theorem same_sqT {K : PySem.W.Frag} {H H' : Hp} {a : Addr} {xs : List V} (e : Same H H') (h : SqT K H a xs) : SqT K H' a xs := by
  rcases h with (h | ⟨o, h⟩) | h
  · exact .inl (.inl (e _ _ h))
  · exact .inl (.inr ⟨o, e _ _ h⟩)
  · exact .inr h
/-- what the dict of first_paths holds: keys, and tuples that are not too long -/
structure Dk (H : Hp) (d : Addr) (kvs : List (Key × V)) (ks : List Int) : Prop where
  at_ : H d = some (.dK kvs)
  ke : kvs.map (·.1) = ks.map Sum.inl
  vl : ∀ kv ∈ kvs, ∃ t xs, kv.2 = V.ref t ∧ H t = some (.tup xs) ∧ (xs.length ≤ kvs.length ∧ xs ≠ [])
theorem Dk.len {H : Hp} {d : Addr} {kvs : List (Key × V)} {ks : List Int} (h : Dk H d kvs ks) : kvs.length = ks.length := by
  have := congrArg List.length h.ke
  rw [List.length_map, List.length_map] at this
  exact this
theorem Dk.mem {H : Hp} {d : Addr} {kvs : List (Key × V)} {ks : List Int} (h : Dk H d kvs ks) (x : Int) : (valV kvs (Sum.inl x : Key)).isSome = true ↔ x ∈ ks := by
  constructor
  · intro e
    obtain ⟨v, e⟩ := Option.isSome_iff_exists.mp e
    have m := valV_in e
    rw [h.ke] at m
    obtain ⟨y, hy, e2⟩ := List.mem_map.mp m
    rw [← Sum.inl.inj e2]
    exact hy
  · intro m
    cases e : valV kvs (Sum.inl x : Key) with
    | some v => rfl
    | none =>
      have n := valV_not e
      rw [h.ke] at n
      exact absurd (List.mem_map.mpr ⟨x, m, rfl⟩) n
theorem Dk.same {H H' : Hp} {d : Addr} {kvs : List (Key × V)} {ks : List Int} (h : Dk H d kvs ks) (s : Same H H') : Dk H' d kvs ks := ⟨s _ _ h.at_, h.ke, fun kv hkv => by
  obtain ⟨t, xs, e1, e2, e3⟩ := h.vl kv hkv
  exact ⟨t, xs, e1, s _ _ e2, e3⟩⟩
theorem Dk.ch {H : Hp} {d wt : Addr} {us vs : List V} {kvs : List (Key × V)} {ks : List Int} (h : Dk H d kvs ks) (ne : d ≠ wt) (hw : H wt = some (.lst us)) : Dk (upd H wt (.lst vs)) d kvs ks := ⟨by rw [upd_ne ne]; exact h.at_, h.ke, fun kv hkv => by
  obtain ⟨t, xs, e1, e2, e3⟩ := h.vl kv hkv
  exact ⟨t, xs, e1, by rw [upd_ne (ne_of e2 hw (by intro z; cases z))]; exact e2, e3⟩⟩
theorem Dk.put {H : Hp} {d t : Addr} {b : Int} {xs : List V} {kvs : List (Key × V)} {ks : List Int} (h : Dk H d kvs ks) (n : valV kvs (Sum.inl b : Key) = none) (ht : H t = some (.tup xs)) (hx : xs.length ≤ kvs.length + 1) (hz : xs ≠ []) : Dk (upd H d (.dK (putK kvs (Sum.inl b) (.ref t)))) d (putK kvs (Sum.inl b) (.ref t)) (ks ++ [b]) := by
  have e := putK_new (V.ref t) n
  refine ⟨upd_same, by rw [e, List.map_append, List.map_append, h.ke]; rfl, fun kv hkv => ?_⟩
  rw [e] at hkv ⊢
  rcases List.mem_append.mp hkv with m | m
  · obtain ⟨u, ys, e1, e2, e3⟩ := h.vl kv m
    exact ⟨u, ys, e1, by rw [upd_ne (ne_of e2 h.at_ (by intro z; cases z))]; exact e2, by rw [List.length_append]; exact ⟨by omega, e3.2⟩⟩
  · rw [List.mem_singleton.mp m]
    exact ⟨t, xs, rfl, by rw [upd_ne (ne_of ht h.at_ (by intro z; cases z))]; exact ht, by rw [List.length_append]; exact ⟨hx, hz⟩⟩
theorem valV_mem {kvs : List (Key × V)} {k : Key} {v : V} (e : valV kvs k = some v) : ∃ kv ∈ kvs, kv.2 = v := by
  induction kvs with
  | nil => rw [valV_nil] at e; cases e
  | cons p r ih =>
    by_cases c : p.1 = k
    · rw [valV_pos c] at e
      exact ⟨p, List.mem_cons_self, Option.some.inj e⟩
    · rw [valV_neg c] at e
      obtain ⟨kv, m, e⟩ := ih e
      exact ⟨kv, List.mem_cons_of_mem _ m, e⟩
theorem for_iterW {wi : TI} {g : TG} {tb : TS} {D : Ends} {σ : L2.St} {H : Hp} (h : wi σ H fun J H1 => tFor (fun _ H R => R J H) g tb D σ H1) : tFor wi g tb D σ H := h
def SeqI (K : PySem.W.Frag) (H : Hp) (o : Addr) (R : List Int) : Prop := SqL K H o (R.map V.int) ∨ SqT K H o (R.map V.int)
section
variable {P : Program} {w : World} {K : PySem.W.Frag} {mg : Str → Option Value} {base : Heap}
theorem scFp : FnScope ["steps", "start", "inside", "paths", "waiting", "room", "other"] ["steps", "start", "inside"] (defScope sFp) := ⟨rfl, rfl, rfl, by decide +kernel, rfl, by decide +kernel, by decide +kernel⟩
def spFp (K : PySem.W.Frag) (C g : Addr) : Sp := fun vs H Q _ => ∃ (q o p : Addr) (s : Int) (R : List Int) (r : Nat) (D : List Pr) (own : List Addr), vs = [.ref q, .int s, .ref o] ∧ H q = some (.met g p) ∧ HouseAt C H p r D own ∧ SeqI K H o R ∧ (∀ x ∈ R, 0 ≤ x ∧ x < r) ∧
  ∀ (d : Addr) (kvs : List (Key × V)) (ks : List Int) (H' : Hp), Same H H' → H d = none → H' d = some (.dK kvs) → kvs.map (·.1) = ks.map Sum.inl → ks.Nodup → (∀ x, x ∈ ks ↔ Rch D R s x) → Q (.ref d) H'
theorem ok_fp {f C g : Addr} {fd fdn : FuncData} (F : Fun K "first_paths" "first_paths" sFp f fd) (T : Bi mg) (U : Hs K mg C) (bm : BMeth K C "neighbours" g) (Gn : FnOk P w K mg base CX0 1 g fdn ["self", "room"] (spHnear C)) (bn : Binds K fdn ["self", "room"] []) : FnOk P w K mg base CX0 2 f fd ["steps", "start", "inside"] (spFp K C g) := by
  refine F.ok scFp (fun vs H Q E h => ?_) (fun cdv A outer s0 H vs Q E hr h => ?_)
  · obtain ⟨q, o, p, s, R, r, D, own, rfl, _⟩ := h
    rfl
  · obtain ⟨q, o, p, s, R, r, D, own, rfl, hq, hh, ho, hR, ret⟩ := h
    refine ⟨_, (pss_cons (ps_set (i := 3) scFp.nd rfl (Or.inl rfl) pe_dnewK)
      (pss_cons (ps_if (pt_cmpR op_in_seq (pv 1) (pv 2) (by rfl))
      (pss_one (ps_dput (u1 hr.units) (pv 3) (pv 1) (pe_tup (pa_cons (pv 1) pa_nil)) rfl))
      pss_nil)
      (pss_cons (ps_set (i := 4) scFp.nd rfl (Or.inl rfl) (pe_callTy (call_listD rfl) (by rfl) T.list (by decide +kernel) (pa_cons (pv 3) pa_nil)))
      (pss_cons (ps_while PassesOwn.never (pt_truth (pv 4) (by intro _; rfl))
      (pss_cons (ps_set (i := 5) scFp.nd rfl (Or.inl rfl) (pe_bm PySem.F.plainAttrs_list PySem.F.slot_list_pop PySem.F.type_list_pop mt_popAt (pv 4) (pa_cons pe_int pa_nil)))
        (pss_one (ps_for PassesOwn.never rfl (pi_list (pe_callM (i := 0) (Gn.raw bn .nil) (hr.mono (by decide)) (by rfl) (.inl rfl) bm.fi pass0 (pa_cons (pv 5) pa_nil))) (pg_name (i := 6) scFp.nd rfl (Or.inl rfl))
        (pss_one (ps_if (PW.pt (pw_and (pt_cmpR op_in_seq (pv 6) (pv 2) (by rfl)) (pw_and1 (pt_cmp (pc_dnotin (u1 hr.units) (pv 6) (pv 3))))))
          (pss_cons (ps_dput (u1 hr.units) (pv 3) (pv 6) (pe_op op_catT (pe_dget (u1 hr.units) (pv 3) (pv 5) (fun _ _ => rfl)) (pe_tup (pa_cons (pv 6) pa_nil))) rfl)
            (pss_one (ps_expr (pe_bm PySem.F.plainAttrs_list PySem.F.slot_list_append PySem.F.type_list_append mt_append (pv 4) (pa_cons (pv 6) pa_nil)))))
          pss_nil))))))
      (pss_one (ps_ret (pv 3))))))), ?_⟩
    walk_at "rd"
    intro d nd
    have s1 : Same H (upd H d (HO.dK [])) := same_upd nd
    have hd1 : upd H d (HO.dK []) d = some (.dK []) := upd_same
    have hoS : ∀ H', Same H H' → SeqI K H' o R := fun H' sm => by
      rcases ho with h | h
      · exact .inl (sm.seq h)
      · exact .inr (same_sqT sm h)
    refine ⟨o, _, rfl, hoS _ s1, rfl, flI _, ?_⟩
    rw [inI]
    refine ⟨_, rfl, ?_⟩
    by_cases m : s ∈ R
    rw [decide_eq_true m]
    refine iteT ⟨_, rfl, (by show 1 ≤ sizeLine; decide), fun t nt => ⟨_, rfl, _, rfl, d, _, rfl, DPut.k (k := Sum.inl s) (same_upd nt _ _ hd1) (by decide), ?_⟩⟩
    have s2 : Same H (upd (upd (upd H d (HO.dK [])) t (HO.tup [V.int s])) d (HO.dK (putK [] (Sum.inl s) (V.ref t)))) := same_ch (s1.trans (same_upd nt)) nd
    have pk : ∃ kvs ks, Dk (upd (upd (upd H d (HO.dK [])) t (HO.tup [V.int s])) d (HO.dK (putK [] (Sum.inl s) (V.ref t)))) d kvs ks ∧ FInv D R s ks := by
      have ntd : t ≠ d := fun z => by
        rw [z, upd_same] at nt
        cases nt
      refine ⟨[(Sum.inl s, V.ref t)], [s], ⟨upd_same, rfl, fun kv hkv => ?_⟩, (by simp), fun x hx => ?_, fun _ => List.mem_cons_self⟩
      · rw [List.mem_singleton.mp hkv]
        exact ⟨t, _, rfl, by rw [upd_ne ntd]; exact upd_same, Nat.le_refl _, by simp⟩
      · rw [List.mem_singleton.mp hx]
        exact .base m
    generalize upd (upd (upd H d (HO.dK [])) t (HO.tup [V.int s])) d (HO.dK (putK [] (Sum.inl s) (V.ref t))) = H1 at s2 pk
    clear nt hd1
    rotate_left
    rw [decide_eq_false m]
    refine iteF ?_
    have s2 := s1
    have pk : ∃ kvs ks, Dk (upd H d (HO.dK [])) d kvs ks ∧ FInv D R s ks := ⟨[], [], ⟨upd_same, rfl, fun kv hkv => by cases hkv⟩, List.nodup_nil, fun x hx => (by cases hx), fun z => absurd z m⟩
    generalize upd H d (HO.dK []) = H1 at s1 s2 hd1 pk
    clear hd1
    all_goals
      clear s1
      obtain ⟨kvs, ks, dk, fi⟩ := pk
      walk_at "rd"
      refine ⟨_, .inl dk.at_, fun wt nwt => ?_⟩
      have r12 := hh.r12
      have dok : ∀ d ∈ D, d.1 < d.2 := fun d hd => (hh.ok.ok d hd).2.1
      have klen : ∀ ks : List Int, FInv D R s ks → ks.length ≤ r := fun ks fi => ints_len fi.nd fun x hx => hR x (fi.rc x hx).mem
      have dwt : d ≠ wt := ne_of_none dk.at_ nwt
      have nw0 : H wt = none := s2.free nwt
      have e0 : kvs.map (fun kv => kV kv.1) = ks.map V.int := by
        rw [show kvs.map (fun kv => kV kv.1) = (kvs.map (·.1)).map kV by rw [List.map_map]; rfl, dk.ke, List.map_map]
        rfl
      rw [e0]
      obtain ⟨Pv, hPv⟩ : ∃ Pv : L2.St → Hp → Prop, Pv = (fun σ H' => ∃ (kvs : List (Key × V)) (ks wl : List Int) (v5 v6 : Option V), σ = [some (.ref q), some (.int s), some (.ref o), some (.ref d), some (.ref wt), v5, v6] ∧ Same H H' ∧ Dk H' d kvs ks ∧ FInv D R s ks ∧ H' wt = some (.lst (wl.map V.int)) ∧ (∀ x ∈ wl, x ∈ ks) ∧ 2 * (r - kvs.length) + wl.length ≤ 100 ∧ (∀ a ∈ ks, a ∉ wl → ∀ b ∈ R, Adj D a b → b ∈ ks)) := ⟨_, rfl⟩
      obtain ⟨mu, hmu⟩ : ∃ mu : L2.St → Hp → Nat, mu = (fun _ H' => match H' d, H' wt with
        | some (.dK kvs), some (.lst ws) => 2 * (r - kvs.length) + ws.length
        | _, _ => 0) := ⟨_, rfl⟩
      refine while_by Pv mu ?h0 (fun σ H2 pv => ?hs) (fun σ H2 Q1 Q2 hi h => ?mono)
      case h0 =>
        rw [hPv]
        have kl := klen ks fi
        have dl := dk.len
        refine ⟨kvs, ks, ks, none, none, rfl, s2.trans (same_upd nwt), ⟨same_upd nwt _ _ dk.at_, dk.ke, fun kv hkv => ?_⟩, fi, upd_same, fun x hx => hx, by omega, fun a ha hn => absurd ha hn⟩
        obtain ⟨t, xs, e1, e2, e3⟩ := dk.vl kv hkv
        exact ⟨t, xs, e1, same_upd nwt _ _ e2, e3⟩
      case mono =>
        obtain ⟨v, g1, k, tv, q1⟩ := h
        exact ⟨v, g1, k, tv, hi _ _ q1⟩
      case hs =>
        rw [hPv] at pv
        obtain ⟨kvs, ks, wl, v5, v6, rfl, sm, dk, fi, hw, sub, bd, cl⟩ := pv
        refine ⟨.ref wt, rfl, !(wl.map V.int).isEmpty, .inl ⟨_, SqL.of hw, rfl⟩, ?_⟩
        cases wl with
        | nil =>
          refine iteF ?_
          walk_at "rd"
          exact ret d kvs ks H2 sm nd dk.at_ dk.ke fi.nd (fi.all fun a ha b hb ab => cl a ha (by simp) b hb ab)
        | cons w0 ws =>
          have w0k := sub w0 List.mem_cons_self
          have w0R := hR w0 (fi.rc w0 w0k).mem
          obtain ⟨n0, rfl⟩ : ∃ n : Nat, w0 = (n : Int) := ⟨w0.toNat, by omega⟩
          refine iteT ?_
          walk_at "rd"
          refine ⟨.inl ⟨rfl, _, SqL.of hw⟩, ?_⟩
          walk_at "rd"
          have sq : PySem.seqIndex? 0 (((n0 : Int) :: ws).map V.int).length = some 0 := by
            unfold PySem.seqIndex?
            simp
          refine ⟨wt, _, 0, 0, .int n0, rfl, rfl, hw, by decide, by decide, sq, rfl, ?_⟩
          have mu0 : mu [some (V.ref q), some (V.int s), some (V.ref o), some (V.ref d), some (V.ref wt), v5, v6] H2 = 2 * (r - kvs.length) + (ws.length + 1) := by
            rw [hmu]
            show (match H2 d, H2 wt with
              | some (.dK kvs), some (.lst ws) => 2 * (r - kvs.length) + ws.length
              | _, _ => 0) = _
            rw [dk.at_, hw]
            show _ + (List.map V.int _).length = _
            rw [List.length_map]
            rfl
          rw [mu0]
          have bd2 : 2 * (r - kvs.length) + (ws.length + 1) ≤ 100 := bd
          generalize hM : 2 * (r - kvs.length) + (ws.length + 1) = M at bd2
          show tFor _ _ _ _ _ (upd H2 wt (HO.lst (ws.map V.int)))
          have s3 : Same H (upd H2 wt (HO.lst (ws.map V.int))) := same_ch sm nw0
          have hw3 : upd H2 wt (HO.lst (ws.map V.int)) wt = some (.lst (ws.map V.int)) := upd_same
          have dk3 : Dk (upd H2 wt (HO.lst (ws.map V.int))) d kvs ks := dk.ch dwt hw
          generalize upd H2 wt (HO.lst (ws.map V.int)) = H3 at s3 hw3 dk3 ⊢
          refine for_iterW ?_
          refine ⟨q, p, rfl, _, rfl, s3 _ _ hq, p, r, D, own, n0, rfl, hh.same s3, by omega, fun nb nnb => ?_⟩
          have nb0 : H nb = none := s3.free nnb
          have nbw : wt ≠ nb := ne_of_none hw3 nnb
          have nbd : d ≠ nb := ne_of_none dk3.at_ nnb
          obtain ⟨Pw, hPw⟩ : ∃ Pw : Nat → L2.St → Hp → Prop, Pw = (fun j σ H' => ∃ (kvs' : List (Key × V)) (ks' wl' : List Int) (v6 : Option V), σ = [some (.ref q), some (.int s), some (.ref o), some (.ref d), some (.ref wt), some (.int n0), v6] ∧ Same H H' ∧ H' nb = some (.lst ((nearF (n0 : Nat) D).map V.int)) ∧ Dk H' d kvs' ks' ∧ FInv D R s ks' ∧ H' wt = some (.lst (wl'.map V.int)) ∧ (∀ x ∈ wl', x ∈ ks') ∧ (n0 : Int) ∈ ks' ∧ 2 * (r - kvs'.length) + wl'.length + 1 ≤ M ∧ (∀ a ∈ ks', a ∉ wl' → a ≠ n0 → ∀ b ∈ R, Adj D a b → b ∈ ks') ∧ (∀ b ∈ (nearF (n0 : Nat) D).take j, b ∈ R → b ∈ ks')) := ⟨_, rfl⟩
          refine ⟨nb, rfl, ⟨_, SqL.of upd_same⟩, for_list (K := K) (a := nb) (xs := (nearF (n0 : Nat) D).map V.int) Pw ?i0 (fun j σ H' _ pv => ?il) (fun j v σ H' gv pv => ?ib) (fun σ H' pv => ?ie)⟩
          case i0 =>
            rw [hPw]
            refine ⟨kvs, ks, ws, v6, rfl, s3.trans (same_upd nnb), upd_same, dk3.same (same_upd nnb), fi, same_upd nnb _ _ hw3, fun x hx => sub x (List.mem_cons_of_mem _ hx), w0k, by omega, fun a ha hn ne b hb ab => cl a ha (fun z => ?_) b hb ab, fun b hb => (by rw [List.take_zero] at hb; cases hb)⟩
            rcases List.mem_cons.mp z with z | z
            · exact ne z
            · exact hn z
          case il =>
            rw [hPw] at pv
            obtain ⟨_, _, _, _, _, _, hn, _⟩ := pv
            exact SqL.of hn
          case ie =>
            rw [hPw] at pv
            obtain ⟨kvs', ks', wl', v6, rfl, s5, hn, dk5, fi5, hw5, sub5, nk, le5, cl5, nn5⟩ := pv
            rw [List.length_map, List.take_length] at nn5
            refine ⟨?_, ?_⟩
            · rw [hPv]
              refine ⟨kvs', ks', wl', some (.int n0), v6, rfl, s5, dk5, fi5, hw5, sub5, by omega, fun a ha hn b hb ab => ?_⟩
              by_cases e : a = n0
              · subst e
                exact nn5 b ((mem_nearF dok).mpr ab) hb
              · exact cl5 a ha hn e b hb ab
            · rw [hmu]
              show (match H' d, H' wt with
                | some (.dK kvs), some (.lst ws) => 2 * (r - kvs.length) + ws.length
                | _, _ => 0) < _
              rw [dk5.at_, hw5]
              show _ + (List.map V.int _).length < _
              rw [List.length_map]
              omega
          case ib =>
            have nxt : ∀ (kvs' : List (Key × V)) (ks' wl' : List Int) (v6 : Option V) (H' : Hp), Same H H' → H' nb = some (.lst ((nearF (n0 : Nat) D).map V.int)) → Dk H' d kvs' ks' → FInv D R s ks' → H' wt = some (.lst (wl'.map V.int)) → (∀ x ∈ wl', x ∈ ks') → (n0 : Int) ∈ ks' → 2 * (r - kvs'.length) + wl'.length + 1 ≤ M → (∀ a ∈ ks', a ∉ wl' → a ≠ n0 → ∀ b ∈ R, Adj D a b → b ∈ ks') → (∀ b ∈ (nearF (n0 : Nat) D).take (j + 1), b ∈ R → b ∈ ks') → Pw (j + 1) [some (.ref q), some (.int s), some (.ref o), some (.ref d), some (.ref wt), some (.int n0), v6] H' := fun kvs' ks' wl' v6 H' h1 h2 h3 h4 h5 h6 h7 h8 h9 h10 => by
              rw [hPw]
              exact ⟨kvs', ks', wl', v6, rfl, h1, h2, h3, h4, h5, h6, h7, h8, h9, h10⟩
            rw [hPw] at pv
            obtain ⟨kvs', ks', wl', v6, rfl, s5, hn, dk5, fi5, hw5, sub5, nk, le5, cl5, nn5⟩ := pv
            rw [List.getElem?_map] at gv
            cases gd : (nearF (n0 : Nat) D)[j]? with
            | none => rw [gd] at gv; cases gv
            | some b =>
              rw [gd] at gv
              have ev := Option.some.inj gv
              subst ev
              have adj : Adj D n0 b := (mem_nearF dok).mp (List.mem_of_getElem? gd)
              have tk : (nearF (n0 : Nat) D).take (j + 1) = (nearF (n0 : Nat) D).take j ++ [b] := by rw [List.take_add_one, gd]; rfl
              rw [tk] at nxt
              walk_at "rd"
              refine ⟨o, _, rfl, hoS _ s5, rfl, flI _, ?_⟩
              rw [inI]
              refine ⟨_, rfl, ?_⟩
              by_cases bR : b ∈ R
              · rw [decide_eq_true bR]
                refine iteT ?_
                refine ⟨_, rfl, _, rfl, d, _, rfl, DGet.k (k := Sum.inl b) dk5.at_, ?_⟩
                refine ⟨_, rfl, ?_⟩
                by_cases bk : b ∈ ks'
                · rw [(dk5.mem b).mpr bk]
                  refine iteF ?_
                  refine nxt kvs' ks' wl' _ H' s5 hn dk5 fi5 hw5 sub5 nk le5 cl5 fun c hc cR => ?_
                  rcases List.mem_append.mp hc with z | z
                  · exact nn5 c z cR
                  · rw [List.mem_singleton.mp z]
                    exact bk
                · have vn : valV kvs' (Sum.inl b : Key) = none := by
                    cases e : valV kvs' (Sum.inl b : Key) with
                    | none => rfl
                    | some v => exact absurd ((dk5.mem b).mp (by rw [e]; rfl)) bk
                  rw [vn]
                  refine iteT ?_
                  obtain ⟨v0, ev0⟩ : ∃ v, valV kvs' (Sum.inl (n0 : Int) : Key) = some v := Option.isSome_iff_exists.mp ((dk5.mem n0).mpr nk)
                  obtain ⟨kv, mkv, e2⟩ := valV_mem ev0
                  obtain ⟨t0, xs0, e3, ht0, hx0, hz0⟩ := dk5.vl kv mkv
                  have ek : v0 = V.ref t0 := e2.symm.trans e3
                  subst ek
                  have fi6 := fi5.add nk bR adj bk
                  have kl := klen _ fi6
                  have dl := dk5.len
                  rw [List.length_append] at kl
                  have kl2 : ks'.length + 1 ≤ r := kl
                  refine ⟨_, rfl, _, rfl, d, .ref t0, rfl, (by rw [← ev0]; exact DGet.k (k := Sum.inl (n0 : Int)) dk5.at_), _, rfl, (by show 1 ≤ sizeLine; decide), fun t1 nt1 => ?_⟩
                  refine ⟨t0, t1, xs0, [.int b], rfl, rfl, SqT.of (same_upd nt1 _ _ ht0), SqT.of upd_same, hz0, Nat.le_of_lt (len_big (by show xs0.length + 1 ≤ 100000; omega)), (fun z => by cases z), fun _ t2 nt2 => ?_⟩
                  have s56 : Same H' (upd (upd H' t1 (HO.tup [V.int b])) t2 (HO.tup (xs0 ++ [V.int b]))) := (same_upd nt1).trans (same_upd nt2)
                  have ht2 : upd (upd H' t1 (HO.tup [V.int b])) t2 (HO.tup (xs0 ++ [V.int b])) t2 = some (.tup (xs0 ++ [V.int b])) := upd_same
                  generalize upd (upd H' t1 (HO.tup [V.int b])) t2 (HO.tup (xs0 ++ [V.int b])) = H6 at s56 ht2
                  have dk6 := dk5.same s56
                  refine ⟨_, rfl, _, rfl, d, _, rfl, DPut.k (k := Sum.inl b) dk6.at_ (len_big (by omega)), ?_⟩
                  have dk7 := dk6.put vn ht2 (by rw [List.length_append]; show xs0.length + 1 ≤ _; omega) (by simp)
                  have s7 := same_ch (o := HO.dK (putK kvs' (Sum.inl b) (V.ref t2))) (s5.trans s56) nd
                  have hw7 : upd H6 d (HO.dK (putK kvs' (Sum.inl b) (V.ref t2))) wt = some (.lst (wl'.map V.int)) := by
                    rw [upd_ne dwt.symm]
                    exact s56 _ _ hw5
                  have hn7 : upd H6 d (HO.dK (putK kvs' (Sum.inl b) (V.ref t2))) nb = some (.lst ((nearF (n0 : Nat) D).map V.int)) := by
                    rw [upd_ne nbd.symm]
                    exact s56 _ _ hn
                  have pl : (putK kvs' (Sum.inl b : Key) (V.ref t2)).length = kvs'.length + 1 := by rw [putK_new _ vn, List.length_append]; rfl
                  generalize upd H6 d (HO.dK (putK kvs' (Sum.inl b) (V.ref t2))) = H7 at dk7 s7 hw7 hn7
                  generalize putK kvs' (Sum.inl b : Key) (V.ref t2) = kv7 at dk7 pl
                  walk_at "rd"
                  refine ⟨.inl ⟨rfl, _, SqL.of hw7⟩, _, hw7, len_big (by rw [List.length_map]; omega), ?_⟩
                  refine nxt kv7 (ks' ++ [b]) (wl' ++ [b]) _ _ (same_ch s7 nw0) (by rw [upd_ne nbw.symm]; exact hn7) (dk7.ch dwt hw7) fi6 (by rw [upd_same, List.map_append]; rfl) (fun x hx => ?_) (List.mem_append_left _ nk) (by rw [pl, List.length_append]; show _ + (wl'.length + 1) + 1 ≤ M; omega) (fun a ha hna ne c hc ac => ?_) (fun c hc cR => ?_)
                  · rcases List.mem_append.mp hx with z | z
                    · exact List.mem_append_left _ (sub5 x z)
                    · exact List.mem_append_right _ z
                  · rcases List.mem_append.mp ha with z | z
                    · exact List.mem_append_left _ (cl5 a z (fun y => hna (List.mem_append_left _ y)) ne c hc ac)
                    · exact absurd (List.mem_append_right _ z) hna
                  · rcases List.mem_append.mp hc with z | z
                    · exact List.mem_append_left _ (nn5 c z cR)
                    · exact List.mem_append_right _ z
              · rw [decide_eq_false bR]
                refine iteF ?_
                refine nxt kvs' ks' wl' _ H' s5 hn dk5 fi5 hw5 sub5 nk le5 cl5 fun c hc cR => ?_
                rcases List.mem_append.mp hc with z | z
                · exact nn5 c z cR
                · rw [List.mem_singleton.mp z] at cR
                  exact absurd cR bR
end

theorem up_of {ys ks : List Int} (p : ys.Perm ks) (nd : ks.Nodup) (s : ys.Pairwise (· ≤ ·)) : Up ys := by
  have n2 : ys.Nodup := p.nodup_iff.mpr nd
  unfold Up
  refine List.Pairwise.imp (fun {a b} (h : a ≤ b ∧ a ≠ b) => by omega) (List.Pairwise.and s n2)
/-- tuples of ints in the heap -/
def IsR (H : Hp) (v : V) (ys : List Int) : Prop := ∃ t, v = .ref t ∧ H t = some (.tup (ys.map V.int))
def RL (H : Hp) (vs : List V) (L : List (List Int)) : Prop := Paired (IsR H) vs L
theorem IsR.same {H H' : Hp} {v : V} {d : List Int} (h : IsR H v d) (k : KT H H') : IsR H' v d := by
  obtain ⟨t, e, h⟩ := h
  exact ⟨t, e, k _ _ h⟩
theorem RL.kt {H H' : Hp} {vs : List V} {D : List (List Int)} (h : RL H vs D) (k : KT H H') : RL H' vs D := Paired.mapP h fun _ _ q => q.same k
theorem RL.len {H : Hp} {vs : List V} {D : List (List Int)} (h : RL H vs D) : vs.length = D.length := Paired.length h
theorem RL.nil0 (H : Hp) : RL H [] [] := Paired.nil
theorem RL.snoc {H : Hp} {vs : List V} {D : List (List Int)} {v : V} {d : List Int} (h : RL H vs D) (q : IsR H v d) : RL H (vs ++ [v]) (D ++ [d]) := Paired.snoc h q
theorem lget {α β : Type} {F : α → β → Prop} : ∀ {vs : List α} {D : List β} {i : Nat} {v : α}, Paired F vs D → vs[i]? = some v → ∃ d, D[i]? = some d ∧ F v d
  | _, _, _, _, Paired.nil, e => by simp at e
  | _, _, 0, v, .cons r _, e => by
    have e2 := Option.some.inj e
    subst e2
    exact ⟨_, rfl, r⟩
  | _, _, i + 1, v, .cons _ t, e => lget (i := i) t e
theorem lget2 {α β : Type} {F : α → β → Prop} : ∀ {vs : List α} {D : List β} {i : Nat} {d : β}, Paired F vs D → D[i]? = some d → ∃ v, vs[i]? = some v ∧ F v d
  | _, _, _, _, Paired.nil, e => by simp at e
  | _, _, 0, v, .cons r _, e => by
    have e2 := Option.some.inj e
    subst e2
    exact ⟨_, rfl, r⟩
  | _, _, i + 1, v, .cons _ t, e => lget2 (i := i) t e
section
variable {P : Program} {w : World} {K : PySem.W.Frag} {mg : Str → Option Value} {base : Heap}
theorem scRea : FnScope ["house", "start", "inside"] ["house", "start", "inside"] (defScope sRea) := ⟨rfl, rfl, rfl, by decide +kernel, rfl, by decide +kernel, by decide +kernel⟩
def spRea (K : PySem.W.Frag) (C : Addr) : Sp := fun vs H Q _ => ∃ (p o : Addr) (s : Int) (R : List Int) (r : Nat) (D : List Pr) (own : List Addr), vs = [.ref p, .int s, .ref o] ∧ HouseAt C H p r D own ∧ SeqI K H o R ∧ (∀ x ∈ R, 0 ≤ x ∧ x < r) ∧
  ∀ (ys : List Int) (t : Addr) (H' : Hp), Pc D R s ys → Same H H' → H t = none → H' t = some (.tup (ys.map V.int)) → Q (.ref t) H'
theorem SeqI.same {K : PySem.W.Frag} {H H' : Hp} {o : Addr} {R : List Int} (h : SeqI K H o R) (s : Same H H') : SeqI K H' o R := by
  rcases h with h | h
  · exact .inl (s.seq h)
  · exact .inr (same_sqT s h)
theorem ok_rea {f C g fF : Addr} {fd fdF : FuncData} (F : Fun K "reached" "reached" sRea f fd) (T : Bi mg) (U : Hs K mg C) (bm : BMeth K C "neighbours" g) (d_first_paths : Df P w K mg base "first_paths" ["steps", "start", "inside"] 2 (spFp K C g) fF fdF) : FnOk P w K mg base CX0 3 f fd ["house", "start", "inside"] (spRea K C) := by
  refine F.ok scRea (fun vs H Q E h => ?_) (fun cdv A outer s0 H vs Q E hr h => ?_)
  · obtain ⟨p, o, s, R, r, D, own, rfl, _⟩ := h
    rfl
  · obtain ⟨p, o, s, R, r, D, own, rfl, hh, ho, hR, ret⟩ := h
    refine ⟨_, (pss_one (ps_ret (pe_callTy call_tuple_of (by rfl) T.tuple (by decide +kernel) (pa_cons (pe_callB (call_sortedDI rfl) (by rfl) T.sorted (by decide +kernel) (pa_cons (pe_call d_first_paths.ok (hr.mono (by decide)) (by rfl) d_first_paths.at_ d_first_paths.kp d_first_paths.b .nil pass0 (pa_cons (pe_bnd (pv 0) U.cl bm) (pa_cons (pv 1) (pa_cons (pv 2) pa_nil)))) pa_nil)) pa_nil)))), ?_⟩
    walk_at "rd"
    obtain ⟨dx, l0, m0, ls, nss, h1, _⟩ := hh.ex
    refine ⟨_, rfl, p, dx, _, rfl, h1, hf_no _ _ _ (by decide +kernel) (by decide +kernel) (by decide +kernel), fun q nq => ?_⟩
    have s1 : Same H (upd H q (HO.met g p)) := same_upd nq
    refine ⟨q, o, p, s, R, r, D, own, rfl, upd_same, hh.same s1, ho.same s1, hR, fun d kvs ks H' s2 nd hd ke knd rc => ?_⟩
    have kl : ks.length ≤ r := ints_len knd fun x hx => hR x ((rc x).mp hx).mem
    have r12 := hh.r12
    walk_at "rd"
    refine ⟨kvs, .inl hd, ks, ke, by omega, fun ys t1 pm so nt1 => ⟨_, .inl ⟨SqL.of upd_same, fun t2 nt2 => ?_⟩⟩⟩
    have s3 := s1.trans s2
    have s4 := (s3.trans (same_upd (o := HO.lst (ys.map V.int)) nt1))
    exact ret ys t2 _ ⟨up_of pm knd so, fun x => pm.mem_iff.trans (rc x)⟩ (s4.trans (same_upd nt2)) (s4.free nt2) upd_same
theorem scPcs : FnScope ["house", "rooms", "found", "left", "piece", "room"] ["house", "rooms"] (defScope sPcs) := ⟨rfl, rfl, rfl, by decide +kernel, rfl, by decide +kernel, by decide +kernel⟩
def spPcs (K : PySem.W.Frag) (C : Addr) : Sp := fun vs H Q _ => ∃ (p o : Addr) (R : List Int) (r : Nat) (D : List Pr) (own : List Addr), vs = [.ref p, .ref o] ∧ HouseAt C H p r D own ∧ SeqI K H o R ∧ R.length < 64 ∧ (∀ x ∈ R, 0 ≤ x ∧ x < r) ∧
  ∀ (L : List (List Int)) (us : List V) (t : Addr) (H' : Hp), Pcs D R L → Same H H' → H t = none → H' t = some (.lst us) → RL H' us L → Q (.ref t) H'
theorem ok_pcs {f C fR : Addr} {fd fdR : FuncData} (F : Fun K "pieces" "pieces" sPcs f fd) (T : Bi mg) (d_reached : Df P w K mg base "reached" ["house", "start", "inside"] 3 (spRea K C) fR fdR) : FnOk P w K mg base CX0 4 f fd ["house", "rooms"] (spPcs K C) := by
  refine F.ok scPcs (fun vs H Q E h => ?_) (fun cdv A outer s0 H vs Q E hr h => ?_)
  · obtain ⟨p, o, R, r, D, own, rfl, _⟩ := h
    rfl
  · obtain ⟨p, o, R, r, D, own, rfl, hh, ho, h64, hR, ret⟩ := h
    refine ⟨_, (pss_cons (ps_set (i := 2) scPcs.nd rfl (Or.inl rfl) (pe_lst pa_nil))
      (pss_cons (ps_set (i := 3) scPcs.nd rfl (Or.inl rfl) (pe_callB cr_sortTup (by rfl) T.sorted (by decide +kernel) (pa_cons (pv 1) pa_nil)))
      (pss_cons (ps_while PassesOwn.never (pt_truth (pv 3) (by intro _; rfl))
      (pss_cons (ps_set (i := 4) scPcs.nd rfl (Or.inr rfl) (pe_call d_reached.ok (hr.mono (by decide)) (by rfl) d_reached.at_ d_reached.kp d_reached.b .nil pass0 (pa_cons (pv 0) (pa_cons (pe_ix ix_list (pv 3) pe_int (fun _ _ => rfl)) (pa_cons (pv 3) pa_nil)))))
        (pss_cons (ps_expr (pe_bm PySem.F.plainAttrs_list PySem.F.slot_list_append PySem.F.type_list_append mt_append (pv 2) (pa_cons (pv 4) pa_nil)))
        (pss_one (ps_setLc (i := 3) (own := [("room", 5)]) (tt := tTest (tOp (rIn K true) (tVar 5) (tVar 4))) (by rfl) scPcs.nd rfl rfl (sw_true rfl rfl rfl (by decide +kernel)) (pi_list (pv 3)) (blkOk_by (N := ["house", "rooms", "found", "left", "piece", "room"]) (sc := defScope sPcs) (by decide +kernel)) (fun _ _ _ _ _ => pg_name (i := 5) scPcs.nd rfl (Or.inl rfl)) (fun _ _ _ _ _ => (pts_one (pt_cmpR op_notIn_seq (pv 5) (pv 4) (by rfl)))) (fun _ _ _ _ _ => (pv 5)))))))
      (pss_one (ps_ret (pv 2)))))), ?_⟩
    walk_at "rd"
    refine ⟨Nat.zero_le _, fun fnd nf => ?_⟩
    have s1 : Same H (upd H fnd (HO.lst [])) := same_upd nf
    refine ⟨o, R, rfl, ho.same s1, h64, fun S lf0 pS sS nl0 => ?_⟩
    have s2 := s1.trans (same_upd (o := HO.lst (S.map V.int)) nl0)
    obtain ⟨Pv, hPv⟩ : ∃ Pv : L2.St → Hp → Prop, Pv = (fun σ H' => ∃ (L : List (List Int)) (us : List V) (lf : Addr) (Lf : List Int) (v4 : Option V), σ = [some (.ref p), some (.ref o), some (.ref fnd), some (.ref lf), v4, none] ∧ Same H H' ∧ H' fnd = some (.lst us) ∧ RL H' us L ∧ H' lf = some (.lst (Lf.map V.int)) ∧ PInv D R L Lf ∧ L.length + Lf.length ≤ 100 ∧ fnd ≠ lf) := ⟨_, rfl⟩
    obtain ⟨mu, hmu⟩ : ∃ mu : L2.St → Hp → Nat, mu = (fun (σ : L2.St) (H' : Hp) => match (σ[3]? : Option (Option V)) with
      | some (some (.ref lf)) => (match H' lf with
        | some (.lst ws) => ws.length
        | _ => 0)
      | _ => 0) := ⟨_, rfl⟩
    refine while_by Pv mu ?h0 (fun σ H2 pv => ?hs) (fun σ H2 Q1 Q2 hi h => ?mono)
    case h0 =>
      rw [hPv]
      exact ⟨[], [], lf0, S, none, rfl, s2, same_upd nl0 _ _ upd_same, RL.nil0 _, upd_same, PInv.start (fun x => pS.mem_iff) sS, by have := pS.length_eq; show 0 + S.length ≤ 100; omega, ne_of_none upd_same nl0⟩
    case mono =>
      obtain ⟨v, g1, k, tv, q1⟩ := h
      exact ⟨v, g1, k, tv, hi _ _ q1⟩
    case hs =>
      rw [hPv] at pv
      obtain ⟨L, us, lf, Lf, v4, rfl, sm, hf, rl, hl, pi, bd, nfl⟩ := pv
      refine ⟨.ref lf, rfl, !(Lf.map V.int).isEmpty, .inl ⟨_, SqL.of hl, rfl⟩, ?_⟩
      cases Lf with
      | nil =>
        refine iteF ?_
        walk_at "rd"
        exact ret L us fnd H2 pi.done sm nf hf rl
      | cons l0 Lf =>
        refine iteT ?_
        have mu0 : mu [some (V.ref p), some (V.ref o), some (V.ref fnd), some (V.ref lf), v4, none] H2 = Lf.length + 1 := by
          rw [hmu]
          show (match H2 lf with
            | some (.lst ws) => ws.length
            | _ => 0) = _
          rw [hl]
          show (List.map V.int (l0 :: Lf)).length = _
          rw [List.length_map]
          rfl
        rw [mu0]
        have lR : ∀ x ∈ l0 :: Lf, 0 ≤ x ∧ x < r := fun x hx => hR x ((pi.lf x).mp hx).1
        walk_at "rd"
        refine ⟨_, SqL.of hl, .int l0, at_of (j := 0) rfl rfl, p, lf, l0, l0 :: Lf, r, D, own, rfl, hh.same sm, .inl (SqL.of hl), lR, fun ys t H3 pc s3 nt ht => ?_⟩
        walk_at "rd"
        have hf3 := s3 _ _ hf
        have rl3 := rl.kt (KT.same s3)
        have s03 := sm.trans s3
        have hl3 := s3 _ _ hl
        have bd3 : L.length + (Lf.length + 1) ≤ 100 := bd
        refine ⟨.inl ⟨rfl, _, SqL.of hf3⟩, us, hf3, len_big (by rw [rl.len]; omega), ?_⟩
        have s4 := same_ch (o := HO.lst (us ++ [V.ref t])) s03 nf
        have hl4 : upd H3 fnd (HO.lst (us ++ [V.ref t])) lf = some (.lst ((l0 :: Lf).map V.int)) := by rw [upd_ne nfl.symm]; exact hl3
        have ht4 : upd H3 fnd (HO.lst (us ++ [V.ref t])) t = some (.tup (ys.map V.int)) := by rw [upd_ne (ne_of ht hf3 (by intro z; cases z))]; exact ht
        have hf4 : upd H3 fnd (HO.lst (us ++ [V.ref t])) fnd = some (.lst (us ++ [V.ref t])) := upd_same
        have rl4 : RL (upd H3 fnd (HO.lst (us ++ [V.ref t]))) (us ++ [V.ref t]) (L ++ [ys]) := RL.snoc (rl3.kt (KT.lst hf3)) ⟨t, rfl, ht4⟩
        generalize upd H3 fnd (HO.lst (us ++ [V.ref t])) = H4 at s4 hl4 ht4 hf4 rl4
        refine ⟨_, rfl, lf, rfl, ⟨_, SqL.of hl4⟩, fun gg ng => ?_⟩
        obtain ⟨Pw, hPw⟩ : ∃ Pw : Nat → Hp → Prop, Pw = (fun j Hx => Same H4 Hx ∧ Hx gg = some (.lst ((((l0 :: Lf).take j).filter fun x => decide (x ∉ ys)).map V.int))) := ⟨_, rfl⟩
        refine lc_list (K := K) (a := lf) (xs := (l0 :: Lf).map V.int) Pw (by rw [hPw]; exact ⟨same_upd ng, upd_same⟩) (fun j Hx _ pv => by rw [hPw] at pv; exact SqL.of (pv.1 _ _ hl4)) (fun j v Hx gv pv => ?_) (fun Hx pv => ?_)
        · have nxt : ∀ Hx, Same H4 Hx → Hx gg = some (.lst ((((l0 :: Lf).take (j + 1)).filter fun x => decide (x ∉ ys)).map V.int)) → Pw (j + 1) Hx := fun Hx h1 h2 => by
            rw [hPw]
            exact ⟨h1, h2⟩
          rw [hPw] at pv
          obtain ⟨s5, hg⟩ := pv
          rw [List.getElem?_map] at gv
          cases gd : (l0 :: Lf)[j]? with
          | none => rw [gd] at gv; cases gv
          | some x =>
            rw [gd] at gv
            have ev := Option.some.inj gv
            subst ev
            rw [List.take_add_one, gd, List.filter_append, List.map_append] at nxt
            have tl : (((l0 :: Lf).take j).filter fun x => decide (x ∉ ys)).length ≤ 100 := by
              have e1 := List.length_filter_le (fun x => decide (x ∉ ys)) ((l0 :: Lf).take j)
              rw [List.length_take, List.length_cons] at e1
              omega
            simp only [wipe]
            walk_at "rd"
            refine ⟨t, _, rfl, .inr (SqT.of (s5 _ _ ht4)), rfl, flI _, ?_⟩
            rw [inI]
            by_cases m : x ∈ ys
            · rw [decide_eq_true m]
              refine ⟨_, rfl, iteF ?_⟩
              refine nxt Hx s5 ?_
              show _ = some (HO.lst (_ ++ ([x].filter _).map V.int))
              rw [List.filter_cons_of_neg (by simp [m])]
              rw [hg]
              simp
            · rw [decide_eq_false m]
              refine ⟨_, rfl, iteT ⟨_, hg, len_big (by rw [List.length_map]; omega), nxt _ (same_ch s5 ng) ?_⟩⟩
              show _ = some (HO.lst (_ ++ ([x].filter _).map V.int))
              rw [List.filter_cons_of_pos (by simp [m]), upd_same]
              rfl
        · rw [hPw] at pv
          obtain ⟨s5, hg⟩ := pv
          rw [List.length_map, List.take_length] at hg
          have fl : ((l0 :: Lf).filter fun x => decide (x ∉ ys)).length ≤ Lf.length := by
            have m0 : l0 ∈ ys := pc.self List.mem_cons_self
            rw [List.filter_cons_of_neg (by simp [m0])]
            exact List.length_filter_le _ _
          have s8 := s4.trans s5
          refine ⟨?_, ?_⟩
          · rw [hPv]
            exact ⟨L ++ [ys], us ++ [.ref t], gg, _, some (.ref t), rfl, s8, s5 _ _ hf4, rl4.kt (KT.same s5), hg, pi.step pc, by rw [List.length_append]; show L.length + 1 + _ ≤ 100; omega, ne_of_none hf4 ng⟩
          · rw [hmu]
            show (match Hx gg with
              | some (.lst ws) => ws.length
              | _ => 0) < _
            rw [hg]
            show (List.map V.int _).length < _
            rw [List.length_map]
            omega
end

abbrev sLre : Stmt := topS 40
abbrev sLpc : Stmt := topS 41
theorem int_sub_len {l m : List Int} (nd : l.Nodup) (h : ∀ x ∈ l, x ∈ m) (p : ∀ x ∈ m, 0 ≤ x) : l.length ≤ m.length := by
  have h1 : (l.map Int.toNat).Nodup := by
    refine List.pairwise_map.mpr (List.Pairwise.imp_of_mem (fun {x y} hx hy ne e => ?_) nd)
    have b1 := p x (h x hx)
    have b2 := p y (h y hy)
    omega
  have h2 := nat_nodup_len _ (m.map Int.toNat) h1 fun c hc => by
    obtain ⟨x, hx, rfl⟩ := List.mem_map.mp hc
    exact List.mem_map.mpr ⟨x, h x hx, rfl⟩
  rw [List.length_map, List.length_map] at h2
  exact h2
theorem FInv.full {D : List Pr} {R F : List Int} {s : Int} (h : FInv D R s F) (p : ∀ x ∈ R, 0 ≤ x) (l : R.length ≤ F.length) : Clo D R F := fun a ha b hb ab => Classical.byContradiction fun n => by
  have h2 := h.add ha hb ab n
  have := int_sub_len h2.nd (fun x hx => (h2.rc x hx).mem) p
  rw [List.length_append] at this
  have e : F.length + 1 ≤ R.length := this
  omega
/-- the doors so far lead nowhere new -/
def Cl1 (R F : List Int) (E : List Pr) : Prop := ∀ d ∈ E, (d.1 ∈ F → d.2 ∈ R → d.2 ∈ F) ∧ (d.2 ∈ F → d.1 ∈ R → d.1 ∈ F)
theorem Cl1.clo {D : List Pr} {R F : List Int} (h : Cl1 R F D) : Clo D R F := fun a ha b hb ab => by
  rcases ab with m | m
  · exact (h _ m).1 ha hb
  · exact (h _ m).2 ha hb
theorem half {K : PySem.W.Frag} {i j : Nat} {x y : Int} {fnd o : Addr} {Fc R : List Int} {D : Ends} {σ : L2.St} {H : Hp} (g1 : σ[i]? = some (some (.int x))) (g2 : σ[j]? = some (some (.int y))) (g3 : σ[3]? = some (some (.ref fnd))) (g4 : σ[2]? = some (some (.ref o))) (hf : H fnd = some (.lst (Fc.map V.int))) (ho : SeqI K H o R) (hl : Fc.length ≤ 1000)
    (no : ¬ (x ∈ Fc ∧ y ∈ R ∧ y ∉ Fc) → D.nx σ H) (yes : x ∈ Fc → y ∈ R → y ∉ Fc → D.nx σ (upd H fnd (.lst ((Fc ++ [y]).map V.int)))) :
    tIfS (tAnd (tTest (tOp (rIn K false) (tVar i) (tVar 3))) (tAnd (tTest (tOp (rIn K false) (tVar j) (tVar 2))) (tTest (tOp (rIn K true) (tVar j) (tVar 3))))) (tDrop (tBM K "list" rAppend (tVar 3) (tCons (tVar j) tNil))) tNext D σ H := by
  refine ⟨_, g1, _, g3, fnd, _, rfl, .inl (SqL.of hf), rfl, flI _, ?_⟩
  rw [inI]
  refine ⟨_, rfl, ?_⟩
  by_cases h1 : x ∈ Fc
  · rw [decide_eq_true h1]
    refine iteT ⟨_, g2, _, g4, o, _, rfl, ho, rfl, flI _, ?_⟩
    rw [inI]
    refine ⟨_, rfl, ?_⟩
    by_cases h2 : y ∈ R
    · rw [decide_eq_true h2]
      refine iteT ⟨_, g2, _, g3, fnd, _, rfl, .inl (SqL.of hf), rfl, flI _, ?_⟩
      rw [inI]
      refine ⟨_, rfl, ?_⟩
      by_cases h3 : y ∈ Fc
      · rw [decide_eq_true h3]
        exact iteF (no fun z => z.2.2 h3)
      · rw [decide_eq_false h3]
        refine iteT ⟨_, g3, .inl ⟨rfl, _, SqL.of hf⟩, _, g2, ?_⟩
        walk_at "rd"
        refine ⟨_, hf, len_big (by rw [List.length_map]; omega), ?_⟩
        have q := yes h1 h2 h3
        rw [List.map_append] at q
        exact q
    · rw [decide_eq_false h2]
      exact iteF (no fun z => h2 z.2.1)
  · rw [decide_eq_false h1]
    exact iteF (no fun z => h1 z.1)
section
variable {P : Program} {w : World} {K : PySem.W.Frag} {mg : Str → Option Value} {base : Heap}
theorem scLre : FnScope ["doors", "start", "inside", "found", "k", "before", "a", "b"] ["doors", "start", "inside"] (defScope sLre) := ⟨rfl, rfl, rfl, by decide +kernel, rfl, by decide +kernel, by decide +kernel⟩
def spLre (K : PySem.W.Frag) : Sp := fun vs H Q _ => ∃ (l o : Addr) (s : Int) (us : List V) (D : List Pr) (R : List Int), vs = [.ref l, .int s, .ref o] ∧ H l = some (.lst us) ∧ PL H us D ∧ SeqI K H o R ∧ R.length < 64 ∧ (∀ x ∈ R, 0 ≤ x) ∧
  ∀ (ys : List Int) (t : Addr) (H' : Hp), Pc D R s ys → Same H H' → H t = none → H' t = some (.lst (ys.map V.int)) → Q (.ref t) H'
theorem ok_lre {f : Addr} {fd : FuncData} (F : Fun K "_law_reach" "_law_reach" sLre f fd) (T : Bi mg) : FnOk P w K mg base CX0 1 f fd ["doors", "start", "inside"] (spLre K) := by
  refine F.ok scLre (fun vs H Q E h => ?_) (fun cdv A outer s0 H vs Q E hr h => ?_)
  · obtain ⟨l, o, s, us, D, R, rfl, _⟩ := h
    rfl
  · obtain ⟨l, o, s, us, D, R, rfl, hl, pl, ho, h64, hR, ret⟩ := h
    refine ⟨_, (pss_cons (ps_set (i := 3) scLre.nd rfl (Or.inl rfl) (pe_lst pa_nil))
      (pss_cons (ps_if (pt_cmpR op_in_seq (pv 1) (pv 2) (by rfl))
      (pss_one (ps_expr (pe_bm PySem.F.plainAttrs_list PySem.F.slot_list_append PySem.F.type_list_append mt_append (pv 3) (pa_cons (pv 1) pa_nil))))
      pss_nil)
      (pss_cons (ps_for PassesOwn.never rfl (pi_range1 (by rfl) T.range (pa_cons (pe_callB call_len_seq (by rfl) T.len (by decide +kernel) (pa_cons (pv 2) pa_nil)) pa_nil)) (pg_name (i := 4) scLre.nd rfl (Or.inl rfl))
      (pss_cons (ps_set (i := 5) scLre.nd rfl (Or.inl rfl) (pe_callB call_len_seq (by rfl) T.len (by decide +kernel) (pa_cons (pv 3) pa_nil)))
        (pss_cons (ps_for PassesOwn.never rfl (pi_list (pv 0)) (pg_tup rfl (pgs_cons (pg_name (i := 6) scLre.nd rfl (Or.inl rfl)) (pgs_cons (pg_name (i := 7) scLre.nd rfl (Or.inl rfl)) pgs_nil)))
        (pss_cons (ps_if (PW.pt (pw_and (pt_cmpR op_in_seq (pv 6) (pv 3) (by rfl)) (pw_and (pt_cmpR op_in_seq (pv 7) (pv 2) (by rfl)) (pw_and1 (pt_cmpR op_notIn_seq (pv 7) (pv 3) (by rfl))))))
          (pss_one (ps_expr (pe_bm PySem.F.plainAttrs_list PySem.F.slot_list_append PySem.F.type_list_append mt_append (pv 3) (pa_cons (pv 7) pa_nil))))
          pss_nil)
          (pss_one (ps_if (PW.pt (pw_and (pt_cmpR op_in_seq (pv 7) (pv 3) (by rfl)) (pw_and (pt_cmpR op_in_seq (pv 6) (pv 2) (by rfl)) (pw_and1 (pt_cmpR op_notIn_seq (pv 6) (pv 3) (by rfl))))))
          (pss_one (ps_expr (pe_bm PySem.F.plainAttrs_list PySem.F.slot_list_append PySem.F.type_list_append mt_append (pv 3) (pa_cons (pv 6) pa_nil))))
          pss_nil))))
        (pss_one (ps_if (pt_cmpR op_eqI (pe_callB call_len_seq (by rfl) T.len (by decide +kernel) (pa_cons (pv 3) pa_nil)) (pv 5) (nomark _))
        (pss_one (ps_break))
        pss_nil)))))
      (pss_one (ps_ret (pe_callB cr_sorted (by rfl) T.sorted (by decide +kernel) (pa_cons (pv 3) pa_nil))))))), ?_⟩
    walk_at "rd"
    refine ⟨Nat.zero_le _, fun fnd nf => ?_⟩
    have s1 : Same H (upd H fnd (HO.lst [])) := same_upd nf
    refine ⟨o, _, rfl, ho.same s1, rfl, flI _, ?_⟩
    rw [inI]
    refine ⟨_, rfl, ?_⟩
    by_cases m : s ∈ R
    rw [decide_eq_true m]
    refine iteT ?_
    walk_at "rd"
    refine ⟨.inl ⟨rfl, _, SqL.of upd_same⟩, [], upd_same, by decide, ?_⟩
    have s2 : Same H (upd (upd H fnd (HO.lst [])) fnd (HO.lst ([] ++ [V.int s]))) := same_ch s1 nf
    have pk : ∃ F0 : List Int, upd (upd H fnd (HO.lst [])) fnd (HO.lst ([] ++ [V.int s])) fnd = some (.lst (F0.map V.int)) ∧ FInv D R s F0 :=
      ⟨[s], upd_same, (by simp), fun x hx => (by rw [List.mem_singleton.mp hx]; exact .base m), fun _ => List.mem_cons_self⟩
    generalize upd (upd H fnd (HO.lst [])) fnd (HO.lst ([] ++ [V.int s])) = H1 at s2 pk
    rotate_left
    rw [decide_eq_false m]
    refine iteF ?_
    have s2 := s1
    have pk : ∃ F0 : List Int, upd H fnd (HO.lst []) fnd = some (.lst (F0.map V.int)) ∧ FInv D R s F0 := ⟨[], upd_same, List.nodup_nil, fun x hx => (by cases hx), fun z => absurd z m⟩
    generalize upd H fnd (HO.lst []) = H1 at s1 s2 pk
    all_goals
      clear s1
      obtain ⟨F0, hF0, fi0⟩ := pk
      have ul : us.length = D.length := pl.len
      have flen : ∀ F : List Int, FInv D R s F → F.length ≤ R.length := fun F fi => int_sub_len fi.nd (fun x hx => (fi.rc x hx).mem) hR
      refine for_iterW ?_
      walk_at "rd"
      obtain ⟨Pv, hPv⟩ : ∃ Pv : Nat → L2.St → Hp → Prop, Pv = (fun i σ H' => ∃ (F : List Int) (v4 v5 v6 v7 : Option V), σ = [some (.ref l), some (.int s), some (.ref o), some (.ref fnd), v4, v5, v6, v7] ∧ Same H H' ∧ H' fnd = some (.lst (F.map V.int)) ∧ FInv D R s F ∧ i ≤ F.length) := ⟨_, rfl⟩
      refine ⟨R.map V.int, ho.same s2, by rw [List.length_map]; omega, by rw [List.length_map]; omega, for_range (lo := 0) (n := (((R.map V.int).length : Nat) : Int).toNat) Pv (by rw [hPv]; exact ⟨F0, none, none, none, none, rfl, s2, hF0, fi0, Nat.zero_le _⟩) (fun i σ H2 hi pv => ?body) (fun σ H2 pv => ?done)⟩
      case done =>
        rw [hPv] at pv
        obtain ⟨F, v4, v5, v6, v7, rfl, sm, hF, fi, le⟩ := pv
        rw [List.length_map, Int.toNat_natCast] at le
        have clo := fi.full hR le
        have fl := flen F fi
        walk_at "rd"
        refine ⟨_, F, rfl, SqL.of hF, by omega, fun ys t pm so nt => ?_⟩
        exact ret ys t _ ⟨up_of pm fi.nd so, fun x => pm.mem_iff.trans (fi.all clo x)⟩ (sm.trans (same_upd nt)) (sm.free nt) upd_same
      case body =>
        rw [hPv] at pv
        obtain ⟨F, v4, v5, v6, v7, rfl, sm, hF, fi, le⟩ := pv
        have hl2 := sm _ _ hl
        have pl2 := pl.kt (KT.same sm)
        walk_at "rg"
        refine ⟨_, rfl, fnd, rfl, F.map V.int, .inl (SqL.of hF), ?_⟩
        walk_at "rg"
        refine for_iterW ?_
        obtain ⟨Pw, hPw⟩ : ∃ Pw : Nat → L2.St → Hp → Prop, Pw = (fun j σ H' => ∃ (G : List Int) (v6 v7 : Option V), σ = [some (.ref l), some (.int s), some (.ref o), some (.ref fnd), some (.int (0 + (i : Int))), some (.int ((F.map V.int).length : Nat)), v6, v7] ∧ Same H H' ∧ H' fnd = some (.lst ((F ++ G).map V.int)) ∧ FInv D R s (F ++ G) ∧ (G = [] → Cl1 R F (D.take j))) := ⟨_, rfl⟩
        refine ⟨_, rfl, l, rfl, ⟨_, SqL.of hl2⟩, for_list (K := K) (a := l) (xs := us) Pw (by rw [hPw]; exact ⟨[], v6, v7, rfl, sm, by rw [List.append_nil]; exact hF, by rw [List.append_nil]; exact fi, fun _ d hd => by rw [List.take_zero] at hd; cases hd⟩) (fun j σ H' _ pv => by rw [hPw] at pv; obtain ⟨_, _, _, _, s5, _⟩ := pv; exact SqL.of (s5 _ _ hl)) (fun j v σ H3 gv pv => ?inner) (fun σ H3 pv => ?after)⟩
        case after =>
          rw [hPw] at pv
          obtain ⟨G, v6, v7, rfl, s5, hG, fi5, cl5⟩ := pv
          rw [ul, List.take_length] at cl5
          have fl := flen _ fi5
          rw [List.length_append] at fl
          walk_at "rd"
          refine ⟨_, .inl (SqL.of hG), ?_⟩
          rw [List.length_map, List.length_map, List.length_append]
          cases G with
          | nil =>
            rw [List.append_nil] at hG fi5
            refine ite2 (fun _ => ?_) (fun z => (by simp at z))
            refine ⟨_, F, rfl, SqL.of hG, by omega, fun ys t pm so nt => ?_⟩
            exact ret ys t _ ⟨up_of pm fi5.nd so, fun x => pm.mem_iff.trans (fi5.all (cl5 rfl).clo x)⟩ (s5.trans (same_upd nt)) (s5.free nt) upd_same
          | cons g0 G =>
            refine ite2 (fun z => absurd z (by rw [List.length_cons]; omega)) (fun _ => ?_)
            rw [hPv]
            exact ⟨F ++ g0 :: G, _, _, _, _, rfl, s5, hG, fi5, by rw [List.length_append, List.length_cons]; omega⟩
        case inner =>
          have nxt : ∀ (G : List Int) (v6 v7 : Option V) (H' : Hp), Same H H' → H' fnd = some (.lst ((F ++ G).map V.int)) → FInv D R s (F ++ G) → (G = [] → Cl1 R F (D.take (j + 1))) → Pw (j + 1) [some (.ref l), some (.int s), some (.ref o), some (.ref fnd), some (.int (0 + (i : Int))), some (.int ((F.map V.int).length : Nat)), v6, v7] H' := fun G v6 v7 H' h1 h2 h3 h4 => by
            rw [hPw]
            exact ⟨G, v6, v7, rfl, h1, h2, h3, h4⟩
          rw [hPw] at pv
          obtain ⟨G, v6, v7, rfl, s5, hG, fi5, cl5⟩ := pv
          obtain ⟨d, gd, td, rfl, htd⟩ := lget pl gv
          have fl := flen _ fi5
          have dD : d ∈ D := List.mem_of_getElem? gd
          have tk : D.take (j + 1) = D.take j ++ [d] := by rw [List.take_add_one, gd]; rfl
          rw [tk] at nxt
          walk_at "rg"
          refine ⟨_, SqT.of (s5 _ _ htd), rfl, _, _, rfl, _, _, rfl, rfl, ?_⟩
          walk_at "rg"
          refine half (R := R) rfl rfl rfl rfl hG (ho.same s5) (by omega) (fun n1 => ?_) (fun a1 b1 c1 => ?_)
          · refine half (R := R) rfl rfl rfl rfl hG (ho.same s5) (by omega) (fun n2 => ?_) (fun a2 b2 c2 => ?_)
            · refine nxt G _ _ H3 s5 hG fi5 fun e => ?_
              subst e
              rw [List.append_nil] at n1 n2
              intro c hc
              rcases List.mem_append.mp hc with z | z
              · exact cl5 rfl c z
              · rw [List.mem_singleton.mp z]
                exact ⟨fun h1 h2 => Classical.byContradiction fun h3 => n1 ⟨h1, h2, h3⟩, fun h1 h2 => Classical.byContradiction fun h3 => n2 ⟨h1, h2, h3⟩⟩
            · rw [List.append_assoc]
              refine nxt (G ++ [d.1]) _ _ _ (same_ch s5 nf) (by rw [upd_same]) ?_ (fun e => absurd e (by simp))
              rw [← List.append_assoc]
              exact fi5.add a2 b2 (.inr dD) c2
          · have fi6 := fi5.add a1 b1 (.inl dD) c1
            have fl6 := flen _ fi6
            have s6 := same_ch (o := HO.lst ((F ++ G ++ [d.2]).map V.int)) s5 nf
            have hG6 : upd H3 fnd (HO.lst ((F ++ G ++ [d.2]).map V.int)) fnd = some (.lst ((F ++ G ++ [d.2]).map V.int)) := upd_same
            generalize upd H3 fnd (HO.lst ((F ++ G ++ [d.2]).map V.int)) = H6 at s6 hG6
            refine half (R := R) rfl rfl rfl rfl hG6 (ho.same s6) (by omega) (fun n2 => ?_) (fun a2 b2 c2 => ?_)
            · refine nxt (G ++ [d.2]) _ _ H6 s6 (by rw [← List.append_assoc]; exact hG6) (by rw [← List.append_assoc]; exact fi6) (fun e => absurd e (by simp))
            · rw [List.append_assoc, List.append_assoc]
              refine nxt (G ++ ([d.2] ++ [d.1])) _ _ _ (same_ch s6 nf) (by rw [upd_same]) ?_ (fun e => absurd e (by simp))
              rw [← List.append_assoc, ← List.append_assoc]
              exact fi6.add a2 b2 (.inr dD) c2
theorem scLpc : FnScope ["doors", "rooms", "found", "done", "room", "piece"] ["doors", "rooms"] (defScope sLpc) := ⟨rfl, rfl, rfl, by decide +kernel, rfl, by decide +kernel, by decide +kernel⟩
def spLpc (K : PySem.W.Frag) : Sp := fun vs H Q _ => ∃ (l o : Addr) (us : List V) (D : List Pr) (R : List Int), vs = [.ref l, .ref o] ∧ H l = some (.lst us) ∧ PL H us D ∧ SeqI K H o R ∧ R.length < 64 ∧ (∀ x ∈ R, 0 ≤ x) ∧
  ∀ (L : List (List Int)) (ws : List V) (t : Addr) (H' : Hp), Pcs D R L → Same H H' → H t = none → H' t = some (.lst ws) → RL H' ws L → Q (.ref t) H'
theorem ok_lpc {f fR : Addr} {fd fdR : FuncData} (F : Fun K "_law_pieces" "_law_pieces" sLpc f fd) (T : Bi mg) (d__law_reach : Df P w K mg base "_law_reach" ["doors", "start", "inside"] 1 (spLre K) fR fdR) : FnOk P w K mg base CX0 2 f fd ["doors", "rooms"] (spLpc K) := by
  refine F.ok scLpc (fun vs H Q E h => ?_) (fun cdv A outer s0 H vs Q E hr h => ?_)
  · obtain ⟨l, o, us, D, R, rfl, _⟩ := h
    rfl
  · obtain ⟨l, o, us, D, R, rfl, hl, pl, ho, h64, hR, ret⟩ := h
    refine ⟨_, (pss_cons (ps_set (i := 2) scLpc.nd rfl (Or.inl rfl) (pe_lst pa_nil))
      (pss_cons (ps_set (i := 3) scLpc.nd rfl (Or.inl rfl) (pe_lst pa_nil))
      (pss_cons (ps_for PassesOwn.never rfl (pi_list (pe_callB cr_sortTup (by rfl) T.sorted (by decide +kernel) (pa_cons (pv 1) pa_nil))) (pg_name (i := 4) scLpc.nd rfl (Or.inl rfl))
      (pss_one (ps_if (pt_cmpR op_notIn_seq (pv 4) (pv 3) (by rfl))
        (pss_cons (ps_set (i := 5) scLpc.nd rfl (Or.inl rfl) (pe_call d__law_reach.ok (hr.mono (by decide)) (by rfl) d__law_reach.at_ d__law_reach.kp d__law_reach.b .nil pass0 (pa_cons (pv 0) (pa_cons (pv 4) (pa_cons (pv 1) pa_nil)))))
          (pss_cons (ps_expr (pe_bm PySem.F.plainAttrs_list PySem.F.slot_list_extend PySem.F.type_list_extend mt_extend (pv 3) (pa_cons (pv 5) pa_nil)))
          (pss_one (ps_expr (pe_bm PySem.F.plainAttrs_list PySem.F.slot_list_append PySem.F.type_list_append mt_append (pv 2) (pa_cons (pe_callTy call_tuple_of (by rfl) T.tuple (by decide +kernel) (pa_cons (pv 5) pa_nil)) pa_nil))))))
        pss_nil)))
      (pss_one (ps_ret (pv 2)))))), ?_⟩
    walk_at "rd"
    refine ⟨Nat.zero_le _, fun fnd nf => ⟨Nat.zero_le _, fun dn nd => ?_⟩⟩
    have s1 : Same H (upd (upd H fnd (HO.lst [])) dn (HO.lst [])) := (same_upd nf).trans (same_upd nd)
    have hf1 : upd (upd H fnd (HO.lst [])) dn (HO.lst []) fnd = some (.lst []) := same_upd nd _ _ upd_same
    have hd1 : upd (upd H fnd (HO.lst [])) dn (HO.lst []) dn = some (.lst []) := upd_same
    have nd0 : H dn = none := (same_upd nf).free nd
    have nfd : fnd ≠ dn := ne_of_none upd_same nd
    generalize upd (upd H fnd (HO.lst [])) dn (HO.lst []) = H1 at s1 hf1 hd1
    refine for_iterW ?_
    walk_at "rd"
    refine ⟨o, R, rfl, ho.same s1, h64, fun S lf0 pS sS nl0 => ?_⟩
    have s2 := s1.trans (same_upd (o := HO.lst (S.map V.int)) nl0)
    have hf2 : upd H1 lf0 (HO.lst (S.map V.int)) fnd = some (.lst []) := same_upd nl0 _ _ hf1
    have hd2 : upd H1 lf0 (HO.lst (S.map V.int)) dn = some (.lst []) := same_upd nl0 _ _ hd1
    have hS2 : upd H1 lf0 (HO.lst (S.map V.int)) lf0 = some (.lst (S.map V.int)) := upd_same
    have nlf : fnd ≠ lf0 := ne_of_none hf1 nl0
    have nld : dn ≠ lf0 := ne_of_none hd1 nl0
    generalize upd H1 lf0 (HO.lst (S.map V.int)) = H2 at s2 hf2 hd2 hS2
    have sl : S.length < 64 := by rw [pS.length_eq]; exact h64
    have smm : ∀ x, x ∈ S ↔ x ∈ R := fun x => pS.mem_iff
    obtain ⟨Pv, hPv⟩ : ∃ Pv : Nat → L2.St → Hp → Prop, Pv = (fun j σ H' => ∃ (L : List (List Int)) (ws : List V) (dd : List Int) (v4 v5 : Option V), σ = [some (.ref l), some (.ref o), some (.ref fnd), some (.ref dn), v4, v5] ∧ Same H H' ∧ H' fnd = some (.lst ws) ∧ RL H' ws L ∧ H' dn = some (.lst (dd.map V.int)) ∧ H' lf0 = some (.lst (S.map V.int)) ∧ LInv D R S j L dd ∧ L.length ≤ j ∧ dd.length ≤ 64 * j) := ⟨_, rfl⟩
    refine ⟨lf0, rfl, ⟨_, SqL.of hS2⟩, for_list (K := K) (a := lf0) (xs := S.map V.int) Pv (by rw [hPv]; exact ⟨[], [], [], none, none, rfl, s2, hf2, RL.nil0 _, hd2, hS2, LInv.start D R S, Nat.le_refl _, Nat.zero_le _⟩) (fun j σ H' _ pv => by rw [hPv] at pv; obtain ⟨_, _, _, _, _, _, _, _, _, _, hS, _⟩ := pv; exact SqL.of hS) (fun j v σ H3 gv pv => ?body) (fun σ H3 pv => ?done)⟩
    case done =>
      rw [hPv] at pv
      obtain ⟨L, ws, dd, v4, v5, rfl, sm, hf, rl, hd, hS, li, _, _⟩ := pv
      rw [List.length_map] at li
      walk_at "rd"
      exact ret L ws fnd H3 (li.fin smm) sm nf hf rl
    case body =>
      have nxt : ∀ (L : List (List Int)) (ws : List V) (dd : List Int) (v4 v5 : Option V) (H' : Hp), Same H H' → H' fnd = some (.lst ws) → RL H' ws L → H' dn = some (.lst (dd.map V.int)) → H' lf0 = some (.lst (S.map V.int)) → LInv D R S (j + 1) L dd → L.length ≤ j + 1 → dd.length ≤ 64 * (j + 1) → Pv (j + 1) [some (.ref l), some (.ref o), some (.ref fnd), some (.ref dn), v4, v5] H' := fun L ws dd v4 v5 H' h1 h2 h3 h4 h5 h6 h7 h8 => by
        rw [hPv]
        exact ⟨L, ws, dd, v4, v5, rfl, h1, h2, h3, h4, h5, h6, h7, h8⟩
      rw [hPv] at pv
      obtain ⟨L, ws, dd, v4, v5, rfl, sm, hf, rl, hd, hS, li, ll, dl⟩ := pv
      rw [List.getElem?_map] at gv
      cases gd : S[j]? with
      | none => rw [gd] at gv; cases gv
      | some x =>
        rw [gd] at gv
        have ev := Option.some.inj gv
        subst ev
        have hj : j < S.length := (List.getElem?_eq_some_iff.mp gd).1
        walk_at "rd"
        refine ⟨dn, _, rfl, .inl (SqL.of hd), rfl, flI _, ?_⟩
        rw [inI]
        refine ⟨_, rfl, ?_⟩
        by_cases m : x ∈ dd
        · rw [decide_eq_true m]
          refine iteF ?_
          exact nxt L ws dd _ _ H3 sm hf rl hd hS (li.skip gd m) (by omega) (by omega)
        · rw [decide_eq_false m]
          refine iteT ?_
          refine ⟨l, o, x, us, D, R, rfl, sm _ _ hl, pl.kt (KT.same sm), ho.same sm, h64, hR, fun ys t H4 pc s4 nt ht => ?_⟩
          walk_at "rd"
          have yl : ys.length ≤ R.length := int_sub_len (List.Pairwise.imp (fun h => by omega) pc.1) (fun y hy => ((pc.2 y).mp hy).mem) hR
          have hd4 := s4 _ _ hd
          have hf4 := s4 _ _ hf
          have hS4 := s4 _ _ hS
          have rl4 := rl.kt (KT.same s4)
          have s04 := sm.trans s4
          have tdn : t ≠ dn := (ne_of_none hd nt).symm
          have nd0' := nd0
          refine ⟨.inl ⟨rfl, _, SqL.of hd4⟩, _, hd4, _, ht, Nat.le_of_lt (len_big (by rw [List.length_map, List.length_map]; omega)), ?_⟩
          have s5 := same_ch (o := HO.lst (dd.map V.int ++ ys.map V.int)) s04 nd0
          have hf5 : upd H4 dn (HO.lst (dd.map V.int ++ ys.map V.int)) fnd = some (.lst ws) := by rw [upd_ne nfd]; exact hf4
          have ht5 : upd H4 dn (HO.lst (dd.map V.int ++ ys.map V.int)) t = some (.lst (ys.map V.int)) := by rw [upd_ne tdn]; exact ht
          have hS5 : upd H4 dn (HO.lst (dd.map V.int ++ ys.map V.int)) lf0 = some (.lst (S.map V.int)) := by rw [upd_ne nld.symm]; exact hS4
          have hd5 : upd H4 dn (HO.lst (dd.map V.int ++ ys.map V.int)) dn = some (.lst ((dd ++ ys).map V.int)) := by rw [upd_same, List.map_append]
          have rl5 : RL (upd H4 dn (HO.lst (dd.map V.int ++ ys.map V.int))) ws L := rl4.kt (KT.lst hd4)
          generalize upd H4 dn (HO.lst (dd.map V.int ++ ys.map V.int)) = H5 at s5 hf5 ht5 hS5 hd5 rl5
          refine ⟨.inl ⟨rfl, _, SqL.of hf5⟩, _, .inl ⟨SqL.of ht5, fun t2 nt2 => ?_⟩⟩
          have s6 := s5.trans (same_upd (o := HO.tup (ys.map V.int)) nt2)
          have hf6 : upd H5 t2 (HO.tup (ys.map V.int)) fnd = some (.lst ws) := same_upd nt2 _ _ hf5
          have ht6 : upd H5 t2 (HO.tup (ys.map V.int)) t2 = some (.tup (ys.map V.int)) := upd_same
          refine ⟨ws, hf6, len_big (by rw [rl.len]; omega), nxt (L ++ [ys]) (ws ++ [.ref t2]) (dd ++ ys) _ _ _ (same_ch s6 nf) upd_same ?_ ?_ ?_ (li.step gd smm sS m pc) (by rw [List.length_append]; show L.length + 1 ≤ j + 1; omega) (by rw [List.length_append]; omega)⟩
          · exact RL.snoc ((rl5.kt (KT.new nt2)).kt (KT.lst hf6)) ⟨t2, rfl, by rw [upd_ne (ne_of ht6 hf6 (by intro z; cases z))]; exact ht6⟩
          · rw [upd_ne nfd.symm]
            exact same_upd nt2 _ _ hd5
          · rw [upd_ne nlf.symm]
            exact same_upd nt2 _ _ hS5
end

/-! ### t[::-1] of a tuple -/
section
variable {prog : Program} {w : World} {A : Around} {E : Value → Shared → Prop} {s : Shared}
theorem sliceApplied_rev {sl : Addr} {vl vu vs : Value} {n : Nat} {Q : Int × Int × Nat → Shared → Prop} (hs : s.heap.IsSliceOf sl vl vu vs) (pl : IsPart vl none) (pu : IsPart vu none) (ps : IsPart vs (some (-1)))
    (h : Q ((n : Int) - 1, -1, n) s) : wpAny (model prog w) A (Builtin.Slice.sliceApplied (.ref sl) (pure (n : Int))) Q E s := by
  obtain ⟨os, hos, hcs, hds⟩ := id hs
  unfold Builtin.Slice.sliceApplied Builtin.Slice.sliceFields
  refine wpAny_bind (wpAny_bind (wpAny_field hos hds (x := vl) rfl (wpAny_bind (wpAny_field hos hds (x := vu) rfl (wpAny_bind (wpAny_field hos hds (x := vs) rfl (wpAny_pure ?_)))))))
  refine wpAny_bind (HT.slicePart_ ps ?_)
  show wpAny _ _ (if ((-1 : Int) == 0) = true then _ else _) _ _ s
  rw [if_neg (by decide)]
  refine wpAny_bind (HT.slicePart_ pl (wpAny_bind (HT.slicePart_ pu (wpAny_bind (wpAny_pure ?_)))))
  show wpAny _ _ (match Builtin.Slice.sliceAdjust none none (-1) (n : Int) with | (lo, hi) => pure (lo, (-1 : Int), Builtin.Slice.slicePlaces lo hi (-1))) _ _ s
  show wpAny _ _ (pure ((n : Int) - 1, (-1 : Int), Builtin.Slice.slicePlaces ((n : Int) - 1) (-1) (-1))) _ _ s
  have e : Builtin.Slice.slicePlaces ((n : Int) - 1) (-1) (-1) = n := by
    unfold Builtin.Slice.slicePlaces
    rw [if_neg (by decide)]
    by_cases z : n = 0
    · subst z
      rfl
    · rw [if_pos (by omega)]
      have : ((n : Int) - 1 - -1 - 1) / (- -1) + 1 = n := by
        rw [show (- -1 : Int) = 1 from rfl, Int.ediv_one]
        omega
      rw [this]
      exact Int.toNat_natCast n
  rw [e]
  exact wpAny_pure h
theorem pick_rev (xs : Array Value) : ((List.range xs.size).filterMap fun (k : Nat) => xs[(((xs.size : Int) - 1) + (k : Int) * -1).toNat]?).toArray = xs.toList.reverse.toArray := by
  have e : (fun (k : Nat) => xs[(((xs.size : Int) - 1) + (k : Int) * -1).toNat]?) = fun k => xs[xs.size - 1 - k]? := by
    funext k
    have : (((xs.size : Int) - 1) + (k : Int) * -1).toNat = xs.size - 1 - k := by omega
    rw [this]
  rw [e]
  have e2 : ((List.range xs.size).filterMap fun k => xs[xs.size - 1 - k]?) = ((List.range xs.size).map fun k => xs.size - 1 - k).filterMap (xs[·]?) := by
    rw [List.filterMap_map]
    rfl
  rw [e2, PySem.W.krv_range, List.filterMap_reverse, PySem.W.krv_all]
theorem getItem_tuple_rev {t sl : Addr} {items : Array Value} {vl vu vs : Value} {Q : Value → Shared → Prop} (ht : IsTup s.heap t items) (hs : s.heap.IsSliceOf sl vl vu vs) (pl : IsPart vl none) (pu : IsPart vu none) (ps : IsPart vs (some (-1)))
    (h : Q (.ref s.heap.objs.size) { s with heap := s.heap.push { cls := .type "tuple", data := .seq items.toList.reverse.toArray } })
    (hsz : items.size ≤ sizeLine) : wpAny (model prog w) A (getItem (.ref t) (.ref sl)) Q E s := by
  have htake : sizeOk (.seq items.toList.reverse.toArray) := by
    show items.toList.reverse.toArray.size ≤ sizeLine
    rw [List.size_toArray, List.length_reverse, Array.length_toList]
    exact hsz
  obtain ⟨os, hos, hcs, hds⟩ := id hs
  have hTs : s.TypeIs (.ref sl) "slice" := ⟨os, hos, hcs⟩
  unfold getItem
  try with_reducible refine wpAny_holding ?_
  first | refine wpAny_bind (wpAny_pure ?_) | skip
  refine wpAny_bind (wpAny_sequenceKey ht.typeIs (by decide) ?_)
  refine wpAny_bind (wpAny_callSpecial?_slot (name := Str.ofString "__getitem__") ht.typeIs PyProof.Rows.slot_tuple_getitem
    (wpAny_call_entry PyProof.Rows.slot_tuple_getitem ht.typeIs entry_tuple_getitem ?_ (args_tuple_getitem _ _)))
  show wpAny _ _ (Builtin.Tuple.tupleItemsOf (.ref t) >>= _) _ _ s
  refine wpAny_bind (tupleItemsOf_ ht ?_)
  refine wpAny_bind (wpAny_typeOf hTs ?_)
  rw [if_pos (by decide)]
  refine wpAny_bind (sliceApplied_rev hs pl pu ps ?_)
  have hno : ¬ ((((items.size : Int) - 1) == 0 && (-1 : Int) == 1 && items.size == items.size) = true) := by
    intro q
    rw [Bool.and_eq_true, Bool.and_eq_true] at q
    exact absurd q.1.2 (by decide)
  show wpAny _ _ (if (((items.size : Int) - 1) == 0 && (-1 : Int) == 1 && items.size == items.size) = true then _ else _) _ _ s
  rw [if_neg hno, pick_rev]
  first
    | exact wpAny_bind (m := Builtin.Tuple.tupleExact _) (wpAny_newObj_type (wpAny_pure ⟨_, rfl, wpAny_pure h⟩) htake)
    | exact wpAny_bind (m := Builtin.Tuple.tupleExact _) (wpAny_newObj_type (wpAny_bind (wpAny_pure (wpAny_pure ⟨_, rfl, wpAny_pure h⟩))) htake)
    | exact wpAny_bind (wpAny_bind (m := Builtin.Tuple.tupleExact _) (wpAny_newObj_type (wpAny_pure (wpAny_pure ⟨_, rfl, wpAny_pure h⟩)) htake))
    | exact wpAny_bind (wpAny_bind (m := Builtin.Tuple.tupleExact _) (wpAny_newObj_type (wpAny_pure ⟨_, rfl, wpAny_pure h⟩) htake))
end
section
variable {X : Cx}
def tRevT (K : PySem.W.Frag) (te : TE) : TE := fun σ H Q => te σ H fun x H1 => ∃ a xs, x = .ref a ∧ SqT K H1 a xs ∧ ∀ p, H1 p = none → Q (.ref p) (upd H1 p (.tup xs.reverse))
theorem pe_revT {e : Expr} {te : TE} {k : Nat} {p1 p2 p3 pos : Pos} (he : PE X e te) : PE X (.Subscript e (.Slice none none (some (.UnaryOp .USub (.Constant (.int 1) k p1) p2)) p3) pos) (tRevT X.K te) := by
  refine ⟨fun pins s σ H Q I h => ?_⟩
  refine Subscript_ (thn (he.run pins s σ H _ I h) fun v s1 ⟨x, H1, I1, r1, q1⟩ => ?_)
  obtain ⟨a, xs, ex, hx, q⟩ := q1
  subst ex
  cases r1
  have hst : PO X (some (.UnaryOp .USub (.Constant (.int 1) k p1) p2)) (tPart (tUn (rU fun i => .int (-i)) (tC (.int 1)))) := po_some (pe_un un_neg pe_int)
  refine wpAny_Slice (thn (po_none.run pins s1 σ H1 (fun o H2 => o = none ∧ H2 = H1) I1 ⟨rfl, rfl⟩) fun vl s2 ⟨l, H2, I2, pl, el, e2⟩ => ?_)
  subst el e2
  refine thn (po_none.run pins s2 σ H2 (fun o H3 => o = none ∧ H3 = H2) I2 ⟨rfl, rfl⟩) fun vu s3 ⟨u, H3, I3, pu, eu, e3⟩ => ?_
  subst eu e3
  refine thn (hst.run pins s3 σ H3 (fun o H4 => o = some (-1) ∧ H4 = H3) I3 ⟨1, rfl, -1, rfl, rfl, rfl⟩) fun vs s4 ⟨o, H4, I4, ps, eo, e4⟩ => ?_
  subst eo e4
  have I5 : Inv X pins σ H4 { s4 with heap := s4.heap.push { cls := .type "slice", data := .fields #[vl, vu, vs] } } := I4.kept (t' := s4.toks) fun b ob q => Heap.get?_push_of_some _ q
  obtain ⟨its, r, ht, hz⟩ := I5.tuple hx
  have hlen := r.length
  show wpAny (model X.prog X.w) X.A (subscriptTail e (.Slice none none (some (.UnaryOp .USub (.Constant (.int 1) k p1) p2)) p3) (.ref a) (.ref s4.heap.objs.size)) (EP X pins σ Q) X.xe { s4 with heap := s4.heap.push { cls := .type "slice", data := .fields #[vl, vu, vs] } }
  refine tail_any (ops := [.ref a, .ref s4.heap.objs.size]) ht.typeIs (PyProof.Rows.slot_tuple_getitem.lookup) ?_ (by with_unfolding_all rfl)
  refine getItem_tuple_rev ht (Heap.IsSliceOf.new _ vl vu vs) pl pu ps ?_ (by rw [List.size_toArray]; omega)
  refine ⟨.ref _, _, I5.laid (t' := s4.toks) (o := .tup xs.reverse) (fun b ob q => Heap.get?_push_of_some _ q) (Nat.le_refl _) ?_, rfl, q _ (I5.hok.fresh (Nat.le_refl _))⟩
  exact ⟨by rw [List.length_reverse]; exact hz, _, by simpa using r.reverse, IsTup.new _ _⟩
end

/-! ### logs in the heap -/
abbrev Cl := Int × Str
def IsC (H : Hp) (v : V) (c : Cl) : Prop := ∃ t, v = .ref t ∧ H t = some (.tup [.int c.1, .str c.2])
def LG (H : Hp) (vs : List V) (L : List Cl) : Prop := Paired (IsC H) vs L
theorem IsC.kt {H H' : Hp} {v : V} {d : Cl} (h : IsC H v d) (k : KT H H') : IsC H' v d := by
  obtain ⟨t, e, h⟩ := h
  exact ⟨t, e, k _ _ h⟩
theorem LG.kt {H H' : Hp} {vs : List V} {D : List Cl} (h : LG H vs D) (k : KT H H') : LG H' vs D := Paired.mapP h fun _ _ q => q.kt k
theorem LG.len {H : Hp} {vs : List V} {D : List Cl} (h : LG H vs D) : vs.length = D.length := Paired.length h
theorem LG.nil0 (H : Hp) : LG H [] [] := Paired.nil
theorem LG.snoc {H : Hp} {vs : List V} {D : List Cl} {v : V} {d : Cl} (h : LG H vs D) (q : IsC H v d) : LG H (vs ++ [v]) (D ++ [d]) := Paired.snoc h q
theorem pget {α β : Type} {F : α → β → Prop} : ∀ {vs : List α} {D : List β} {i : Nat} {v : α}, Paired F vs D → vs[i]? = some v → ∃ d, D[i]? = some d ∧ F v d
  | _, _, _, _, Paired.nil, e => by simp at e
  | _, _, 0, v, .cons r _, e => by
    have e2 := Option.some.inj e
    subst e2
    exact ⟨_, rfl, r⟩
  | _, _, i + 1, v, .cons _ t, e => pget (i := i) t e
theorem pget2 {α β : Type} {F : α → β → Prop} : ∀ {vs : List α} {D : List β} {i : Nat} {d : β}, Paired F vs D → D[i]? = some d → ∃ v, vs[i]? = some v ∧ F v d
  | _, _, _, _, Paired.nil, e => by simp at e
  | _, _, 0, v, .cons r _, e => by
    have e2 := Option.some.inj e
    subst e2
    exact ⟨_, rfl, r⟩
  | _, _, i + 1, v, .cons _ t, e => pget2 (i := i) t e
theorem prev {α β : Type} {F : α → β → Prop} {vs : List α} {D : List β} (h : Paired F vs D) : Paired F vs.reverse D.reverse := by
  induction h with
  | nil => exact Paired.nil
  | cons r _ ih =>
    rw [List.reverse_cons, List.reverse_cons]
    exact Paired.snoc ih r
theorem inV_ints (j : Int) (l : List Int) : inV (.int j) (l.map V.int) = decide (j ∈ l) := by
  induction l with
  | nil => rfl
  | cons x l ih =>
    have e : inV (.int j) ((x :: l).map V.int) = (eqV (.int x) (.int j) || inV (.int j) (l.map V.int)) := rfl
    rw [e, ih]
    have e2 : eqV (.int x) (.int j) = decide (x = j) := by
      unfold eqV
      by_cases h : x = j
      · subst h
        simp
      · simp [h]
    rw [e2]
    by_cases h : j = x
    · subst h
      simp
    · have h' : ¬ x = j := fun z => h z.symm
      simp [h, h']
theorem flat_ints (l : List Int) : (l.map V.int).all flatV = true := by
  rw [List.all_eq_true]
  intro v hv
  obtain ⟨x, _, rfl⟩ := List.mem_map.mp hv
  rfl
/-- the last calls of a log -/
theorem rep1 {α : Type} (n : Nat) (x : α) : (List.replicate n [x]).flatten = List.replicate n x := by
  induction n with
  | zero => rfl
  | succ n ih =>
    rw [List.replicate_succ, List.flatten_cons, List.replicate_succ, ih]
    rfl
def lastF : List Cl → List Cl
  | [] => []
  | c :: S => if c.1 ∈ S.map (·.1) then lastF S else c :: lastF S
theorem lastF_len (L : List Cl) : (lastF L).length ≤ L.length := by
  induction L with
  | nil => exact Nat.le_refl _
  | cons c S ih =>
    show (if c.1 ∈ S.map (·.1) then lastF S else c :: lastF S).length ≤ S.length + 1
    split
    · omega
    · rw [List.length_cons]
      omega
theorem drop_step {L : List Cl} {i : Nat} {c : Cl} (hi : i < L.length) (g : L[L.length - 1 - i]? = some c) : L.drop (L.length - (i + 1)) = c :: L.drop (L.length - i) := by
  have h : L.length - (i + 1) < L.length := by omega
  rw [List.drop_eq_getElem_cons h]
  have e1 : L.length - (i + 1) + 1 = L.length - i := by omega
  have e2 : L.length - (i + 1) = L.length - 1 - i := by omega
  rw [e1]
  congr 1
  rw [← e2, List.getElem?_eq_getElem h] at g
  exact Option.some.inj g
def inS (S : List Cl) : Int → Bool := fun k => decide (k ∈ S.map (·.1))
theorem inS_same {S : List Cl} {c : Cl} (h : c.1 ∈ S.map (·.1)) : inS (c :: S) = inS S := by
  funext k
  unfold inS
  by_cases e : k ∈ S.map (·.1)
  · rw [decide_eq_true e, List.map_cons, decide_eq_true (List.mem_cons_of_mem _ e)]
  · rw [decide_eq_false e, List.map_cons, decide_eq_false]
    intro z
    rcases List.mem_cons.mp z with z | z
    · exact e (by rw [z]; exact h)
    · exact e z
theorem inS_more {S : List Cl} {c : Cl} : (fun j => inS S j || decide (j = c.1)) = inS (c :: S) := by
  funext k
  unfold inS
  rw [List.map_cons]
  by_cases e1 : k = c.1
  · subst e1
    simp
  · by_cases e2 : k ∈ S.map (·.1)
    · rw [decide_eq_true e2, decide_eq_true (List.mem_cons_of_mem _ e2), Bool.true_or]
    · rw [decide_eq_false e2, decide_eq_false e1, decide_eq_false, Bool.or_false]
      intro z
      rcases List.mem_cons.mp z with z | z
      · exact e1 z
      · exact e2 z
theorem atI01 {a b : V} : atI [a, b] 0 = some a ∧ atI [a, b] 1 = some b := ⟨rfl, rfl⟩
abbrev sLast : Stmt := topS 7
abbrev sOrd : Stmt := topS 0
abbrev sWds : Stmt := topS 0
abbrev sLci : Stmt := topS 8
abbrev sTopR : Stmt := topS 9
abbrev sWof : Stmt := topS 10
abbrev sLof : Stmt := topS 0
section
variable {P : Program} {w : World} {K : PySem.W.Frag} {mg : Str → Option Value} {base : Heap}
theorem scLast : FnScope ["log", "called", "backwards", "room", "word"] ["log"] (defScope sLast) := ⟨rfl, rfl, rfl, by decide +kernel, rfl, by decide +kernel, by decide +kernel⟩
def spLast : Sp := fun vs H Q _ => ∃ (l : Addr) (us : List V) (L : List Cl), vs = [.ref l] ∧ H l = some (.lst us) ∧ LG H us L ∧ L.length ≤ 1000 ∧
  ∀ ws p H', Same H H' → H p = none → H' p = some (.lst ws) → LG H' ws (lastF L) → Q (.ref p) H'
theorem ok_last {f : Addr} {fd : FuncData} (F : Fun K "last_calls" "last_calls" sLast f fd) (T : Bi mg) (mrev : mg "reversed" = none) : FnOk P w K mg base CX0 1 f fd ["log"] spLast := by
  refine F.ok scLast (fun vs H Q E h => ?_) (fun cdv A outer s H vs Q E hr h => ?_)
  · obtain ⟨l, us, L, rfl, _⟩ := h
    rfl
  · obtain ⟨l, us, L, rfl, hl, lg, ln, q⟩ := h
    refine ⟨_, (pss_cons (ps_set (i := 1) scLast.nd rfl (Or.inl rfl) (pe_callTy0 cr_set0 (by rfl) T.set (by decide +kernel)))
      (pss_cons (ps_set (i := 2) scLast.nd rfl (Or.inl rfl) (pe_lst pa_nil))
      (pss_cons (ps_for PassesOwn.never rfl (pi_reversed (by rfl) mrev (pa_cons (pv 0) pa_nil)) (pg_tup rfl (pgs_cons (pg_name (i := 3) scLast.nd rfl (Or.inl rfl)) (pgs_cons (pg_name (i := 4) scLast.nd rfl (Or.inl rfl)) pgs_nil)))
      (pss_one (ps_if (pt_cmpR or_snotin (pv 3) (pv 1) (by rfl))
        (pss_cons (ps_expr (pe_sadd (pv 1) (pa_cons (pv 3) pa_nil)))
          (pss_one (ps_expr (pe_bm PySem.F.plainAttrs_list PySem.F.slot_list_append PySem.F.type_list_append mt_append (pv 2) (pa_cons (pe_tup (pa_cons (pv 3) (pa_cons (pv 4) pa_nil))) pa_nil)))))
        pss_nil)))
      (pss_one (ps_ret (pe_revL (pv 2))))))), ?_⟩
    walk_at "rd"
    refine ⟨rfl, fun a na => ⟨Nat.zero_le _, fun b nb => ?_⟩⟩
    have ul : us.length = L.length := lg.len
    have nab : a ≠ b := fun z => by
      rw [← z, upd_same] at nb
      cases nb
    have fb : H b = none := by
      rw [upd_ne nab.symm] at nb
      exact nb
    obtain ⟨Pv, hPv⟩ : ∃ Pv : Nat → L2.St → Hp → Prop, Pv = (fun i σ H' => ∃ (n : Nat) (ws : List V) (v3 v4 : Option V), σ = [some (.ref l), some (.ref a), some (.ref b), v3, v4] ∧ Same H H' ∧ H' a = some (SetO w a (inS (L.drop (L.length - i))) n) ∧ n ≤ i ∧ H' b = some (.lst ws) ∧ LG H' ws (lastF (L.drop (L.length - i))).reverse) := ⟨_, rfl⟩
    have e0 : L.drop (L.length - 0) = [] := List.drop_eq_nil_of_le (by omega)
    refine ⟨_, rfl, l, us, rfl, SqL.of ((same_upd na).trans (same_upd nb) _ _ hl), RT.for_Itv Pv (by rw [hPv]; exact ⟨0, [], none, none, rfl, (same_upd na).trans (same_upd nb), by rw [e0, upd_ne nab, upd_same]; rfl, Nat.le_refl _, upd_same, by rw [e0]; exact LG.nil0 _⟩) (fun i σ H' pv => by rw [hPv] at pv; obtain ⟨_, _, _, _, _, sm, _⟩ := pv; exact SqL.of (sm _ _ hl)) (fun i v σ H' hi gv pv => ?_) (fun σ H' pv => ?_)⟩
    · have nxt : ∀ n ws v3 v4 H', Same H H' → H' a = some (SetO w a (inS (L.drop (L.length - (i + 1)))) n) → n ≤ i + 1 → H' b = some (.lst ws) → LG H' ws (lastF (L.drop (L.length - (i + 1)))).reverse → Pv (i + 1) [some (.ref l), some (.ref a), some (.ref b), v3, v4] H' := fun n ws v3 v4 H' h1 h2 h3 h4 h5 => by
        rw [hPv]
        exact ⟨n, ws, v3, v4, rfl, h1, h2, h3, h4, h5⟩
      rw [hPv] at pv
      obtain ⟨n, ws, v3, v4, rfl, sm, ha, hn, hb, lw⟩ := pv
      rw [ul] at gv hi
      obtain ⟨c, gc, tc, rfl, htc⟩ := pget lg gv
      have st := drop_step hi gc
      rw [st] at nxt
      have htc1 := sm _ _ htc
      have wl : ws.length ≤ 1000 := by
        rw [lw.len, List.length_reverse]
        have := lastF_len (L.drop (L.length - i))
        rw [List.length_drop] at this
        omega
      walk_at "rd"
      refine ⟨_, SqT.of htc1, rfl, _, _, rfl, _, _, rfl, rfl, ?_⟩
      walk_at "rd"
      refine ⟨c.1, a, _, n, rfl, rfl, ha, ?_⟩
      refine ⟨_, rfl, ?_⟩
      by_cases hm : c.1 ∈ (L.drop (L.length - i)).map (·.1)
      · have e : (!inS (L.drop (L.length - i)) c.1) = false := by
          unfold inS
          rw [decide_eq_true hm]
          rfl
        rw [e]
        refine iteF (nxt n ws _ _ _ sm (by rw [inS_same hm]; exact ha) (by omega) hb ?_)
        show LG H' ws (if c.1 ∈ (L.drop (L.length - i)).map (·.1) then lastF (L.drop (L.length - i)) else c :: lastF (L.drop (L.length - i))).reverse
        rw [if_pos hm]
        exact lw
      · have e : (!inS (L.drop (L.length - i)) c.1) = true := by
          unfold inS
          rw [decide_eq_false hm]
          rfl
        rw [e]
        refine iteT ?_
        have s0 : Same H' H' := Same.refl _
        refine ⟨_, rfl, ⟨a, _, n, rfl, ha⟩, _, rfl, a, c.1, _, n, rfl, rfl, ha, (by show n + 1 < 4096; omega), ?_⟩
        have e2 : inS (L.drop (L.length - i)) c.1 = false := by
          unfold inS
          exact decide_eq_false hm
        rw [inS_more, e2]
        have fa : H a = none := na
        have hb2 : upd H' a (SetO w a (inS (c :: L.drop (L.length - i))) (if false = true then n else n + 1)) b = some (.lst ws) := by rw [upd_ne nab.symm]; exact hb
        have ha2 : upd H' a (SetO w a (inS (c :: L.drop (L.length - i))) (if false = true then n else n + 1)) a = some (SetO w a (inS (c :: L.drop (L.length - i))) (n + 1)) := upd_same
        have sm2 : Same H (upd H' a (SetO w a (inS (c :: L.drop (L.length - i))) (if false = true then n else n + 1))) := same_ch sm fa
        have kt2 : KT H' (upd H' a (SetO w a (inS (c :: L.drop (L.length - i))) (if false = true then n else n + 1))) := KT.ch ha (fun xs z => by unfold SetO at z; cases z)
        generalize upd H' a (SetO w a (inS (c :: L.drop (L.length - i))) (if false = true then n else n + 1)) = H2 at hb2 ha2 sm2 kt2
        walk_at "rd"
        refine ⟨.inl ⟨rfl, _, SqL.of hb2⟩, (by show 2 ≤ sizeLine; decide), fun t nt => ?_⟩
        have nbt : b ≠ t := ne_of_none hb2 nt
        refine ⟨ws, by rw [upd_ne nbt]; exact hb2, len_big (by omega), nxt (n + 1) (ws ++ [.ref t]) _ _ _ (same_ch (sm2.trans (same_upd nt)) fb) ?_ (by omega) upd_same ?_⟩
        · rw [upd_ne nab, upd_ne (ne_of_none ha2 nt)]
          exact ha2
        · show LG _ _ (if c.1 ∈ (L.drop (L.length - i)).map (·.1) then lastF (L.drop (L.length - i)) else c :: lastF (L.drop (L.length - i))).reverse
          rw [if_neg hm, List.reverse_cons]
          refine LG.snoc (((lw.kt kt2).kt (KT.new nt)).kt (KT.lst (by rw [upd_ne nbt]; exact hb2))) ⟨t, rfl, ?_⟩
          rw [upd_ne nbt.symm, upd_same]
    · rw [hPv] at pv
      obtain ⟨n, ws, v3, v4, rfl, sm, ha, hn, hb, lw⟩ := pv
      rw [ul, Nat.sub_self, List.drop_zero] at lw
      refine ⟨_, rfl, b, ws, rfl, SqL.of hb, fun p np => ?_⟩
      refine q ws.reverse p _ (sm.trans (same_upd np)) (sm.free np) upd_same ?_
      have := prev (lw.kt (KT.new (o := HO.lst ws.reverse) np))
      rw [List.reverse_reverse] at this
      exact this
def spOrd : Sp := fun vs H Q _ => ∃ (l : Addr) (us : List V) (L : List Cl), vs = [.ref l] ∧ H l = some (.lst us) ∧ LG H us L ∧ L.length ≤ 1000 ∧
  ∀ p H', Same H H' → H p = none → H' p = some (.tup ((lastF L).map fun c => V.int c.1)) → Q (.ref p) H'
/-- the last word of each of r rooms -/
def wordsF (r : Nat) (L : List Cl) : List V := L.foldl (fun W c => W.set c.1.toNat (.str c.2)) (List.replicate r .non)
theorem wordsF_len (r : Nat) (L : List Cl) : (wordsF r L).length = r := by
  have key : ∀ (L : List Cl) (W : List V), (L.foldl (fun W c => W.set c.1.toNat (.str c.2)) W).length = W.length := by
    intro L
    induction L with
    | nil => intro W; rfl
    | cons c L ih =>
      intro W
      show (L.foldl _ (W.set c.1.toNat (.str c.2))).length = _
      rw [ih, List.length_set]
  unfold wordsF
  rw [key, List.length_replicate]
def InR (r : Nat) (L : List Cl) : Prop := ∀ c ∈ L, 0 ≤ c.1 ∧ c.1 < r
theorem wordsF_step {r : Nat} {L : List Cl} {j : Nat} {c : Cl} (g : L[j]? = some c) : wordsF r (L.take (j + 1)) = (wordsF r (L.take j)).set c.1.toNat (.str c.2) := by
  unfold wordsF
  rw [List.take_add_one, g, List.foldl_append]
  rfl
def spWds (C : Addr) : Sp := fun vs H Q _ => ∃ (p l : Addr) (us : List V) (L : List Cl) (r : Nat) (D : List Pr) (own : List Addr), vs = [.ref p, .ref l] ∧ HouseAt C H p r D own ∧ H l = some (.lst us) ∧ LG H us L ∧ InR r L ∧
  ∀ q H', Same H H' → H q = none → H' q = some (.lst (wordsF r L)) → Q (.ref q) H'
theorem scLci : FnScope ["log", "rooms", "call"] ["log", "rooms"] (defScope sLci) := ⟨rfl, rfl, rfl, by decide +kernel, rfl, by decide +kernel, by decide +kernel⟩
/-- the last call in any of the rooms -/
def lastIn (R : List Int) (L : List Cl) : Option Cl := L.reverse.find? fun c => decide (c.1 ∈ R)
def spLci (K : PySem.W.Frag) : Sp := fun vs H Q _ => ∃ (l o : Addr) (us : List V) (L : List Cl) (R : List Int), vs = [.ref l, .ref o] ∧ H l = some (.lst us) ∧ LG H us L ∧ (SqL K H o (R.map V.int) ∨ SqT K H o (R.map V.int)) ∧ (lastIn R L = none → Q .non H) ∧ (∀ t c, lastIn R L = some c → H t = some (.tup [.int c.1, .str c.2]) → Q (.ref t) H)
theorem ok_lci {f : Addr} {fd : FuncData} (F : Fun K "last_call_in" "last_call_in" sLci f fd) (mrev : mg "reversed" = none) : FnOk P w K mg base CX0 1 f fd ["log", "rooms"] (spLci K) := by
  refine F.ok scLci (fun vs H Q E h => ?_) (fun cdv A outer s H vs Q E hr h => ?_)
  · obtain ⟨l, o, us, L, R, rfl, _⟩ := h
    rfl
  · obtain ⟨l, o, us, L, R, rfl, hl, lg, ho, qn, qs⟩ := h
    have ul : us.length = L.length := lg.len
    refine ⟨_, (pss_cons (ps_for PassesOwn.never rfl (pi_reversed (by rfl) mrev (pa_cons (pv 0) pa_nil)) (pg_name (i := 2) scLci.nd rfl (Or.inl rfl))
      (pss_one (ps_if (pt_cmpR op_in_seq (pe_ix ix_tup (pv 2) pe_int (fun _ _ => rfl)) (pv 1) (by rfl))
        (pss_one (ps_ret (pv 2)))
        pss_nil)))
      (pss_one (ps_ret pe_non))), ?_⟩
    walk_at "rd"
    obtain ⟨Pv, hPv⟩ : ∃ Pv : Nat → L2.St → Hp → Prop, Pv = (fun i σ H' => ∃ v2 : Option V, σ = [some (.ref l), some (.ref o), v2] ∧ H' = H ∧ lastIn R (L.drop (L.length - i)) = none) := ⟨_, rfl⟩
    refine ⟨_, rfl, l, us, rfl, SqL.of hl, RT.for_Itv Pv (by rw [hPv]; exact ⟨none, rfl, rfl, by rw [Nat.sub_zero, List.drop_length]; rfl⟩) (fun i σ H' pv => by rw [hPv] at pv; obtain ⟨_, _, rfl, _⟩ := pv; exact SqL.of hl) (fun i v σ H' hi gv pv => ?_) (fun σ H' pv => ?_)⟩
    · have nxt : ∀ v2, lastIn R (L.drop (L.length - (i + 1))) = none → Pv (i + 1) [some (.ref l), some (.ref o), v2] H := fun v2 h => by
        rw [hPv]
        exact ⟨v2, rfl, rfl, h⟩
      rw [hPv] at pv
      obtain ⟨v2, rfl, rfl, none_⟩ := pv
      rw [ul] at gv hi
      obtain ⟨c, gc, tc, rfl, htc⟩ := pget lg gv
      have st := drop_step hi gc
      have cons : lastIn R (c :: L.drop (L.length - i)) = if c.1 ∈ R then some c else none := by
        unfold lastIn at none_ ⊢
        rw [List.reverse_cons, List.find?_append, none_]
        by_cases e : c.1 ∈ R
        · simp [e]
        · simp [e]
      rw [st, cons] at nxt
      walk_at "rd"
      refine ⟨_, SqT.of htc, .int c.1, rfl, o, _, rfl, ho, rfl, flat_ints _, ?_⟩
      rw [inV_ints]
      refine ⟨_, rfl, ?_⟩
      by_cases e : c.1 ∈ R
      · rw [decide_eq_true e]
        refine iteT (qs tc c ?_ htc)
        have e1 : L = L.take (L.length - (i + 1)) ++ (c :: L.drop (L.length - i)) := by
          rw [← st]
          exact (List.take_append_drop _ _).symm
        rw [e1]
        unfold lastIn at cons ⊢
        rw [if_pos e] at cons
        rw [List.reverse_append, List.find?_append, cons]
        rfl
      · rw [decide_eq_false e]
        rw [if_neg e] at nxt
        exact iteF (nxt _ rfl)
    · rw [hPv] at pv
      obtain ⟨v2, rfl, rfl, none_⟩ := pv
      rw [ul, Nat.sub_self, List.drop_zero] at none_
      walk_at "rd"
      exact qn none_
theorem scTopR : FnScope ["log", "rooms", "call"] ["log", "rooms"] (defScope sTopR) := ⟨rfl, rfl, rfl, by decide +kernel, rfl, by decide +kernel, by decide +kernel⟩
def optR (o : Option Cl) : V := match o with
  | none => .non
  | some c => .int c.1
def optW (o : Option Cl) : V := match o with
  | none => .non
  | some c => .str c.2
def spTopR (K : PySem.W.Frag) (g : Option Cl → V) : Sp := fun vs H Q _ => ∃ (l o : Addr) (us : List V) (L : List Cl) (R : List Int), vs = [.ref l, .ref o] ∧ H l = some (.lst us) ∧ LG H us L ∧ (SqL K H o (R.map V.int) ∨ SqT K H o (R.map V.int)) ∧ Q (g (lastIn R L)) H
theorem lastIn_at {H : Hp} {us : List V} {L : List Cl} {R : List Int} {c : Cl} (lg : LG H us L) (h : lastIn R L = some c) : ∃ t, H t = some (.tup [.int c.1, .str c.2]) := by
  unfold lastIn at h
  have m := List.mem_of_find?_eq_some h
  obtain ⟨i, g⟩ := List.getElem?_of_mem (List.mem_reverse.mp m)
  obtain ⟨v, _, t, _, e⟩ := pget2 lg g
  exact ⟨t, e⟩
theorem ok_topR {f fL : Addr} {fd fdL : FuncData} (F : Fun K "top_room" "top_room" sTopR f fd) (d_last_call_in : Df P w K mg base "last_call_in" ["log", "rooms"] 1 (spLci K) fL fdL) : FnOk P w K mg base CX0 2 f fd ["log", "rooms"] (spTopR K optR) := by
  refine F.ok scTopR (fun vs H Q E h => ?_) (fun cdv A outer s H vs Q E hr h => ?_)
  · obtain ⟨l, o, us, L, R, rfl, _⟩ := h
    rfl
  · obtain ⟨l, o, us, L, R, rfl, hl, lg, ho, q⟩ := h
    refine ⟨_, (pss_cons (ps_set (i := 2) scTopR.nd rfl (Or.inl rfl) (pe_call d_last_call_in.ok (hr.mono (by decide)) (by rfl) d_last_call_in.at_ d_last_call_in.kp d_last_call_in.b .nil pass0 (pa_cons (pv 0) (pa_cons (pv 1) pa_nil))))
      (pss_one (ps_ret (pe_ifExp (pt_cmpR op_isN (pv 2) pe_non (nomark _)) pe_non (pe_ix ix_tup (pv 2) pe_int (fun _ _ => rfl)))))), ?_⟩
    walk_at "rd"
    refine ⟨l, o, us, L, R, rfl, hl, lg, ho, fun e => ?_, fun t c e ht => ?_⟩
    · rw [e] at q
      walk_at "rd"
      exact q
    · rw [e] at q
      walk_at "rd"
      rw [if_neg (by decide)]
      exact ⟨_, SqT.of ht, _, rfl, q⟩
theorem scWof : FnScope ["log", "rooms", "call"] ["log", "rooms"] (defScope sWof) := ⟨rfl, rfl, rfl, by decide +kernel, rfl, by decide +kernel, by decide +kernel⟩
theorem ok_wof {f fL : Addr} {fd fdL : FuncData} (F : Fun K "word_of" "word_of" sWof f fd) (d_last_call_in : Df P w K mg base "last_call_in" ["log", "rooms"] 1 (spLci K) fL fdL) : FnOk P w K mg base CX0 2 f fd ["log", "rooms"] (spTopR K optW) := by
  refine F.ok scWof (fun vs H Q E h => ?_) (fun cdv A outer s H vs Q E hr h => ?_)
  · obtain ⟨l, o, us, L, R, rfl, _⟩ := h
    rfl
  · obtain ⟨l, o, us, L, R, rfl, hl, lg, ho, q⟩ := h
    refine ⟨_, (pss_cons (ps_set (i := 2) scWof.nd rfl (Or.inl rfl) (pe_call d_last_call_in.ok (hr.mono (by decide)) (by rfl) d_last_call_in.at_ d_last_call_in.kp d_last_call_in.b .nil pass0 (pa_cons (pv 0) (pa_cons (pv 1) pa_nil))))
      (pss_one (ps_ret (pe_ifExp (pt_cmpR op_isN (pv 2) pe_non (nomark _)) pe_non (pe_ix ix_tup (pv 2) pe_int (fun _ _ => rfl)))))), ?_⟩
    walk_at "rd"
    refine ⟨l, o, us, L, R, rfl, hl, lg, ho, fun e => ?_, fun t c e ht => ?_⟩
    · rw [e] at q
      walk_at "rd"
      exact q
    · rw [e] at q
      walk_at "rd"
      rw [if_neg (by decide)]
      exact ⟨_, SqT.of ht, _, rfl, q⟩
def spLof (K : PySem.W.Frag) : Sp := fun vs H Q _ => ∃ (l o : Addr) (W : List V) (L : List Cl), vs = [.ref l, .ref o] ∧ H l = some (.lst W) ∧ H o = some (.tup (L.map fun c => V.int c.1)) ∧ L.length ≤ 1000 ∧ (∀ c ∈ L, 0 ≤ c.1 ∧ W[c.1.toNat]? = some (.str c.2)) ∧
  ∀ ws p H', Same H H' → H p = none → H' p = some (.lst ws) → LG H' ws L → Q (.ref p) H'
end
abbrev sLtop : Stmt := topS 42
abbrev sLwof : Stmt := topS 43
abbrev sLlast : Stmt := topS 0
abbrev sSpell : Stmt := topS 0
abbrev sPool : Stmt := topS 51
abbrev sSize : Stmt := topS 0
abbrev sDrawn : Stmt := topS 0
abbrev sChosen : Stmt := topS 0
theorem lastIn_step {R : List Int} {L : List Cl} {i : Nat} {c : Cl} (g : L[i]? = some c) : lastIn R (L.take (i + 1)) = if c.1 ∈ R then some c else lastIn R (L.take i) := by
  rw [List.take_add_one, g]
  unfold lastIn
  show List.find? _ (L.take i ++ [c]).reverse = _
  rw [List.reverse_append]
  show List.find? _ (c :: (L.take i).reverse) = _
  by_cases e : c.1 ∈ R
  · rw [List.find?_cons_of_pos (by simp [e]), if_pos e]
  · rw [List.find?_cons_of_neg (by simp [e]), if_neg e]
theorem cut_drop (xs : List V) (k : Nat) : cutV xs (some ((k : Nat) : Int)) none = xs.drop k := by
  unfold cutV
  rw [show HT.sIx xs.length 0 (some ((k : Nat) : Int)) = min k xs.length from HT.sIx_nat xs.length 0 k, HT.sIx_none]
  by_cases h : k ≤ xs.length
  · rw [Nat.min_eq_left h]
    refine List.take_of_length_le ?_
    rw [List.length_drop]
    exact Nat.le_refl _
  · rw [Nat.min_eq_right (by omega), List.drop_length, List.drop_eq_nil_of_le (by omega)]
    exact List.take_nil
theorem for_iter {wi : TI} {g : TG} {tb : TS} {D : Ends} {σ : L2.St} {H : Hp} (h : wi σ H fun J H1 => tFor (fun _ H R => R J H) g tb D σ H1) : tFor wi g tb D σ H := h
section
variable {P : Program} {w : World} {K : PySem.W.Frag} {mg : Str → Option Value} {base : Heap}
theorem scLtop : FnScope ["log", "rooms", "top", "call"] ["log", "rooms"] (defScope sLtop) := ⟨rfl, rfl, rfl, by decide +kernel, rfl, by decide +kernel, by decide +kernel⟩
theorem ok_ltop {f : Addr} {fd : FuncData} (F : Fun K "_law_top" "_law_top" sLtop f fd) : FnOk P w K mg base CX0 1 f fd ["log", "rooms"] (spTopR K optR) := by
  refine F.ok scLtop (fun vs H Q E h => ?_) (fun cdv A outer s H vs Q E hr h => ?_)
  · obtain ⟨l, o, us, L, R, rfl, _⟩ := h
    rfl
  · obtain ⟨l, o, us, L, R, rfl, hl, lg, ho, q⟩ := h
    have ul : us.length = L.length := lg.len
    refine ⟨_, (pss_cons (ps_set (i := 2) scLtop.nd rfl (Or.inl rfl) pe_non)
      (pss_cons (ps_for PassesOwn.never rfl (pi_list (pv 0)) (pg_name (i := 3) scLtop.nd rfl (Or.inl rfl))
      (pss_one (ps_if (pt_cmpR op_in_seq (pe_ix ix_tup (pv 3) pe_int (fun _ _ => rfl)) (pv 1) (by rfl))
        (pss_one (ps_set (i := 2) scLtop.nd rfl (Or.inl rfl) (pe_ix ix_tup (pv 3) pe_int (fun _ _ => rfl))))
        pss_nil)))
      (pss_one (ps_ret (pv 2))))), ?_⟩
    walk_at "rd"
    obtain ⟨Pv, hPv⟩ : ∃ Pv : Nat → L2.St → Hp → Prop, Pv = (fun i σ H' => ∃ v3 : Option V, σ = [some (.ref l), some (.ref o), some (optR (lastIn R (L.take i))), v3] ∧ H' = H) := ⟨_, rfl⟩
    refine ⟨_, rfl, l, rfl, ⟨_, SqL.of hl⟩, for_list (K := K) (a := l) (xs := us) Pv (by rw [hPv]; exact ⟨none, rfl, rfl⟩) (fun i σ H' _ pv => by rw [hPv] at pv; obtain ⟨_, _, rfl⟩ := pv; exact SqL.of hl) (fun i v σ H' gv pv => ?_) (fun σ H' pv => ?_)⟩
    · have nxt : ∀ v3, Pv (i + 1) [some (.ref l), some (.ref o), some (optR (lastIn R (L.take (i + 1)))), v3] H := fun v3 => by
        rw [hPv]
        exact ⟨v3, rfl, rfl⟩
      rw [hPv] at pv
      obtain ⟨v3, rfl, rfl⟩ := pv
      obtain ⟨c, gc, tc, rfl, htc⟩ := pget lg gv
      rw [lastIn_step gc] at nxt
      walk_at "rd"
      refine ⟨_, SqT.of htc, .int c.1, rfl, o, _, rfl, ho, rfl, flat_ints _, ?_⟩
      rw [inV_ints]
      refine ⟨_, rfl, ?_⟩
      by_cases e : c.1 ∈ R
      · rw [decide_eq_true e]
        rw [if_pos e] at nxt
        exact iteT ⟨_, SqT.of htc, .int c.1, rfl, nxt _⟩
      · rw [decide_eq_false e]
        rw [if_neg e] at nxt
        exact iteF (nxt _)
    · rw [hPv] at pv
      obtain ⟨v3, rfl, rfl⟩ := pv
      rw [ul, List.take_length]
      walk_at "rd"
      exact q
theorem scLwof : FnScope ["log", "rooms", "word", "call"] ["log", "rooms"] (defScope sLwof) := ⟨rfl, rfl, rfl, by decide +kernel, rfl, by decide +kernel, by decide +kernel⟩
theorem ok_lwof {f : Addr} {fd : FuncData} (F : Fun K "_law_word_of" "_law_word_of" sLwof f fd) : FnOk P w K mg base CX0 1 f fd ["log", "rooms"] (spTopR K optW) := by
  refine F.ok scLwof (fun vs H Q E h => ?_) (fun cdv A outer s H vs Q E hr h => ?_)
  · obtain ⟨l, o, us, L, R, rfl, _⟩ := h
    rfl
  · obtain ⟨l, o, us, L, R, rfl, hl, lg, ho, q⟩ := h
    have ul : us.length = L.length := lg.len
    refine ⟨_, (pss_cons (ps_set (i := 2) scLwof.nd rfl (Or.inl rfl) pe_non)
      (pss_cons (ps_for PassesOwn.never rfl (pi_list (pv 0)) (pg_name (i := 3) scLwof.nd rfl (Or.inl rfl))
      (pss_one (ps_if (pt_cmpR op_in_seq (pe_ix ix_tup (pv 3) pe_int (fun _ _ => rfl)) (pv 1) (by rfl))
        (pss_one (ps_set (i := 2) scLwof.nd rfl (Or.inl rfl) (pe_ix ix_tup (pv 3) pe_int (fun _ _ => rfl))))
        pss_nil)))
      (pss_one (ps_ret (pv 2))))), ?_⟩
    walk_at "rd"
    obtain ⟨Pv, hPv⟩ : ∃ Pv : Nat → L2.St → Hp → Prop, Pv = (fun i σ H' => ∃ v3 : Option V, σ = [some (.ref l), some (.ref o), some (optW (lastIn R (L.take i))), v3] ∧ H' = H) := ⟨_, rfl⟩
    refine ⟨_, rfl, l, rfl, ⟨_, SqL.of hl⟩, for_list (K := K) (a := l) (xs := us) Pv (by rw [hPv]; exact ⟨none, rfl, rfl⟩) (fun i σ H' _ pv => by rw [hPv] at pv; obtain ⟨_, _, rfl⟩ := pv; exact SqL.of hl) (fun i v σ H' gv pv => ?_) (fun σ H' pv => ?_)⟩
    · have nxt : ∀ v3, Pv (i + 1) [some (.ref l), some (.ref o), some (optW (lastIn R (L.take (i + 1)))), v3] H := fun v3 => by
        rw [hPv]
        exact ⟨v3, rfl, rfl⟩
      rw [hPv] at pv
      obtain ⟨v3, rfl, rfl⟩ := pv
      obtain ⟨c, gc, tc, rfl, htc⟩ := pget lg gv
      rw [lastIn_step gc] at nxt
      walk_at "rd"
      refine ⟨_, SqT.of htc, .int c.1, rfl, o, _, rfl, ho, rfl, flat_ints _, ?_⟩
      rw [inV_ints]
      refine ⟨_, rfl, ?_⟩
      by_cases e : c.1 ∈ R
      · rw [decide_eq_true e]
        rw [if_pos e] at nxt
        exact iteT ⟨_, SqT.of htc, .str c.2, rfl, nxt _⟩
      · rw [decide_eq_false e]
        rw [if_neg e] at nxt
        exact iteF (nxt _)
    · rw [hPv] at pv
      obtain ⟨v3, rfl, rfl⟩ := pv
      rw [ul, List.take_length]
      walk_at "rd"
      exact q
/-- a word: short, and its signs are signs -/
def wk (n : Nat) (z : Str) : Prop := z.length ≤ n ∧ PyData.strOk z = true
theorem wk.mono {n m : Nat} {z : Str} (h : wk n z) (l : n ≤ m) : wk m z := ⟨Nat.le_trans h.1 l, h.2⟩
theorem strOk_app {u v : Str} (h : PyData.strOk u = true) (k : PyData.strOk v = true) : PyData.strOk (u ++ v) = true := by
  show (u.cps ++ v.cps).all (· < 0x110000) = true
  rw [Array.all_append]
  show (PyData.strOk u && PyData.strOk v) = true
  rw [h, k]
  rfl
theorem wk_app {a b n : Nat} {u v : Str} (h : wk a u) (k : wk b v) (l : a + b ≤ n) : wk n (u ++ v) := ⟨by rw [Str.length_append]; have := h.1; have := k.1; omega, strOk_app h.2 k.2⟩
theorem wk_cut {n : Nat} {z : Str} (h : wk n z) (lo hi : Option Int) : wk n (cutS z lo hi) := by
  refine ⟨Nat.le_trans (cutS_length z lo hi) h.1, ?_⟩
  have h2 := h.2
  unfold PyData.strOk at h2 ⊢
  unfold cutS
  rw [Array.all_eq_true_iff_forall_mem] at h2 ⊢
  intro c hc
  refine h2 c ?_
  rw [Array.mem_def]
  simp only [List.mem_toArray] at hc
  exact List.mem_of_mem_drop (List.mem_of_mem_take hc)
theorem strOk_one {c : Nat} (h : c < 0x110000) : PyData.strOk (Str.mk #[c]) = true := by
  show (#[c] : Array Nat).all (· < 0x110000) = true
  simp [h]
def spSpell (K : PySem.W.Frag) : Sp := fun vs H Q _ => ∃ (a : Addr) (ns : List Int) (at_ : Nat), vs = [.ref a, .int at_] ∧ SqL K H a (ns.map V.int) ∧ at_ + 4 < ns.length ∧ ∀ z : Str, wk 8 z → Q (.str z) H
theorem letters_at {j : Nat} (h : j < 26) : ∃ c, atI (Str.ofString "abcdefghijklmnopqrstuvwxyz").cps.toList ((j : Nat) : Int) = some c ∧ c < 0x110000 := by
  have hl : (Str.ofString "abcdefghijklmnopqrstuvwxyz").cps.toList.length = 26 := by decide +kernel
  have ha : ((Str.ofString "abcdefghijklmnopqrstuvwxyz").cps.toList.all fun c => decide (c < 0x110000)) = true := by decide +kernel
  refine ⟨_, atI_nat (List.getElem?_eq_getElem (by rw [hl]; exact h)), ?_⟩
  exact of_decide_eq_true (List.all_eq_true.mp ha _ (List.getElem_mem _))
end

/-! ### own rules: data compared by <, len(set(tuple of ints)) -/
theorem pig : ∀ (ns K : List Int), K.Nodup → (∀ x ∈ K, x ∈ ns) → K.length ≤ ns.length
  | [], K, _, h => by
    cases K with
    | nil => exact Nat.le_refl _
    | cons a K => exact absurd (h a List.mem_cons_self) (by simp)
  | a :: ns, K, nd, h => by
    by_cases m : a ∈ K
    · have ih := pig ns (K.erase a) (nd.erase a) fun x hx => by
        have hx2 := (List.Nodup.mem_erase_iff nd).mp hx
        rcases List.mem_cons.mp (h x hx2.2) with e | e
        · exact absurd e hx2.1
        · exact e
      rw [List.length_erase_of_mem m] at ih
      have : 1 ≤ K.length := List.length_pos_of_mem m
      rw [List.length_cons]
      omega
    · have ih := pig ns K nd fun x hx => by
        rcases List.mem_cons.mp (h x hx) with e | e
        · rw [e] at hx; exact absurd hx m
        · exact e
      rw [List.length_cons]
      omega
theorem pig_nd : ∀ (ns K : List Int), K.Nodup → (∀ x ∈ K, x ∈ ns) → K.length = ns.length → ns.Nodup
  | [], K, _, _, _ => List.nodup_nil
  | a :: ns, K, nd, h, e => by
    have sub : a ∉ K → ∀ x ∈ K, x ∈ ns := fun m x hx => by
      rcases List.mem_cons.mp (h x hx) with z | z
      · rw [z] at hx; exact absurd hx m
      · exact z
    rw [List.length_cons] at e
    by_cases m : a ∈ K
    · by_cases r : a ∈ ns
      · have := pig ns K nd fun x hx => by
          rcases List.mem_cons.mp (h x hx) with z | z
          · rw [z]; exact r
          · exact z
        omega
      · refine List.nodup_cons.mpr ⟨r, pig_nd ns (K.erase a) (nd.erase a) (fun x hx => ?_) ?_⟩
        · have hx2 := (List.Nodup.mem_erase_iff nd).mp hx
          rcases List.mem_cons.mp (h x hx2.2) with z | z
          · exact absurd z hx2.1
          · exact z
        · rw [List.length_erase_of_mem m]
          omega
    · have := pig ns K nd (sub m)
      omega
theorem set_len {ns K : List Int} (nd : K.Nodup) (h : ∀ x, x ∈ ns ↔ x ∈ K) : K.length = ns.length ↔ ns.Nodup :=
  ⟨fun e => pig_nd ns K nd (fun x hx => (h x).mpr hx) e, fun n => Nat.le_antisymm (pig ns K nd fun x hx => (h x).mpr hx) (pig K ns n fun x hx => (h x).mp hx)⟩
def tLenSetT (K : PySem.W.Frag) (ta : TE) : TE := fun σ H Q => ta σ H fun x H1 => ∃ (l : Addr) (ns : List Int), x = V.ref l ∧ SqT K H1 l (ns.map V.int) ∧ ns.length ≤ 1000 ∧ ∀ m : Nat, (m = ns.length ↔ ns.Nodup) → Q (.int m) H1
theorem pe_lenSetT {X : Cx} {a : Expr} {ta : TE} {p p2 q pos : Pos} (hg : Gl X "len") (hm : X.mg "len" = none) (hg2 : Gl X "set") (hm2 : X.mg "set" = none) (ha : PE X a ta) (hc : X.calm = true := by rfl)
    (na : starEach [a] X.env = (false, eval a X.env) :: starEach [] X.env := by rfl) : PE X (.Call (.Name "len" p) [.Call (.Name "set" p2) [a] [] q] [] pos) (tLenSetT X.K ta) := by
  refine ⟨fun pins s σ H Q I h => ?_⟩
  refine Call_ (ld_blt I hg hm boot_len ?_)
  refine PyProof.Rows.callWith_builtin1 (PyProof.Rows.args_cons ?_ rfl) rfl rfl
  refine Call_ (ld_blt I hg2 hm2 boot_set ?_)
  refine PyProof.Rows.callWith_type1 (PyProof.Rows.args_cons (thn (ha.run pins s σ H _ I h) fun v s1 ⟨x, H1, I1, r1, q1⟩ => PyProof.Rows.args_nil ?_) na) na rfl
  obtain ⟨l, ns, rfl, hq, hl, q1⟩ := q1
  cases r1
  obtain ⟨its, r, pl, hz⟩ := I1.tuple hq
  refine call_set_tupI ns (I1.ok.hd hc) pl (by simpa using ints_of_vals r) (by unfold scanBound; omega) fun h' tk c hS hle hk => ?_
  refine PyProof.Rows.args_nil ?_
  obtain ⟨o, es, ep, t, ho, hex, hd, _, nd, mem, _, hf, hn, _⟩ := hS
  have I2 : Inv X pins σ H1 { s1 with heap := h', toks := tk } := I1.kept fun b o e => hk b o e
  refine call_len_set ho hex hd hf (by rw [hn] <;> omega) ⟨.int c, H1, I2.tok _, ⟨_, by rw [hn]⟩, q1 c ?_⟩
  have e := set_len nd (ns := ns) fun x => by rw [← mem x, decide_eq_true_iff]
  rw [List.length_map, Array.length_toList, hn] at e
  exact e
def rLtD (K : PySem.W.Frag) (n : Nat) : R2 := fun x y H Q => ∃ d e, Dp K H x d ∧ Dp K H y e ∧ PySem.W.alike d e = true ∧ d ≠ .none ∧ d.depth ≤ n ∧ Q (.bl (PySem.W.dataLt d e)) H
theorem op_ltD {X : Cx} {n : Nat} (hu : X.A.units + n < cLine) : OpR X (compareOp .Lt) (rLtD X.K n) := by
  intro pins s σ H x y v u Q I rx ry h
  obtain ⟨d, e, hd, he, al, nn, dep, q⟩ := h
  obtain ⟨as, r1⟩ := Dp.reads I d x v hd rx
  obtain ⟨bs, r2⟩ := Dp.reads I e y u he ry
  exact PySem.W.lt_data r1 r2 al nn (by have := Nat.min_le_left d.depth e.depth; omega) ⟨.bl _, H, I, rfl, q⟩

/-! ### what many laws need: the same data, a house made -/
theorem same_ok {n : Nat} {H : Hp} {x y : V} {Q : VK} {E : XK} (h : Sm H n x y) (q : Q (.bl true) H) : spSame n [x, y] H Q E := ⟨x, y, rfl, h, q⟩
theorem paired_flat {H : Hp} {n : Nat} {us : List V} (h : ∀ x ∈ us, flat4 x = true) : Paired (Sm H n) us us := by
  induction us with
  | nil => exact Paired.nil
  | cons a l ih => exact Paired.cons (Sm.flat (h a List.mem_cons_self)) (ih fun x hx => h x (List.mem_cons_of_mem _ hx))
theorem sm_flats {H : Hp} {x y : Addr} {us : List V} (hx : H x = some (.lst us)) (hy : H y = some (.lst us)) (h : ∀ x ∈ us, flat4 x = true) (hl : us.length ≤ 100000) (n : Nat) : Sm H (n + 1) (.ref x) (.ref y) :=
  .inr ⟨x, y, _, _, rfl, rfl, .inl ⟨hx, hy⟩, paired_flat h, hl⟩
theorem sm_flatsT {H : Hp} {x y : Addr} {us : List V} (hx : H x = some (.tup us)) (hy : H y = some (.tup us)) (h : ∀ x ∈ us, flat4 x = true) (hl : us.length ≤ 100000) (n : Nat) : Sm H (n + 1) (.ref x) (.ref y) :=
  .inr ⟨x, y, _, _, rfl, rfl, .inr ⟨hx, hy⟩, paired_flat h, hl⟩
theorem flat_intsV (l : List Int) : ∀ x ∈ l.map V.int, flat4 x = true := fun x hx => by
  obtain ⟨i, _, rfl⟩ := List.mem_map.mp hx
  rfl
theorem sm_call {H : Hp} {u v : V} {d : Cl} (hu : IsC H u d) (hv : IsC H v d) (n : Nat) : Sm H (n + 1) u v := by
  obtain ⟨t, rfl, e1⟩ := hu
  obtain ⟨t', rfl, e2⟩ := hv
  exact .inr ⟨t, t', _, _, rfl, rfl, .inr ⟨e1, e2⟩, Paired.cons (Sm.flat rfl) (Paired.cons (Sm.flat rfl) Paired.nil), by show 2 ≤ 100000; decide⟩
theorem sm_logs {H : Hp} {x y : Addr} {us vs : List V} {D : List Cl} (hx : H x = some (.lst us)) (hy : H y = some (.lst vs)) (pu : LG H us D) (pv : LG H vs D) (hl : D.length ≤ 100000) (n : Nat) : Sm H (n + 2) (.ref x) (.ref y) := by
  refine .inr ⟨x, y, _, _, rfl, rfl, .inl ⟨hx, hy⟩, ?_, by rw [pu.len]; exact hl⟩
  clear hx hy hl
  induction pu generalizing vs with
  | nil => cases pv; exact Paired.nil
  | cons r _ ih => cases pv with | cons r2 t2 => exact Paired.cons (sm_call r r2 n) (ih t2)
theorem sm_pair {H : Hp} {u v : V} {d : Pr} (hu : IsP H u d) (hv : IsP H v d) (n : Nat) : Sm H (n + 1) u v := by
  obtain ⟨t, rfl, e1⟩ := hu
  obtain ⟨t', rfl, e2⟩ := hv
  exact .inr ⟨t, t', _, _, rfl, rfl, .inr ⟨e1, e2⟩, Paired.cons (Sm.flat rfl) (Paired.cons (Sm.flat rfl) Paired.nil), by show 2 ≤ 100000; decide⟩
theorem sm_pairs {H : Hp} {x y : Addr} {us vs : List V} {D : List Pr} (hx : H x = some (.lst us)) (hy : H y = some (.lst vs)) (pu : PL H us D) (pv : PL H vs D) (hl : us.length ≤ 100000) (n : Nat) : Sm H (n + 2) (.ref x) (.ref y) := by
  refine .inr ⟨x, y, _, _, rfl, rfl, .inl ⟨hx, hy⟩, ?_, hl⟩
  clear hx hy hl
  induction pu generalizing vs with
  | nil => cases pv; exact Paired.nil
  | cons r _ ih => cases pv with | cons r2 t2 => exact Paired.cons (sm_pair r r2 n) (ih t2)
theorem mm2_same {r : Nat} {D : List Pr} (h : Drs r D) : D.map mm2 = D := by
  refine (List.map_congr_left fun d hd => ?_).trans (List.map_id _)
  have := (h.ok d hd).2.1
  unfold mm2
  rw [if_neg (by omega), if_pos (by omega)]
  rfl
theorem use_init {C x dx l : Addr} {r : Nat} {us : List V} {D G : List Pr} {H : Hp} {Q : VK} {E : XK} (nx : H x = none) (ndx : H dx = none) (hl : H l = some (.lst us)) (pl : PL H us D) (pm : (D.map mm2).Perm G) (drs : Drs r G) (r1 : 1 ≤ r) (r12 : r ≤ 12)
    (q : ∀ own H2, HouseAt C H2 x r G own → Same H H2 → (∀ b ∈ own, H b = none) → Q .non H2) : spHinit C [.ref x, .int r, .ref l] (upd (upd H dx (.own x)) x (.ins C dx [])) Q E := by
  have s0 : Same H (upd (upd H dx (.own x)) x (.ins C dx [])) := fun b o e => by
    rw [upd_ne (ne_of_none e nx), upd_ne (ne_of_none e ndx)]
    exact e
  refine ⟨x, dx, l, r, us, D, D.map mm2, rfl, upd_same, s0 _ _ hl, pl.kt (KT.same s0), rfl, pm.nodup_iff.mpr drs.asc.nodup, fun d hd => drs.ok d (pm.mem_iff.mp hd), r1, r12, fun D' own H' mem hh keep free => ?_⟩
  have e : D' = G := asc_uniq hh.ok.asc drs.asc fun d => (mem d).trans pm.mem_iff
  subst e
  refine q own H' hh (fun b o e => keep b o (s0 b o e) (ne_of_none e nx)) fun b hb => ?_
  by_cases e : b = x
  · rw [e]
    exact nx
  · exact s0.free (free b hb e)
/-- a method of the class at C that keeps a promise -/
structure Md (P : Program) (w : World) (K : PySem.W.Frag) (mg : Str → Option Value) (base : Heap) (C : Addr) (x : Str) (ps : List Str) (k : Nat) (sp : Sp) (f : Addr) (fd : FuncData) : Prop where
  m : Meth K C x f
  b : Binds K fd ps []
  ok : FnOk P w K mg base CX0 k f fd ps sp
theorem atI_neg {xs : List V} {j : Nat} {v : V} {z : Int} (e : z = -(1 + (j : Int))) (hj : j < xs.length) (g : xs[xs.length - 1 - j]? = some v) : atI xs z = some v := by
  unfold atI
  have e2 : ixN xs.length z = some (xs.length - 1 - j) := by
    unfold ixN
    rw [if_neg (by omega), if_pos (by omega)]
    congr 1
    omega
  rw [e2]
  exact g
theorem paired_append {α β : Type} {F : α → β → Prop} {a c : List α} {b d : List β} (h : Paired F a b) (k : Paired F c d) : Paired F (a ++ c) (b ++ d) := by
  induction h with
  | nil => exact k
  | cons r _ ih => exact Paired.cons r ih

abbrev sLwd : Stmt := topS 0
abbrev sLws : Stmt := topS 0
abbrev sLlg : Stmt := topS 39
section
variable {P : Program} {w : World} {K : PySem.W.Frag} {mg : Str → Option Value} {base : Heap}
theorem scLlg : FnScope ["numbers", "at", "many", "rooms", "words", "log", "k", "room"] ["numbers", "at", "many", "rooms", "words"] (defScope sLlg) := ⟨rfl, rfl, rfl, by decide +kernel, rfl, by decide +kernel, by decide +kernel⟩
def spLlg (K : PySem.W.Frag) : Sp := fun vs H Q _ => ∃ (a b : Addr) (ns : List Int) (at_ m r : Nat) (Z : List Str), vs = [.ref a, .int at_, .int m, .int r, .ref b] ∧ SqL K H a (ns.map V.int) ∧ at_ + 2 * m ≤ ns.length ∧ m ≤ 1000 ∧ 1 ≤ r ∧ H b = some (.lst (Z.map V.str)) ∧ 1 ≤ Z.length ∧ (∀ z ∈ Z, wk 17 z) ∧
  ∀ L ws p H', L.length = m → InR r L → (∀ c ∈ L, wk 17 c.2) → Same H H' → H p = none → H' p = some (.lst ws) → LG H' ws L → Q (.ref p) H'
theorem ok_llg {f : Addr} {fd : FuncData} (F : Fun K "_law_log" "_law_log" sLlg f fd) (T : Bi mg) : FnOk P w K mg base CX0 1 f fd ["numbers", "at", "many", "rooms", "words"] (spLlg K) := by
  refine F.ok scLlg (fun vs H Q E h => ?_) (fun cdv A outer s H vs Q E hr h => ?_)
  · obtain ⟨a, b, ns, at_, m, r, Z, rfl, _⟩ := h
    rfl
  · obtain ⟨a, b, ns, at_, m, r, Z, rfl, hS, hn, hm, r1, hb, z1, zw, q⟩ := h
    refine ⟨_, (pss_cons (ps_set (i := 5) scLlg.nd rfl (Or.inl rfl) (pe_lst pa_nil))
      (pss_cons (ps_for PassesOwn.never rfl (pi_range1 (by rfl) T.range (pa_cons (pv 2) pa_nil)) (pg_name (i := 6) scLlg.nd rfl (Or.inl rfl))
      (pss_cons (ps_set (i := 7) scLlg.nd rfl (Or.inl rfl) (pe_op op_mod (pe_callTy cr_intI (by rfl) T.int (by decide +kernel) (pa_cons (pe_ix ix_list (pv 0) (pe_op op_add (pv 1) (pe_op op_mul pe_int (pv 6))) (fun _ _ => rfl)) pa_nil)) (pv 3)))
        (pss_one (ps_expr (pe_bm PySem.F.plainAttrs_list PySem.F.slot_list_append PySem.F.type_list_append mt_append (pv 5) (pa_cons (pe_tup (pa_cons (pv 7) (pa_cons (pe_ix ix_list (pv 4) (pe_op op_mod (pe_callTy cr_intI (by rfl) T.int (by decide +kernel) (pa_cons (pe_ix ix_list (pv 0) (pe_op op_add (pe_op op_add (pv 1) (pe_op op_mul pe_int (pv 6))) pe_int) (fun _ _ => rfl)) pa_nil)) (pe_callB call_len_seq (by rfl) T.len (by decide +kernel) (pa_cons (pv 4) pa_nil))) (fun _ _ => rfl)) pa_nil))) pa_nil))))))
      (pss_one (ps_ret (pv 5))))), ?_⟩
    walk_at "rd"
    have gn : ∀ (j : Nat), j < ns.length → ∃ x, (ns.map V.int)[j]? = some (.int x) := fun j hj => ⟨ns[j], by rw [List.getElem?_map, List.getElem?_eq_getElem hj]; rfl⟩
    refine ⟨by decide, fun p np => ?_⟩
    refine for_iterW ?_
    walk_at "rd"
    obtain ⟨Pv, hPv⟩ : ∃ Pv : Nat → L2.St → Hp → Prop, Pv = (fun i σ H' => ∃ (ws : List V) (L : List Cl) (v5 v6 : Option V), σ = [some (.ref a), some (.int at_), some (.int m), some (.int r), some (.ref b), some (.ref p), v5, v6] ∧ Same H H' ∧ H' p = some (.lst ws) ∧ LG H' ws L ∧ L.length = i ∧ InR r L ∧ ∀ c ∈ L, wk 17 c.2) := ⟨_, rfl⟩
    refine ⟨by omega, by omega, for_range (lo := 0) (n := (m : Int).toNat) Pv (by rw [hPv]; exact ⟨[], [], none, none, rfl, same_upd np, upd_same, LG.nil0 _, rfl, (fun c hc => by cases hc), fun c hc => by cases hc⟩) (fun i σ H' hi pv => ?_) (fun σ H' pv => ?_)⟩
    rotate_left
    · rw [hPv] at pv
      obtain ⟨ws, L, v5, v6, rfl, sm, hp, lw, lL, inr, wks⟩ := pv
      walk_at "rd"
      exact q L ws p H' (by omega) inr wks sm np hp lw
    rw [hPv] at pv
    obtain ⟨ws, L, v5, v6, rfl, sm, hp, lw, lL, inr, wks⟩ := pv
    have hS' := sm.seq hS
    have hb' := sm _ _ hb
    obtain ⟨x0, g0⟩ := gn (at_ + 2 * i) (by omega)
    obtain ⟨x1, g1⟩ := gn (at_ + 2 * i + 1) (by omega)
    have r0 := Int.emod_nonneg x0 (show (r : Int) ≠ 0 by omega)
    have r2 := Int.emod_lt_of_pos x0 (show (0 : Int) < r by omega)
    have p0 := Int.emod_nonneg x1 (show (Z.length : Int) ≠ 0 by omega)
    have p1 := Int.emod_lt_of_pos x1 (show (0 : Int) < (Z.length : Int) by omega)
    obtain ⟨j, ej⟩ : ∃ j : Nat, x1 % (Z.length : Int) = j := ⟨(x1 % (Z.length : Int)).toNat, by omega⟩
    obtain ⟨z, gz, zk⟩ : ∃ z, (Z.map V.str)[j]? = some (.str z) ∧ wk 17 z := ⟨Z[j]'(by omega), by rw [List.getElem?_map, List.getElem?_eq_getElem (by omega)]; rfl, zw _ (List.getElem_mem _)⟩
    have wl : ws.length ≤ 1000 := by rw [lw.len]; omega
    walk_at "rd"
    refine ⟨.inl (by decide), _, hS', _, at_of (j := at_ + 2 * i) (by omega) g0, x0, rfl, by omega, .inl ⟨rfl, _, SqL.of hp⟩, .inl (by decide), _, hS', _, at_of (j := at_ + 2 * i + 1) (by omega) g1, x1, rfl, _, .inl (SqL.of hb'), by rw [List.length_map]; omega, _, SqL.of hb', .str z, by rw [List.length_map, ej]; exact atI_nat gz, by decide, fun t nt => ?_⟩
    have st := same_upd (o := HO.tup [V.int (x0 % (r : Int)), V.str z]) nt
    have ht := upd_same (H := H') (a := t) (o := HO.tup [V.int (x0 % (r : Int)), V.str z])
    generalize upd H' t (HO.tup [V.int (x0 % (r : Int)), V.str z]) = H2 at st ht ⊢
    have hp2 := st _ _ hp
    have kt : KT H2 (upd H2 p (HO.lst (ws ++ [V.ref t]))) := KT.lst hp2
    refine ⟨ws, hp2, len_big (by omega), ?_⟩
    rw [hPv]
    refine ⟨ws ++ [.ref t], L ++ [(x0 % (r : Int), z)], _, _, rfl, same_ch (sm.trans st) np, upd_same, LG.snoc ((lw.kt (KT.same st)).kt kt) ⟨t, rfl, kt _ _ ht⟩, by rw [List.length_append, lL]; rfl, fun c hc => ?_, fun c hc => ?_⟩
    · rcases List.mem_append.mp hc with h | h
      · exact inr c h
      · rw [List.mem_singleton.mp h]
        exact ⟨r0, r2⟩
    · rcases List.mem_append.mp hc with h | h
      · exact wks c h
      · rw [List.mem_singleton.mp h]
        exact zk
end

/-! ### _law_calls: a call for each cell -/
abbrev sLcs : Stmt := topS 49
theorem for_itL {wi : TI} {g : TG} {tb : TS} {D : Ends} {σ : L2.St} {H : Hp} (h : wi σ H fun J H1 => tFor (fun _ H R => R J H) g tb D σ H1) : tFor wi g tb D σ H := h
section
variable {P : Program} {w : World} {K : PySem.W.Frag} {mg : Str → Option Value} {base : Heap}
theorem scLcs : FnScope ["script", "at", "rooms", "words", "most", "log", "k", "cell"] ["script", "at", "rooms", "words", "most"] (defScope sLcs) := ⟨rfl, rfl, rfl, by decide +kernel, rfl, by decide +kernel, by decide +kernel⟩
def spLcs (K : PySem.W.Frag) : Sp := fun vs H Q _ => ∃ (a b : Addr) (ns : List Int) (at_ most r n : Nat) (Z : List Str), vs = [.ref a, .int at_, .int r, .ref b, .int most] ∧ SqL K H a (ns.map V.int) ∧ ns.length ≤ 63 ∧ at_ ≤ 1000 ∧ most ≤ 1000 ∧ 1 ≤ r ∧ H b = some (.lst (Z.map V.str)) ∧ 1 ≤ Z.length ∧ (∀ z ∈ Z, wk n z) ∧
  ∀ L ws p H', L.length ≤ most → InR r L → (∀ c ∈ L, wk n c.2) → (∀ c ∈ L, c.2 ∈ Z) → Same H H' → H p = none → H' p = some (.lst ws) → LG H' ws L → Q (.ref p) H'
theorem ok_lcs {f fC : Addr} {fd fdC : FuncData} (F : Fun K "_law_calls" "_law_calls" sLcs f fd) (T : Bi mg) (d__law_cell : Df P w K mg base "_law_cell" ["script", "k"] 1 (spCell K) fC fdC) : FnOk P w K mg base CX0 2 f fd ["script", "at", "rooms", "words", "most"] (spLcs K) := by
  refine F.ok scLcs (fun vs H Q E h => ?_) (fun cdv A outer s H vs Q E hr h => ?_)
  · obtain ⟨a, b, ns, at_, most, r, n, Z, rfl, _⟩ := h
    rfl
  · obtain ⟨a, b, ns, at_, most, r, n, Z, rfl, hS, hn, ha, hm, r1, hb, z1, zw, q⟩ := h
    refine ⟨_, (pss_cons (ps_set (i := 5) scLcs.nd rfl (Or.inl rfl) (pe_lst pa_nil))
      (pss_cons (ps_for PassesOwn.never rfl (pi_range2 (by rfl) T.range (pa_cons (pv 1) (pa_cons (pe_callB (call_min2 rfl) (by rfl) T.min (by decide +kernel) (pa_cons (pe_callB call_len_seq (by rfl) T.len (by decide +kernel) (pa_cons (pv 0) pa_nil)) (pa_cons (pe_op op_add (pv 1) (pv 4)) pa_nil))) pa_nil))) (pg_name (i := 6) scLcs.nd rfl (Or.inl rfl))
      (pss_cons (ps_set (i := 7) scLcs.nd rfl (Or.inl rfl) (pe_call d__law_cell.ok (hr.mono (by decide)) (by rfl) d__law_cell.at_ d__law_cell.kp d__law_cell.b .nil pass0 (pa_cons (pv 0) (pa_cons (pv 6) pa_nil))))
        (pss_one (ps_expr (pe_bm PySem.F.plainAttrs_list PySem.F.slot_list_append PySem.F.type_list_append mt_append (pv 5) (pa_cons (pe_tup (pa_cons (pe_op op_mod (pe_callTy cr_intI (by rfl) T.int (by decide +kernel) (pa_cons (pv 7) pa_nil)) (pv 2)) (pa_cons (pe_ix ix_list (pv 3) (pe_op op_mod (pe_callTy cr_intI (by rfl) T.int (by decide +kernel) (pa_cons (pe_op op_fdiv (pv 7) pe_int) pa_nil)) (pe_callB call_len_seq (by rfl) T.len (by decide +kernel) (pa_cons (pv 3) pa_nil))) (fun _ _ => rfl)) pa_nil))) pa_nil))))))
      (pss_one (ps_ret (pv 5))))), ?_⟩
    walk_at "rd"
    refine ⟨by decide, fun p np => ?_⟩
    refine for_itL ?_
    walk_at "rd"
    have hS1 := (same_upd (o := HO.lst []) np).seq hS
    refine ⟨_, .inl hS1, ?_⟩
    obtain ⟨e, he, el⟩ : ∃ e : Int, (if (at_ : Int) + (most : Int) < (((ns.map V.int).length : Nat) : Int) then (at_ : Int) + (most : Int) else (((ns.map V.int).length : Nat) : Int)) = e ∧ 0 ≤ e ∧ e ≤ at_ + most ∧ e ≤ 63 := by
      rw [List.length_map]
      by_cases c : (at_ : Int) + most < ns.length
      · rw [if_pos c]
        exact ⟨_, rfl, by omega, by omega, by omega⟩
      · rw [if_neg c]
        exact ⟨_, rfl, by omega, by omega, by omega⟩
    rw [he]
    obtain ⟨e0, e1, e2⟩ := el
    obtain ⟨Pv, hPv⟩ : ∃ Pv : Nat → L2.St → Hp → Prop, Pv = (fun i σ H' => ∃ (ws : List V) (L : List Cl) (v6 v7 : Option V), σ = [some (.ref a), some (.int at_), some (.int r), some (.ref b), some (.int most), some (.ref p), v6, v7] ∧ Same H H' ∧ H' p = some (.lst ws) ∧ LG H' ws L ∧ L.length = i ∧ InR r L ∧ (∀ c ∈ L, wk n c.2) ∧ ∀ c ∈ L, c.2 ∈ Z) := ⟨_, rfl⟩
    refine ⟨by omega, by omega, by omega, by omega, for_range (lo := (at_ : Int)) (n := (e - (at_ : Int)).toNat) Pv (by rw [hPv]; exact ⟨[], [], none, none, rfl, same_upd np, upd_same, LG.nil0 _, rfl, (fun c hc => by cases hc), (fun c hc => by cases hc), fun c hc => by cases hc⟩) (fun i σ H' hi pv => ?_) (fun σ H' pv => ?_)⟩
    rotate_left
    · rw [hPv] at pv
      obtain ⟨ws, L, v6, v7, rfl, sm, hp, lw, lL, inr, wks, mz⟩ := pv
      walk_at "rd"
      exact q L ws p H' (by omega) inr wks mz sm np hp lw
    rw [hPv] at pv
    obtain ⟨ws, L, v6, v7, rfl, sm, hp, lw, lL, inr, wks, mz⟩ := pv
    have hS' := sm.seq hS
    have hb' := sm _ _ hb
    rw [show ((at_ : Int) + (i : Int)) = ((at_ + i : Nat) : Int) by omega]
    walk_at "rd"
    refine ⟨a, ns, at_ + i, rfl, hS', fun x0 _ => ?_⟩
    have r0 := Int.emod_nonneg x0 (show (r : Int) ≠ 0 by omega)
    have r2 := Int.emod_lt_of_pos x0 (show (0 : Int) < r by omega)
    have p0 := Int.emod_nonneg (x0 / 13) (show (Z.length : Int) ≠ 0 by omega)
    have p1 := Int.emod_lt_of_pos (x0 / 13) (show (0 : Int) < (Z.length : Int) by omega)
    obtain ⟨j, ej⟩ : ∃ j : Nat, x0 / 13 % (Z.length : Int) = j := ⟨(x0 / 13 % (Z.length : Int)).toNat, by omega⟩
    obtain ⟨z, gz, zk, zm⟩ : ∃ z, (Z.map V.str)[j]? = some (.str z) ∧ wk n z ∧ z ∈ Z := ⟨Z[j]'(by omega), by rw [List.getElem?_map, List.getElem?_eq_getElem (by omega)]; rfl, zw _ (List.getElem_mem _), List.getElem_mem _⟩
    have wl : ws.length ≤ 1063 := by rw [lw.len]; omega
    refine ⟨.inl ⟨rfl, _, SqL.of hp⟩, x0, rfl, by omega, x0, rfl, (by unfold CDiv; first | exact .inr (by decide) | decide | omega), _, .inl (SqL.of hb'), by rw [List.length_map]; omega, _, SqL.of hb', .str z, by rw [List.length_map, ej]; exact atI_nat gz, by decide, fun t nt => ?_⟩
    have st := same_upd (o := HO.tup [V.int (x0 % (r : Int)), V.str z]) nt
    have ht := upd_same (H := H') (a := t) (o := HO.tup [V.int (x0 % (r : Int)), V.str z])
    generalize upd H' t (HO.tup [V.int (x0 % (r : Int)), V.str z]) = H2 at st ht ⊢
    have hp2 := st _ _ hp
    have kt : KT H2 (upd H2 p (HO.lst (ws ++ [V.ref t]))) := KT.lst hp2
    refine ⟨ws, hp2, len_big (by omega), ?_⟩
    rw [hPv]
    refine ⟨ws ++ [.ref t], L ++ [(x0 % (r : Int), z)], _, _, rfl, same_ch (sm.trans st) np, upd_same, LG.snoc ((lw.kt (KT.same st)).kt kt) ⟨t, rfl, kt _ _ ht⟩, by rw [List.length_append, lL]; rfl, fun c hc => ?_, fun c hc => ?_, fun c hc => ?_⟩
    · rcases List.mem_append.mp hc with h | h
      · exact inr c h
      · rw [List.mem_singleton.mp h]
        exact ⟨r0, r2⟩
    · rcases List.mem_append.mp hc with h | h
      · exact wks c h
      · rw [List.mem_singleton.mp h]
        exact zk
    · rcases List.mem_append.mp hc with h | h
      · exact mz c h
      · rw [List.mem_singleton.mp h]
        exact zm
end

/-! ### a block cut into stretches -/
theorem sq1 {a1 b : TS} {D : Ends} {σ : L2.St} {H : Hp} (h : ∀ N : L2.St → Hp → Prop, (∀ σ' H', b D σ' H' → N σ' H') → a1 { D with nx := N } σ H) : (tSeq a1 b) D σ H := h (b D) fun _ _ z => z
theorem sq2 {a1 a2 b : TS} {D : Ends} {σ : L2.St} {H : Hp} (h : ∀ N : L2.St → Hp → Prop, (∀ σ' H', b D σ' H' → N σ' H') → (tSeq a1 a2) { D with nx := N } σ H) : (tSeq a1 (tSeq a2 b)) D σ H := h (b D) fun _ _ z => z
theorem sq3 {a1 a2 a3 b : TS} {D : Ends} {σ : L2.St} {H : Hp} (h : ∀ N : L2.St → Hp → Prop, (∀ σ' H', b D σ' H' → N σ' H') → (tSeq a1 (tSeq a2 a3)) { D with nx := N } σ H) : (tSeq a1 (tSeq a2 (tSeq a3 b))) D σ H := h (b D) fun _ _ z => z
theorem sq4 {a1 a2 a3 a4 b : TS} {D : Ends} {σ : L2.St} {H : Hp} (h : ∀ N : L2.St → Hp → Prop, (∀ σ' H', b D σ' H' → N σ' H') → (tSeq a1 (tSeq a2 (tSeq a3 a4))) { D with nx := N } σ H) : (tSeq a1 (tSeq a2 (tSeq a3 (tSeq a4 b)))) D σ H := h (b D) fun _ _ z => z
theorem sq5 {a1 a2 a3 a4 a5 b : TS} {D : Ends} {σ : L2.St} {H : Hp} (h : ∀ N : L2.St → Hp → Prop, (∀ σ' H', b D σ' H' → N σ' H') → (tSeq a1 (tSeq a2 (tSeq a3 (tSeq a4 a5)))) { D with nx := N } σ H) : (tSeq a1 (tSeq a2 (tSeq a3 (tSeq a4 (tSeq a5 b))))) D σ H := h (b D) fun _ _ z => z
theorem sq6 {a1 a2 a3 a4 a5 a6 b : TS} {D : Ends} {σ : L2.St} {H : Hp} (h : ∀ N : L2.St → Hp → Prop, (∀ σ' H', b D σ' H' → N σ' H') → (tSeq a1 (tSeq a2 (tSeq a3 (tSeq a4 (tSeq a5 a6))))) { D with nx := N } σ H) : (tSeq a1 (tSeq a2 (tSeq a3 (tSeq a4 (tSeq a5 (tSeq a6 b)))))) D σ H := h (b D) fun _ _ z => z
theorem sq7 {a1 a2 a3 a4 a5 a6 a7 b : TS} {D : Ends} {σ : L2.St} {H : Hp} (h : ∀ N : L2.St → Hp → Prop, (∀ σ' H', b D σ' H' → N σ' H') → (tSeq a1 (tSeq a2 (tSeq a3 (tSeq a4 (tSeq a5 (tSeq a6 a7)))))) { D with nx := N } σ H) : (tSeq a1 (tSeq a2 (tSeq a3 (tSeq a4 (tSeq a5 (tSeq a6 (tSeq a7 b))))))) D σ H := h (b D) fun _ _ z => z
theorem sq8 {a1 a2 a3 a4 a5 a6 a7 a8 b : TS} {D : Ends} {σ : L2.St} {H : Hp} (h : ∀ N : L2.St → Hp → Prop, (∀ σ' H', b D σ' H' → N σ' H') → (tSeq a1 (tSeq a2 (tSeq a3 (tSeq a4 (tSeq a5 (tSeq a6 (tSeq a7 a8))))))) { D with nx := N } σ H) : (tSeq a1 (tSeq a2 (tSeq a3 (tSeq a4 (tSeq a5 (tSeq a6 (tSeq a7 (tSeq a8 b)))))))) D σ H := h (b D) fun _ _ z => z
theorem sq9 {a1 a2 a3 a4 a5 a6 a7 a8 a9 b : TS} {D : Ends} {σ : L2.St} {H : Hp} (h : ∀ N : L2.St → Hp → Prop, (∀ σ' H', b D σ' H' → N σ' H') → (tSeq a1 (tSeq a2 (tSeq a3 (tSeq a4 (tSeq a5 (tSeq a6 (tSeq a7 (tSeq a8 a9)))))))) { D with nx := N } σ H) : (tSeq a1 (tSeq a2 (tSeq a3 (tSeq a4 (tSeq a5 (tSeq a6 (tSeq a7 (tSeq a8 (tSeq a9 b))))))))) D σ H := h (b D) fun _ _ z => z
theorem sq10 {a1 a2 a3 a4 a5 a6 a7 a8 a9 a10 b : TS} {D : Ends} {σ : L2.St} {H : Hp} (h : ∀ N : L2.St → Hp → Prop, (∀ σ' H', b D σ' H' → N σ' H') → (tSeq a1 (tSeq a2 (tSeq a3 (tSeq a4 (tSeq a5 (tSeq a6 (tSeq a7 (tSeq a8 (tSeq a9 a10))))))))) { D with nx := N } σ H) : (tSeq a1 (tSeq a2 (tSeq a3 (tSeq a4 (tSeq a5 (tSeq a6 (tSeq a7 (tSeq a8 (tSeq a9 (tSeq a10 b)))))))))) D σ H := h (b D) fun _ _ z => z
theorem sq11 {a1 a2 a3 a4 a5 a6 a7 a8 a9 a10 a11 b : TS} {D : Ends} {σ : L2.St} {H : Hp} (h : ∀ N : L2.St → Hp → Prop, (∀ σ' H', b D σ' H' → N σ' H') → (tSeq a1 (tSeq a2 (tSeq a3 (tSeq a4 (tSeq a5 (tSeq a6 (tSeq a7 (tSeq a8 (tSeq a9 (tSeq a10 a11)))))))))) { D with nx := N } σ H) : (tSeq a1 (tSeq a2 (tSeq a3 (tSeq a4 (tSeq a5 (tSeq a6 (tSeq a7 (tSeq a8 (tSeq a9 (tSeq a10 (tSeq a11 b))))))))))) D σ H := h (b D) fun _ _ z => z
theorem sq12 {a1 a2 a3 a4 a5 a6 a7 a8 a9 a10 a11 a12 b : TS} {D : Ends} {σ : L2.St} {H : Hp} (h : ∀ N : L2.St → Hp → Prop, (∀ σ' H', b D σ' H' → N σ' H') → (tSeq a1 (tSeq a2 (tSeq a3 (tSeq a4 (tSeq a5 (tSeq a6 (tSeq a7 (tSeq a8 (tSeq a9 (tSeq a10 (tSeq a11 a12))))))))))) { D with nx := N } σ H) : (tSeq a1 (tSeq a2 (tSeq a3 (tSeq a4 (tSeq a5 (tSeq a6 (tSeq a7 (tSeq a8 (tSeq a9 (tSeq a10 (tSeq a11 (tSeq a12 b)))))))))))) D σ H := h (b D) fun _ _ z => z
/-- sorted of a list of unlike pairs -/
theorem use_sortedP {K : PySem.W.Frag} {H : Hp} {l : Addr} {us : List V} {G : List Pr} {Q : VK} (hl : H l = some (.lst us)) (pl : PL H us G) (nd : G.Nodup) (q : ∀ (S : List Pr) (ys : List V) (p : Addr) (H' : Hp), Asc S → (∀ d, d ∈ S ↔ d ∈ G) → S.length = G.length → Same H H' → H p = none → H' p = some (.lst ys) → PL H' ys S → Q (.ref p) H') : rSortedPO K [.ref l] H Q := by
  obtain ⟨k1, k2⟩ := pl.toK
  refine ⟨l, us, kH H, rfl, SqL.of hl, k2, fun ys t so st nt => ?_⟩
  have pmy := st.perm
  have hy : ∀ v ∈ ys, IsP H v (kH H v) := fun v hv => k2 v (pmy.mem_iff.mp hv)
  have nd2 : (ys.map (kH H)).Nodup := by
    refine (pmy.map _).nodup_iff.mpr ?_
    rw [← k1]
    exact nd
  refine q (ys.map (kH H)) ys t _ (srtd_asc nd2 so) (fun d => ?_) ?_ (same_upd nt) nt upd_same ((PL.ofK hy).kt (KT.new nt))
  · rw [k1]
    exact (pmy.map _).mem_iff
  · rw [k1, List.length_map, List.length_map, pmy.length_eq]

/-! ### comprehensions with one name, over a list or a range -/
theorem fm_step {β : Type} (sel : Nat → Option β) (i : Nat) : (List.range (i + 1)).filterMap sel = (List.range i).filterMap sel ++ (match sel i with | some b => [b] | none => []) := by
  rw [List.range_succ, List.filterMap_append]
  congr 1
  rw [List.filterMap_cons, List.filterMap_nil]
  cases sel i <;> rfl
theorem fm_len {β : Type} (sel : Nat → Option β) (i : Nat) : ((List.range i).filterMap sel).length ≤ i := by
  have := List.length_filterMap_le sel (List.range i)
  rw [List.length_range] at this
  exact this
theorem gc_list {β : Type} {K : PySem.W.Frag} {a : Addr} {xs : List V} {i : Nat} {tt : TT} {te : TE} {σ : L2.St} {H1 : Hp} {Q : VK} (rel : Hp → V → β → Prop) (up : ∀ H H' v b, rel H v b → KT H H' → rel H' v b) (sel : Nat → Option β) (ha : H1 a = some (.lst xs)) (len : xs.length ≤ 100000)
    (step : ∀ (j : Nat) (x : V) (Hx : Hp) (A : VK) (B : Hp → Prop), xs[j]? = some x → Same H1 Hx → (∀ v b Hy, sel j = some b → Same Hx Hy → rel Hy v b → A v Hy) → (∀ Hy, sel j = none → Same Hx Hy → B Hy) → tt (σ.set i (some x)) Hx fun c H3 => if c = true then te (σ.set i (some x)) H3 A else B H3)
    (q : ∀ o ys H', Same H1 H' → H1 o = none → H' o = some (.lst ys) → Paired (rel H') ys ((List.range xs.length).filterMap sel) → Q (.ref o) H') :
    tLc (fun _ H R => R (Itl K a) H) (gName i) tt te [i] σ H1 Q := by
  intro D nD
  obtain ⟨Pv, hPv⟩ : ∃ Pv : Nat → Hp → Prop, Pv = (fun j Hx => ∃ ys, Same H1 Hx ∧ Hx D = some (.lst ys) ∧ Paired (rel Hx) ys ((List.range j).filterMap sel)) := ⟨_, rfl⟩
  refine lc_list (K := K) (a := a) (xs := xs) Pv (by rw [hPv]; exact ⟨[], same_upd nD, upd_same, Paired.nil⟩) (fun j H' _ pv => by rw [hPv] at pv; obtain ⟨_, sm, _⟩ := pv; exact SqL.of (sm _ _ ha)) (fun j x H' gx pv => ?_) (fun H' pv => ?_)
  · rw [hPv] at pv
    obtain ⟨ys, sm, hD, pr⟩ := pv
    have jl := (List.getElem?_eq_some_iff.mp gx).1
    have yl : ys.length ≤ j := by rw [pr.length]; exact fm_len sel j
    have ew : (wipe σ [i]).set i (some x) = σ.set i (some x) := by show (σ.set i none).set i (some x) = _; rw [List.set_set]
    show wipe ((wipe σ [i]).set i (some x)) [i] = wipe σ [i] ∧ tt ((wipe σ [i]).set i (some x)) H' fun c H3 => if c = true then te ((wipe σ [i]).set i (some x)) H3 _ else _
    rw [ew]
    refine ⟨by show (σ.set i (some x)).set i none = σ.set i none; rw [List.set_set], ?_⟩
    refine step j x H' _ _ gx sm (fun v b Hy es sy r => ?_) (fun Hy es sy => ?_)
    · have hD2 := sy _ _ hD
      refine ⟨ys, hD2, len_big (by omega), ?_⟩
      rw [hPv]
      refine ⟨ys ++ [v], same_ch (sm.trans sy) nD, upd_same, ?_⟩
      rw [fm_step, es]
      have kt : KT Hy (upd Hy D (HO.lst (ys ++ [v]))) := KT.lst hD2
      exact Paired.snoc (Paired.mapP pr fun v b h => up _ _ _ _ (up _ _ _ _ h (KT.same sy)) kt) (up _ _ _ _ r kt)
    · rw [hPv]
      refine ⟨ys, sm.trans sy, sy _ _ hD, ?_⟩
      rw [fm_step, es, List.append_nil]
      exact Paired.mapP pr fun v b h => up _ _ _ _ h (KT.same sy)
  · rw [hPv] at pv
    obtain ⟨ys, sm, hD, pr⟩ := pv
    exact q D ys H' sm nD hD pr
theorem gc_range {β : Type} {lo : Int} {n i : Nat} {tt : TT} {te : TE} {σ : L2.St} {H1 : Hp} {Q : VK} (rel : Hp → V → β → Prop) (up : ∀ H H' v b, rel H v b → KT H H' → rel H' v b) (sel : Nat → Option β) (len : n ≤ 100000)
    (step : ∀ (j : Nat) (Hx : Hp) (A : VK) (B : Hp → Prop), j < n → Same H1 Hx → (∀ v b Hy, sel j = some b → Same Hx Hy → rel Hy v b → A v Hy) → (∀ Hy, sel j = none → Same Hx Hy → B Hy) → tt (σ.set i (some (.int (lo + (j : Nat))))) Hx fun c H3 => if c = true then te (σ.set i (some (.int (lo + (j : Nat))))) H3 A else B H3)
    (q : ∀ o ys H', Same H1 H' → H1 o = none → H' o = some (.lst ys) → Paired (rel H') ys ((List.range n).filterMap sel) → Q (.ref o) H') :
    tLc (fun _ H R => R (Itr lo n) H) (gName i) tt te [i] σ H1 Q := by
  intro D nD
  obtain ⟨Pv, hPv⟩ : ∃ Pv : Nat → Hp → Prop, Pv = (fun j Hx => ∃ ys, Same H1 Hx ∧ Hx D = some (.lst ys) ∧ Paired (rel Hx) ys ((List.range j).filterMap sel)) := ⟨_, rfl⟩
  refine lc_range (lo := lo) (n := n) Pv (by rw [hPv]; exact ⟨[], same_upd nD, upd_same, Paired.nil⟩) (fun j H' jl pv => ?_) (fun H' pv => ?_)
  · rw [hPv] at pv
    obtain ⟨ys, sm, hD, pr⟩ := pv
    have yl : ys.length ≤ j := by rw [pr.length]; exact fm_len sel j
    have ew : (wipe σ [i]).set i (some (.int (lo + (j : Nat)))) = σ.set i (some (.int (lo + (j : Nat)))) := by show (σ.set i none).set i (some (.int (lo + (j : Nat)))) = _; rw [List.set_set]
    show wipe ((wipe σ [i]).set i (some (.int (lo + (j : Nat))))) [i] = wipe σ [i] ∧ tt ((wipe σ [i]).set i (some (.int (lo + (j : Nat))))) H' fun c H3 => if c = true then te ((wipe σ [i]).set i (some (.int (lo + (j : Nat))))) H3 _ else _
    rw [ew]
    refine ⟨by show (σ.set i (some (.int (lo + (j : Nat))))).set i none = σ.set i none; rw [List.set_set], ?_⟩
    refine step j H' _ _ jl sm (fun v b Hy es sy r => ?_) (fun Hy es sy => ?_)
    · have hD2 := sy _ _ hD
      refine ⟨ys, hD2, len_big (by omega), ?_⟩
      rw [hPv]
      refine ⟨ys ++ [v], same_ch (sm.trans sy) nD, upd_same, ?_⟩
      rw [fm_step, es]
      have kt : KT Hy (upd Hy D (HO.lst (ys ++ [v]))) := KT.lst hD2
      exact Paired.snoc (Paired.mapP pr fun v b h => up _ _ _ _ (up _ _ _ _ h (KT.same sy)) kt) (up _ _ _ _ r kt)
    · rw [hPv]
      refine ⟨ys, sm.trans sy, sy _ _ hD, ?_⟩
      rw [fm_step, es, List.append_nil]
      exact Paired.mapP pr fun v b h => up _ _ _ _ h (KT.same sy)
  · rw [hPv] at pv
    obtain ⟨ys, sm, hD, pr⟩ := pv
    exact q D ys H' sm nD hD pr
/-- values that are these ints -/
def IsI (_ : Hp) (v : V) (n : Int) : Prop := v = .int n
theorem isI_map {H : Hp} : ∀ {vs : List V} {ns : List Int}, Paired (IsI H) vs ns → vs = ns.map V.int
  | _, _, .nil => rfl
  | _, _, .cons r t => by
    rw [isI_map t, List.map_cons]
    exact congrArg (· :: _) r
theorem fmap_congr {α β : Type} {f g : α → Option β} : ∀ l : List α, (∀ a ∈ l, f a = g a) → l.filterMap f = l.filterMap g
  | [], _ => rfl
  | a :: l, h => by
    rw [List.filterMap_cons, List.filterMap_cons, h a List.mem_cons_self, fmap_congr l fun b hb => h b (List.mem_cons_of_mem _ hb)]
theorem snoc_indJ {α : Type} {M : List α → Prop} (h0 : M []) (hs : ∀ S c, M S → M (S ++ [c])) (L : List α) : M L := by
  have key : ∀ K : List α, M K.reverse := by
    intro K
    induction K with
    | nil => exact h0
    | cons c K ih => rw [List.reverse_cons]; exact hs _ _ ih
  have := key L.reverse
  rw [List.reverse_reverse] at this
  exact this
theorem fm_range {β : Type} {L : List β} {γ : Type} (f : β → Option γ) : (List.range L.length).filterMap (fun j => L[j]?.bind f) = L.filterMap f := by
  refine snoc_indJ (M := fun L => (List.range L.length).filterMap (fun j => L[j]?.bind f) = L.filterMap f) rfl (fun L b ih => ?_) L
  rw [List.length_append, List.length_singleton, fm_step, List.filterMap_append]
  have e : (List.range L.length).filterMap (fun j => (L ++ [b])[j]?.bind f) = (List.range L.length).filterMap (fun j => L[j]?.bind f) := fmap_congr _ fun j hj => by
    rw [List.getElem?_append_left (List.mem_range.mp hj)]
  rw [e, ih, List.getElem?_append_right (Nat.le_refl _), Nat.sub_self]
  congr 1
  show (match f b with | some b => [b] | none => []) = _
  rw [List.filterMap_cons, List.filterMap_nil]
  cases f b <;> rfl
theorem fm_rg {γ : Type} (n : Nat) (f : Int → Option γ) : (List.range n).filterMap (fun j : Nat => f (j : Int)) = (rg n).filterMap f := by
  unfold rg
  rw [List.filterMap_map]
  rfl
/-- [c[0] for c in calls] -/
theorem lc_fst {K : PySem.W.Frag} {a : Addr} {ws : List V} {L : List Cl} {i : Nat} {σ : L2.St} {H1 : Hp} {Q : VK} (ha : H1 a = some (.lst ws)) (lg : LG H1 ws L) (len : L.length ≤ 100000) (hi : i < σ.length)
    (q : ∀ o H', Same H1 H' → H1 o = none → H' o = some (.lst ((L.map (·.1)).map V.int)) → Q (.ref o) H') :
    tLc (fun _ H R => R (Itl K a) H) (gName i) tYes (tOp (rIxT K) (tVar i) (tC (V.int 0))) [i] σ H1 Q := by
  have wl := lg.len
  refine gc_list IsI (fun _ _ _ _ h _ => h) (fun j => L[j]?.bind fun c => some c.1) ha (by omega) (fun j x Hx A B gx sx hA hB => ?_) (fun o ys H' s no ho pr => ?_)
  · obtain ⟨c, gc, t, rfl, ht⟩ := pget lg gx
    refine (show (if true = true then tOp (rIxT K) (tVar i) (tC (V.int 0)) (σ.set i (some (.ref t))) Hx A else B Hx) from ?_)
    rw [if_pos rfl]
    refine ⟨.ref t, by rw [List.getElem?_set_self hi], ?_⟩
    refine ⟨t, _, 0, .int c.1, rfl, rfl, SqT.of (sx _ _ ht), rfl, ?_⟩
    exact hA _ c.1 Hx (by rw [gc]; rfl) (Same.refl _) rfl
  · refine q o H' s no ?_
    have e := isI_map pr
    rw [wl, fm_range (L := L) (fun c => some c.1), List.filterMap_eq_map'] at e
    rw [e] at ho
    exact ho
/-- [r for r in range(n) if r not in L] -/
theorem lc_notin {K : PySem.W.Frag} {m : Nat} {b : Addr} {R : List Int} {n i : Nat} {σ : L2.St} {H1 : Hp} {Q : VK} (hm : (σ.set i none)[m]? = some (some (.ref b))) (hb : SqL K H1 b (R.map V.int) ∨ SqT K H1 b (R.map V.int)) (len : n ≤ 100000) (hi : i < σ.length)
    (q : ∀ o H', Same H1 H' → H1 o = none → H' o = some (.lst (((rg n).filter fun z => decide (z ∉ R)).map V.int)) → Q (.ref o) H') :
    tLc (fun _ H R => R (Itr 0 n) H) (gName i) (tTest (tOp (rIn K true) (tVar i) (tVar m))) (tVar i) [i] σ H1 Q := by
  have nm : m ≠ i := fun z => by
    subst z
    rw [List.getElem?_set_self hi] at hm
    cases hm
  refine gc_range IsI (fun _ _ _ _ h _ => h) (fun j => if (j : Int) ∈ R then none else some (j : Int)) len (fun j Hx A B jl sx hA hB => ?_) (fun o ys H' s no ho pr => ?_)
  · rw [Int.zero_add]
    refine ⟨.int (j : Int), by rw [List.getElem?_set_self hi], .ref b, ?_, b, R.map V.int, rfl, ?_, rfl, flI _, ?_⟩
    · rw [List.getElem?_set_ne (fun z => nm z.symm)]
      rw [List.getElem?_set_ne (fun z => nm z.symm)] at hm
      exact hm
    · exact SeqI.same hb sx
    · rw [inI, if_pos rfl]
      refine ⟨_, rfl, ?_⟩
      by_cases c : (j : Int) ∈ R
      · rw [decide_eq_true c]
        exact hB Hx (if_pos c) (Same.refl _)
      · rw [decide_eq_false c]
        exact ⟨_, by rw [List.getElem?_set_self hi], hA _ (j : Int) Hx (if_neg c) (Same.refl _) rfl⟩
  · refine q o H' s no ?_
    have e := isI_map pr
    rw [fm_rg n (fun z => if z ∈ R then none else some z)] at e
    have e2 : ∀ l : List Int, l.filterMap (fun z => if z ∈ R then none else some z) = l.filter fun z => decide (z ∉ R) := fun l => by
      induction l with
      | nil => rfl
      | cons z l ih =>
        by_cases c : z ∈ R
        · rw [List.filterMap_cons, if_pos c, List.filter_cons_of_neg (by simpa using c)]
          exact ih
        · rw [List.filterMap_cons, if_neg c, List.filter_cons_of_pos (by simpa using c), ih]
    rw [e, e2] at ho
    exact ho
/-- the calls at these places -/
def pickC (C : List Cl) (xs : List Int) : List Cl := xs.filterMap fun x => C[x.toNat]?
theorem pickC_perm {C : List Cl} {xs : List Int} (h : xs.Perm (rg C.length)) : (pickC C xs).Perm C := by
  have e : pickC C (rg C.length) = C := by
    unfold pickC rg
    rw [List.filterMap_map]
    have := fm_range (L := C) (fun c => some c)
    rw [List.filterMap_some] at this
    refine Eq.trans (fmap_congr _ fun j _ => ?_) this
    show C[((j : Nat) : Int).toNat]? = _
    rw [Int.toNat_natCast]
    cases C[j]? <;> rfl
  have := h.filterMap (fun x => C[x.toNat]?)
  show (xs.filterMap _).Perm C
  refine this.trans ?_
  show (pickC C (rg C.length)).Perm C
  rw [e]
/-- [calls[k] for k in places] -/
theorem lc_pick {K : PySem.W.Frag} {a g : Addr} {ws : List V} {C : List Cl} {xs : List Int} {c i : Nat} {σ : L2.St} {H1 : Hp} {Q : VK} (hc : (σ.set i none)[c]? = some (some (.ref g))) (hg : H1 g = some (.lst ws)) (lg : LG H1 ws C) (ha : H1 a = some (.lst (xs.map V.int))) (pm : xs.Perm (rg C.length)) (len : C.length ≤ 100000) (hi : i < σ.length)
    (q : ∀ o vs H', Same H1 H' → H1 o = none → H' o = some (.lst vs) → LG H' vs (pickC C xs) → Q (.ref o) H') :
    tLc (fun _ H R => R (Itl K a) H) (gName i) tYes (tOp (rIxL K) (tVar c) (tVar i)) [i] σ H1 Q := by
  have nm : c ≠ i := fun z => by
    subst z
    rw [List.getElem?_set_self hi] at hc
    cases hc
  have xl : xs.length = C.length := by rw [pm.length_eq, rg_len]
  refine gc_list (fun H v b => IsC H v b) (fun _ _ _ _ h k => h.kt k) (fun j => xs[j]?.bind fun x => C[x.toNat]?) ha (by rw [List.length_map]; omega) (fun j x Hx A B gx sx hA hB => ?_) (fun o ys H' s no ho pr => ?_)
  · rw [List.getElem?_map] at gx
    cases e : xs[j]? with
    | none => rw [e] at gx; cases gx
    | some y =>
      rw [e] at gx hA
      have ex := Option.some.inj gx
      subst ex
      obtain ⟨n, hn, rfl⟩ := List.mem_map.mp (pm.mem_iff.mp (List.mem_of_getElem? e))
      have hn2 := List.mem_range.mp hn
      obtain ⟨d, gd⟩ : ∃ d, C[n]? = some d := ⟨_, List.getElem?_eq_getElem hn2⟩
      obtain ⟨v, gv, r⟩ := pget2 lg gd
      refine (show (if true = true then tOp (rIxL K) (tVar c) (tVar i) (σ.set i (some (.int (Int.ofNat n)))) Hx A else B Hx) from ?_)
      rw [if_pos rfl]
      refine ⟨.ref g, ?_, .int (Int.ofNat n), by rw [List.getElem?_set_self hi], g, ws, Int.ofNat n, v, rfl, rfl, SqL.of (sx _ _ hg), atI_nat gv, ?_⟩
      · rw [List.getElem?_set_ne (fun z => nm z.symm)]
        rw [List.getElem?_set_ne (fun z => nm z.symm)] at hc
        exact hc
      · exact hA _ d Hx gd (Same.refl _) (r.kt (KT.same sx))
  · refine q o ys H' s no ho ?_
    rw [List.length_map, fm_range (L := xs) (fun x => C[x.toNat]?)] at pr
    exact pr

/-! ### all(test for x in a list or tuple) -/
section
variable {X : Cx} {pins : List (Addr × Obj)} {σ : L2.St} {H : Hp} {s : Shared}
/-- the element: a test of the value v, among what stood when the walk began (but for the table at P) -/
def EltV (X : Cx) (pins : List (Addr × Obj)) (σ : L2.St) (H1 : Hp) (P : Addr) (scope : Scope) (x : Str) (elt : Expr) (xs : List V) (pb : V → Bool) : Prop :=
  ∀ (cenv : Env) (A' : Around) (E' : Value → Shared → Prop) (v : V) (u : Value) (sa s2 : Shared) (m2 : Str → Option Value), cenv.scope = scope → cenv.cells = cloFrom X.env.cells scope.names [] → v ∈ xs → L2.RelV v u → s2.heap.Ns cenv.locals m2 → m2 x = some u →
    Inv X pins σ H1 sa → (∀ b o, b ≠ P → sa.heap.get? b = some o → s2.heap.get? b = some o) → wpAny (model X.prog X.w) A' (eval elt cenv) (fun y s3 => y = .bool (pb v) ∧ Keeps s2 s3) E' s2
/-- the generator expression's own scope, by looks at the two scopes -/
structure GenS0 (esc scope : Scope) (x : Str) : Prop where
  kind : scope.kind = .function
  co : scope.isCoroutine = false
  cell : ∀ y ∈ scope.names, y.2 ≠ .cell
  dot : scope.names.lookup (".0" : Str) = some NameKind.local
  loc : scope.names.lookup x = some .local
  free : ∀ y ∈ scope.names, y.2 = .free → esc.names.lookup y.1 = some .cell ∨ esc.names.lookup y.1 = some .free
theorem GenS0.of {scope : Scope} {x : Str} (S : GenS0 X.env.scope scope x) (ok : X.Ok) : GxR.GenS X.env scope x :=
  ⟨S.kind, S.co, S.cell, S.dot, S.loc, fun y hy e => (S.free y hy e).elim (fun z => ok.has _ (.inl z)) fun z => ok.has _ (.inr z)⟩
def trV (pb : V → Bool) (l : List V) (q0 : Nat) : Bool := match l[q0]? with
  | some b => pb b
  | none => false
theorem trV_some {pb : V → Bool} {l : List V} {q0 : Nat} {b : V} (h : l[q0]? = some b) : trV pb l q0 = pb b := by
  unfold trV
  rw [h]
theorem all_trV (l : List V) (pb : V → Bool) : (List.range l.length).all (trV pb l) = l.all pb := by
  rw [Bool.eq_iff_iff, List.all_eq_true, List.all_eq_true]
  constructor
  · intro h b hb
    obtain ⟨q0, q0l, e⟩ := List.getElem_of_mem hb
    have q := h q0 (List.mem_range.mpr q0l)
    rw [trV_some (List.getElem?_eq_getElem q0l), e] at q
    exact q
  · intro h q0 q0l
    have hj' := List.mem_range.mp q0l
    rw [trV_some (List.getElem?_eq_getElem hj')]
    exact h _ (List.getElem_mem hj')
/-- a list's or a tuple's iterator -/
theorem iter_vals {K : PySem.W.Frag} {yl : Addr} {xs : List V} {Q' : Value → Shared → Prop} (I : Inv X pins σ H s) (h : SqL X.K H yl xs ∨ SqT X.K H yl xs)
    (q : ∀ (us : List Value) (o : Obj) (St : Nat → Heap → Prop), Vals xs us → yl < s.heap.objs.size → (∃ oy, s.heap.get? yl = some oy ∧ ∀ us, oy.data ≠ .fields us) → (∀ A' : Around, A'.handled = none → Walks X.prog X.w A' s.heap.objs.size [s.heap.objs.size, yl] [s.heap.objs.size] us.toArray.size (fun i v => us.toArray[i]? = some v) St) →
      St 0 (s.heap.push o) → Q' (.ref s.heap.objs.size) { s with heap := s.heap.push o }) : wpAny (model X.prog X.w) X.A (pyIter (.ref yl)) Q' X.xe s := by
  rcases h with h | h
  · obtain ⟨us, rv, hl, hz⟩ := I.list h
    have lst := hl.isList
    have lt : yl < s.heap.objs.size := by
      obtain ⟨_, e, _⟩ := _root_.id lst
      exact Heap.lt_size e
    refine wpAny_pyIter_list lst (q us _ _ rv lt ?_ (fun A' hand => Walks.list hand _ _ (Nat.ne_of_lt lt) _) ⟨⟨_, Heap.get?_push_size _ rfl, rfl, rfl⟩, ?_⟩)
    · obtain ⟨ob, e, _, _, hd⟩ := _root_.id lst
      exact ⟨ob, e, fun us z => by rw [hd] at z; cases z⟩
    · obtain ⟨ob, e, r⟩ := _root_.id lst
      exact ⟨ob, Heap.get?_push_of_some _ e, r⟩
  · obtain ⟨us, rv, hl, hz⟩ := I.tuple h
    have lt : yl < s.heap.objs.size := by
      obtain ⟨_, e, _⟩ := _root_.id hl
      exact Heap.lt_size e
    refine wpAny_pyIter_tuple hl (q us _ _ rv lt ?_ (fun A' hand => Walks.tuple hand _ _ (Nat.ne_of_lt lt) _) ⟨⟨_, Heap.get?_push_size _ rfl, rfl, rfl⟩, ?_⟩)
    · obtain ⟨ob, e, _, _, hd⟩ := _root_.id hl
      exact ⟨ob, e, fun us z => by rw [hd] at z; cases z⟩
    · obtain ⟨ob, e, r⟩ := _root_.id hl
      exact ⟨ob, Heap.get?_push_of_some _ e, r⟩
/-- the generator g over the values xs, ready to be walked, in the state s5; H1: what was held before -/
def ReadyV (X : Cx) (pins : List (Addr × Obj)) (σ : L2.St) (H1 : Hp) (P : Addr) (xs : List V) (pb : V → Bool) (g : Addr) (s5 : Shared) : Prop :=
  ∃ (ft wt : List Addr) (G : Array GenState → Array GenState → Prop) (F : Nat → Value → Prop) (St : Nat → Shared → Prop),
    WalksS X.prog X.w X.A.in1 g ft wt G xs.length F St ∧ St 0 s5 ∧ TruthOf X.prog X.w X.A.in1 F (trV pb xs) ∧ ∀ s', Moved wt G s5 s' → ∃ H2, GxR.Tabbed P H1 H2 ∧ Inv X pins σ H2 s'
theorem gen_vals {c P : Addr} {elt iter : Expr} {x : Str} {px gpos : Pos} {scope : Scope} {pb : Hp → V → Bool} {te : TE} {k : Nat} {Q' : Value → Shared → Prop} {R : List V → Hp → Prop}
    (hr : Room k X.A) (TB : GxR.TabB X.base X.mg c P) (hcode : X.env.code = .ref c) (S : GxR.GenS X.env scope x) (hi : PE X iter te) (hs : ∀ v, genFold iter X.env v = pure v) (I : Inv X pins σ H s)
    (h : te σ H fun v H1 => ∃ (yl : Addr) (xs : List V), v = .ref yl ∧ (SqL X.K H1 yl xs ∨ SqT X.K H1 yl xs) ∧ (∀ pins, EltV X pins σ H1 P scope x elt xs (pb H1)) ∧ GxR.TabG H1 P ∧ R xs H1)
    (hQ : ∀ xs H1 g s5, R xs H1 → ReadyV X pins σ H1 P xs (pb H1) g s5 → Q' (.ref g) s5) :
    wpAny (model X.prog X.w) X.A (eval (.GeneratorExp elt [⟨.Name x px, iter, [], 0⟩] scope gpos) X.env) Q' X.xe s := by
  refine wpAny_GeneratorExp_walksQ hr.hd S.co (closure_ok S.free) S.cell S.dot S.loc S.kind (by have := hr.dp; omega) ?_ hs
  refine thn (hi.run pins s σ H _ I h) fun uv sa ⟨v, H1, I1, r1, q1⟩ => ?_
  obtain ⟨yl, xs, rfl, hyl, hel, ⟨ps, hP, ht⟩, q1⟩ := q1
  obtain rfl : uv = Value.ref yl := r1
  refine iter_vals (K := X.K) I1 hyl fun us o St rv ylt hyo W hst => ?_
  obtain ⟨oy, hoy, hyd⟩ := hyo
  have vlen : us.length = xs.length := rv.length.symm
  have vat : ∀ (i : Nat) (u : Value), us.toArray[i]? = some u → ∃ b, xs[i]? = some b ∧ L2.RelV b u := fun i u hv => by
    have gv : us[i]? = some u := by simpa using hv
    have ilt : i < us.length := (List.getElem?_eq_some_iff.mp gv).1
    obtain ⟨b, hb⟩ : ∃ b, xs[i]? = some b := ⟨xs[i]'(by omega), List.getElem?_eq_getElem _⟩
    obtain ⟨u2, hu, ru⟩ := rv.get hb
    rw [gv] at hu
    cases hu
    exact ⟨b, hb, ru⟩
  have tbs : sa.heap.get? P = some { cls := .none, data := .fields ps } := I1.hok P _ hP
  have tlt : P < sa.heap.objs.size := Heap.lt_size tbs
  have tb2 : (sa.heap.push o).get? P = some { cls := .none, data := .fields ps } := Heap.get?_push_of_some _ tbs
  have cd : PySem.W.CodeHd (sa.heap.push o) c P := TB.code.keeps fun b u e => Heap.get?_push_of_some _ (I1.bk b u e)
  have nl2 : (sa.heap.push o).NoLimit := I1.nolimit.push o
  have goes : ∀ (code : Value) (hw : Heap) (tk : Nat) (ps' : Array Value), Heap.ExtBut P (sa.heap.push o) hw → (sa.heap.push o).objs.size ≤ hw.objs.size → hw.get? P = some { cls := .none, data := .fields ps' } → (∃ add, ps' = ps ++ add) → TriplesOk ps'.toList →
      wpAny (model X.prog X.w) X.A (builtinsFor X.env.globals X.env.builtins) (fun bi z4 =>
        ∃ Ia ft wt nn Pf St0 pz F, Value.ref sa.heap.objs.size = .ref Ia ∧ (∀ A' : Around, A'.handled = none → Walks X.prog X.w A' Ia ft wt nn Pf St0) ∧ St0 0 z4.heap ∧ (∀ b ∈ ft, b < z4.heap.objs.size) ∧ z4.heap.NoLimit ∧ cStatics ∉ wt ∧
          (∀ hrf : Heap, (∀ b o, z4.heap.get? b = some o → hrf.get? b = some o) →
            QuietGen X.prog X.w (genEnv scope (cloFrom X.env.cells scope.names []) z4.heap.objs.size code bi X.env) x [] elt (List.range z4.heap.objs.size) wt Pf pz F hrf) ∧
          (∀ a hn5_ tk gst, gst.bare = true → z4.heap.objs.size < a → hn5_.objs.size = a + 1 → (∀ b o, z4.heap.get? b = some o → hn5_.get? b = some o) →
            WalksS X.prog X.w X.A.in4 a (a :: z4.heap.objs.size :: List.range z4.heap.objs.size) (z4.heap.objs.size :: wt) (GenOnlyQ z4.gens.size) (passing pz nn 0).length
              (fun q0 y => ∃ i, (passing pz nn 0)[q0]? = some i ∧ F i y) (GenAt X.prog X.w X.A.in4 a z4.gens.size z4.heap.objs.size (List.range z4.heap.objs.size) wt pz nn F) →
            GenAt X.prog X.w X.A.in4 a z4.gens.size z4.heap.objs.size (List.range z4.heap.objs.size) wt pz nn F 0 { z4 with gens := z4.gens.push gst, toks := tk, heap := hn5_ } →
            Q' (.ref a) { z4 with gens := z4.gens.push gst, toks := tk, heap := hn5_ })) X.xe { sa with heap := hw, toks := tk } := by
    intro code hw tk ps' hx hsz tb3 mre tr3
    obtain ⟨bm, ob, e1, e2, e3, e4, e5, e6, e7, e8⟩ := TB.bm
    have cnP : cStatics ≠ P := fun e => by
      obtain ⟨_, hns, _⟩ := I1.nolimit
      obtain ⟨o', es, ep, ho, hd, _⟩ := hns
      rw [e, tbs] at ho
      cases ho
      cases hd
    have clt : cStatics < sa.heap.objs.size := let ⟨_, hns, _⟩ := I1.nolimit; hns.lt
    have sze : (sa.heap.push o).objs.size = sa.heap.objs.size + 1 := Heap.size_push ..
    have kp3 : ∀ b u, b ≠ P → sa.heap.get? b = some u → hw.get? b = some u := fun b u hb e => hx b u hb (Heap.get?_push_of_some _ e)
    refine wpAny_builtinsFor (m := X.mg) (by rw [I1.ok.glob]; exact ((I1.mod.glob.keeps I1.bk).push o).extBut hx TB.gP) e1 e2 (kp3 _ _ e4 (I1.bk _ _ e5)) e6 e7 e8 ?_
    have ynP : yl ≠ P := fun z => by
      rw [z, tbs] at hoy
      cases hoy
      exact hyd _ rfl
    refine ⟨sa.heap.objs.size, [sa.heap.objs.size, yl], [sa.heap.objs.size], us.toArray.size, (fun i v => us.toArray[i]? = some v), St, (fun _ => true),
      (fun i y => ∃ b, xs[i]? = some b ∧ y = .bool (pb H1 b)), rfl, W, ?_, ?_, nl2.extBut hx cnP, ?_, ?_, ?_⟩
    · refine (W X.A hr.hd).frame _ _ _ hst fun b hb u e => hx b u (fun z => ?_) e
      rcases List.mem_cons.mp hb with z2 | z2
      · exact Nat.ne_of_lt tlt (z.symm.trans z2)
      · rcases List.mem_cons.mp z2 with z3 | z3
        · exact ynP (z3.symm.trans z)
        · cases z3
    · intro b hb
      rcases List.mem_cons.mp hb with z | z
      · rw [z]
        show sa.heap.objs.size < hw.objs.size
        omega
      · rcases List.mem_cons.mp z with z | z
        · rw [z]
          have e9 : sa.heap.objs.size ≤ hw.objs.size := by omega
          exact Nat.lt_of_lt_of_le ylt e9
        · cases z
    · intro z
      rcases List.mem_cons.mp z with z | z
      · exact Nat.ne_of_lt clt z
      · cases z
    · intro hrf khr
      refine ⟨fun A' E' i v s2 mm hand vP hn mvd hk => ?_, fun A' E' i v s2 mm hand vP hp hn mvd hk => ?_⟩
      · simp only [List.forIn_nil]
        exact wpAny_pure ⟨rfl, GxR.keeps_refl _⟩
      · obtain ⟨b, hb, rb⟩ := vat i v vP
        refine wpAny_mono (hel pins _ A' E' b v sa s2 mm rfl rfl (List.mem_of_getElem? hb) rb hn mvd I1 fun d u nd e => ?_) (fun y s3 r => ⟨⟨b, hb, r.1⟩, r.2⟩) fun _ _ e => e
        have e3 := kp3 d u nd e
        refine hk d (List.mem_range.mpr (Heap.lt_size e3)) (fun z => ?_) u (khr d u e3)
        rcases List.mem_cons.mp z with z | z
        · exact Nat.ne_of_lt (Heap.lt_size e) z
        · cases z
    · intro g hg5 tkg gst gbr agt sz5 kg5 Wg gat
      simp only [GxR.passing_true, List.length_range] at Wg
      have hn5 : us.toArray.size = xs.length := by rw [List.size_toArray, vlen]
      rw [hn5] at Wg gat
      refine hQ xs H1 g _ q1 ⟨_, _, _, _, _, Wg.in4_1, gat, ?_, fun s' mvd => ?_⟩
      · intro q0 y sj Qj Ej hy hQj
        obtain ⟨i, hij, b, hb, rfl⟩ := hy
        obtain ⟨q0l, ej⟩ := List.getElem?_eq_some_iff.mp hij
        rw [List.getElem_range] at ej
        subst ej
        have hQ2 : Qj (trV (pb H1) xs q0) sj := hQj
        rw [trV_some hb] at hQ2
        exact wpAny_truthy_bool hQ2
      · obtain ⟨add, eadd⟩ := mre
        have notw : ∀ b u, sa.heap.get? b = some u → b ∉ hw.objs.size :: [sa.heap.objs.size] := fun b u e hb => by
          have hl := Heap.lt_size e
          rcases List.mem_cons.mp hb with z | z
          · rw [z] at hl
            have h9 : (hw.objs.size : Nat) < sa.heap.objs.size := hl
            omega
          · rcases List.mem_cons.mp z with z | z
            · rw [z] at hl
              exact Nat.lt_irrefl _ hl
            · cases z
        have J := GxR.inv_tab (more := add) (h' := s'.heap) (g' := s'.gens) (d' := s'.drawn) (t' := s'.toks) I1 hP (fun b u hb e => mvd.heap b u (notw b u e) (kg5 b u (kp3 b u hb e)))
          (by rw [← eadd]; exact mvd.heap P _ (notw P _ tbs) (kg5 P _ tb3)) (AllBare.movedS (I1.bare.push gbr) mvd)
        rw [GxR.sh_eta sa s' mvd.os] at J
        refine ⟨upd H1 P (.tbl (ps ++ add)), ⟨⟨ps ++ add, upd_same, by rw [← eadd]; exact tr3⟩, fun b hb => upd_ne hb⟩, J⟩
  refine ⟨nl2, ?_⟩
  cases hf : codeAmong gpos ps.toList with
  | none =>
    refine wpAny_genexprCodeX hcode (cd.code tb2 ht) (cd.tab tb2) hf fun c' h' tk hx hge hlt hco' _ htab' _ => ?_
    obtain ⟨o1, vs, f1, tf, fl, tg, inF, tx, tt, op, _, _, _, _, _, _, _, _, _, htr, _⟩ := hco'
    exact goes _ h' tk _ hx (Nat.le_trans hge (Nat.le_of_lt hlt)) htab'.2 ⟨_, rfl⟩ htr
  | some cv =>
    refine wpAny_genexprCode_hit hcode (cd.code tb2 ht) hf ?_
    exact goes cv (sa.heap.push o) sa.toks ps (Heap.ExtBut.refl _ _) (Nat.le_refl _) tb2 ⟨#[], by simp⟩ ht
/-- all(test for x in e), e a list or a tuple; behind it the def's table may have grown -/
def tAllV (X : Cx) (P : Addr) (scope : Scope) (x : Str) (elt : Expr) (pb : Hp → V → Bool) (te : TE) : TE := fun σ H Q => te σ H fun v H1 => ∃ (yl : Addr) (xs : List V), v = .ref yl ∧ (SqL X.K H1 yl xs ∨ SqT X.K H1 yl xs) ∧ (∀ pins, EltV X pins σ H1 P scope x elt xs (pb H1)) ∧ GxR.TabG H1 P ∧ ∀ H2, GxR.Tabbed P H1 H2 → Q (.bl (xs.all (pb H1))) H2
theorem pe_allV {c P : Addr} {elt iter : Expr} {x : Str} {px p pos gpos : Pos} {scope : Scope} {pb : Hp → V → Bool} {te : TE} {k : Nat}
    (hr : Room k X.A) (hg : Gl X "all") (mvd : X.mg "all" = none) (hb : bootBuiltins "all" = some (.builtin "all")) (TB : GxR.TabB X.base X.mg c P) (hcode : X.env.code = .ref c) (S : GenS0 X.env.scope scope x) (hi : PE X iter te)
    (hs : ∀ v, genFold iter X.env v = pure v)
    (he : starEach [.GeneratorExp elt [⟨.Name x px, iter, [], 0⟩] scope gpos] X.env = (false, eval (.GeneratorExp elt [⟨.Name x px, iter, [], 0⟩] scope gpos) X.env) :: starEach [] X.env := by rfl) :
    PE X (.Call (.Name "all" p) [.GeneratorExp elt [⟨.Name x px, iter, [], 0⟩] scope gpos] [] pos) (tAllV X P scope x elt pb te) := by
  refine ⟨fun pins s σ H Q I h => ?_⟩
  refine wpAny_Call_Name_kw (ld_blt I hg mvd hb ?_)
  refine PyProof.Rows.callWith_builtin1 ?_ he (by rfl)
  rw [he]
  show wpAny _ _ (spliced ((false, eval (.GeneratorExp elt [⟨.Name x px, iter, [], 0⟩] scope gpos) X.env) :: backTo pos (starEach [] X.env))) _ _ s
  refine Calls.spliced_cons (gen_vals (pb := pb) (R := fun xs H1 => ∀ H2, GxR.Tabbed P H1 H2 → Q (.bl (xs.all (pb H1))) H2) hr TB hcode (S.of I.ok) hi hs I h fun xs H1 g s5 hR hG => ?_)
  obtain ⟨ft, wt, G, F, St, W, hst, htr, hI⟩ := hG
  refine Calls.spliced_nil ?_
  refine call_all_walkS (W.self 0 _ _ _ hst ⟨g, ft, wt, G, _, F, St, _, rfl, W, hst, htr, fun s' hmv => ?_⟩)
  obtain ⟨H2, hT, J⟩ := hI s' hmv
  refine ⟨.bl _, H2, J, rfl, ?_⟩
  rw [all_trV]
  exact hR H2 hT
end
/-! ### a code object's table, told only as a table -/
def TbO (a : Addr) : HO := .ext fun h => ∃ ps : Array Value, h.get? a = some { cls := .none, data := .fields ps } ∧ TriplesOk ps.toList
theorem tbO_ne (a : Addr) : (∀ x, TbO a ≠ .own x) ∧ (∀ xs, TbO a ≠ .tup xs) ∧ (∀ o u, TbO a ≠ .frz o u) ∧ ∀ ps, TbO a ≠ .tbl ps := by
  unfold TbO
  refine ⟨?_, ?_, ?_, ?_⟩ <;> intros <;> intro z <;> cases z
theorem hok_swap {P : Program} {w : World} {H : Hp} {h : Heap} {a : Addr} {o1 o2 : HO} (x : HOk P w H h) (e : H a = some o1) (n1 : ∀ y, o1 ≠ .own y) (n2 : ∀ xs, o1 ≠ .tup xs) (new : ObjOk P w (upd H a o2) h a o2) : HOk P w (upd H a o2) h := fun b o q => by
  by_cases hb : b = a
  · rw [hb, upd_same] at q
    cases q
    rw [hb]
    exact new
  · rw [upd_ne hb] at q
    refine (x b o q).stay (fun _ _ _ z => z) (fun d z => ?_) fun d xs z => ?_
    · rw [upd_ne (ne_of z e fun z2 => n1 _ z2.symm)]
      exact z
    · rw [upd_ne (ne_of z e fun z2 => n2 _ z2.symm)]
      exact z
theorem un_swap {fs : List Addr} {H H' : Hp} {h h' : Heap} {a : Addr} {o1 o2 o4 : HO} (e1 : H a = some o1) (u : Un fs [] (upd H a o2) H' h h') (n : ∀ xs, o1 ≠ .tup xs) (n2 : ∀ o x, o1 ≠ .frz o x) (n3 : ∀ ps, o1 = .tbl ps → ∃ more, o4 = .tbl (ps ++ more)) : Un fs [] H (upd H' a o4) h h' := by
  have nn : ∀ b, H b = none → b ≠ a := fun b z q => by
    rw [q, e1] at z
    cases z
  refine ⟨fun b o q z hb hx => u.keep b o q (by rw [upd_ne (nn b z)]; exact z) hb hx, fun b o q z hb hx => u.slot b o q (by rw [upd_ne (nn b z)]; exact z) hb hx, fun b o q z hx => ?_, u.there, fun b xs z => ?_, fun b o x z => ?_, fun b ps z => ?_⟩
  · rw [upd_ne (nn b z)]
    exact u.free b o q (by rw [upd_ne (nn b z)]; exact z) hx
  · have hb := ne_of z e1 fun q => n _ q.symm
    rw [upd_ne hb]
    exact u.tups b xs (by rw [upd_ne hb]; exact z)
  · have hb := ne_of z e1 fun q => n2 _ _ q.symm
    rw [upd_ne hb]
    exact u.frzs b o x (by rw [upd_ne hb]; exact z)
  · by_cases hb : b = a
    · rw [hb, e1] at z
      obtain ⟨more, q⟩ := n3 ps (Option.some.inj z)
      exact ⟨more, by rw [hb, upd_same, q]⟩
    · rw [upd_ne hb]
      exact u.tbls b ps (by rw [upd_ne hb]; exact z)
section
variable {P : Program} {w : World} {K : PySem.W.Frag} {mg : Str → Option Value} {base : Heap} {k : Nat} {f : Addr} {fd : FuncData} {ps : List Str} {sp : Sp}
theorem env0_swap {A : Around} {outer : List Env} {s : Shared} {H : Hp} {a : Addr} {o1 o2 : HO} (e0 : Env0 P w K mg base A outer s H) (e : H a = some o1) (n1 : ∀ y, o1 ≠ .own y) (n2 : ∀ xs, o1 ≠ .tup xs) (new : ObjOk P w (upd H a o2) s.heap a o2) : Env0 P w K mg base A outer s (upd H a o2) := by
  have nn : ∀ b, H b = none → b ≠ a := fun b z q => by
    rw [q, e] at z
    cases z
  exact ⟨e0.frames, e0.mod, fun b o q => ⟨(e0.bs b o q).1, by rw [upd_ne (nn b (e0.bs b o q).2)]; exact (e0.bs b o q).2⟩, e0.bsz, e0.funs, fun b hb => by rw [upd_ne (nn b (e0.frf b hb))]; exact e0.frf b hb, hok_swap e0.hok e n1 n2 new, e0.bare⟩
/-- a def that works with its table: told of the table only that it is one -/
theorem FnOk.tb (a : Addr) (F : FnOk P w K mg base CX0 k f fd ps sp) : FnOk P w K mg base CX0 k f fd ps (fun vs H Q E => H a = some (TbO a) ∧ ∀ tb : Array Value, TriplesOk tb.toList → sp vs (upd H a (.tbl tb)) (fun v H' => ∃ tb' : Array Value, H' a = some (.tbl tb') ∧ TriplesOk tb'.toList ∧ Q v (upd H' a (TbO a))) E) := by
  refine ⟨fun vs H Q E h => F.len _ _ _ _ (h.2 #[] True.intro), fun A outer s H args us vs Q E hr e0 hb r h => ?_⟩
  obtain ⟨ha, h⟩ := h
  obtain ⟨⟨tb, hg, ht⟩, _, _⟩ := e0.hok a _ ha
  obtain ⟨t1, t2, t3, t4⟩ := tbO_ne a
  refine codeAny_mono (F.run A outer s (upd H a (.tbl tb)) args us vs _ E hr (env0_swap e0 ha t1 t2 hg) hb r (h tb ht)) fun q s' hq => ?_
  cases q with
  | error e => exact hq
  | ok fl =>
    cases fl with
    | next => exact False.elim hq
    | brk => exact False.elim hq
    | cont => exact False.elim hq
    | ret u =>
      obtain ⟨v, H', os, bare, un, hok, rv, tb', h', ht', q⟩ := hq
      have hg' : s'.heap.get? a = some { cls := .none, data := .fields tb' } := hok a _ h'
      exact ⟨v, _, os, bare, un_swap ha un t2 t3 (fun ps z => absurd z (t4 ps)), hok_swap (o2 := TbO a) hok h' (fun _ z => by cases z) (fun _ z => by cases z) ⟨⟨tb', hg', ht'⟩, ⟨_, hg'⟩, fun h1 h2 ⟨ps, z, t⟩ st => ⟨ps, st _ z, t⟩⟩, rv, q⟩
/-- .. and back, for a row's end: the table is empty at the start -/
theorem FnOk.untb (a : Addr) (F : FnOk P w K mg base CX0 k f fd ps sp) : FnOk P w K mg base CX0 k f fd ps (fun vs H Q E => H a = some (.tbl #[]) ∧ sp vs (upd H a (TbO a)) (fun v H' => H' a = some (TbO a) ∧ ∀ tb' : Array Value, Q v (upd H' a (.tbl tb'))) E) := by
  refine ⟨fun vs H Q E h => F.len _ _ _ _ h.2, fun A outer s H args us vs Q E hr e0 hb r h => ?_⟩
  obtain ⟨ha, h⟩ := h
  have hg : s.heap.get? a = some { cls := .none, data := .fields #[] } := e0.hok a _ ha
  obtain ⟨t1, t2, t3, t4⟩ := tbO_ne a
  refine codeAny_mono (F.run A outer s (upd H a (TbO a)) args us vs _ E hr (env0_swap e0 ha (fun _ z => by cases z) (fun _ z => by cases z) ⟨⟨#[], hg, True.intro⟩, ⟨_, hg⟩, fun h1 h2 ⟨ps, z, t⟩ st => ⟨ps, st _ z, t⟩⟩) hb r h) fun q s' hq => ?_
  cases q with
  | error e => exact hq
  | ok fl =>
    cases fl with
    | next => exact False.elim hq
    | brk => exact False.elim hq
    | cont => exact False.elim hq
    | ret u =>
      obtain ⟨v, H', os, bare, un, hok, rv, h', q⟩ := hq
      obtain ⟨⟨tb', hg', ht'⟩, _, _⟩ := hok a _ h'
      exact ⟨v, _, os, bare, un_swap ha un (fun _ z => by cases z) (fun _ _ z => by cases z) (fun ps z => ⟨tb', by cases z; rw [Array.empty_append]⟩), hok_swap (o2 := .tbl tb') hok h' t1 t2 hg', rv, q tb'⟩
end
/-- x in y, x the walk's name, y a name of the def -/
theorem elt_in {X : Cx} {pins : List (Addr × Obj)} {σ : L2.St} {H1 : Hp} {P b : Addr} {scope : Scope} {x y : Str} {j : Nat} {xs items : List V} {p1 p2 p3 : Pos} (S : GenS0 X.env.scope scope x) (hy : (y, NameKind.free) ∈ scope.names) (hy2 : scope.names.lookup y = some .free) (hc : X.env.scope.names.lookup y = some .cell)
    (hj : X.N[j]? = some y) (hs : σ[j]? = some (some (V.ref b))) (hb : H1 b = some (.lst items) ∨ H1 b = some (.tup items)) (tb : GxR.TabG H1 P) (fi : items.all flatV = true) (fx : ∀ v ∈ xs, flatV v = true)
    (hd : (x == ("__debug__" : Str)) = false := by decide) (hd2 : (y == ("__debug__" : Str)) = false := by decide) (hn : (y == ("__classdict__" : Str)) = false := by decide) :
    EltV X pins σ H1 P scope x (.Compare (.Name x p1) [.In] [.Name y p2] p3) xs (fun v => inV v items) := by
  intro cenv A' E' v u s1 s2 m2 ecs ecc hv ru hns hm I keep
  obtain ⟨ps, hP, _⟩ := tb
  have nP : b ≠ P := fun z => by
    rw [z, hP] at hb
    rcases hb with h | h <;> cases h
  obtain ⟨m, hnm, hl⟩ := I.loc
  obtain ⟨ub, rb, look⟩ := hl j y (.ref b) hj hs (.inr (.inl hc))
  obtain rfl : ub = Value.ref b := rb
  obtain ⟨c, hcl, hcell⟩ : ∃ c, X.env.cells.lookup y = some c ∧ s1.heap.IsCell c (some (Value.ref b)) := by
    rcases look with ⟨z, _⟩ | ⟨_, a', ha', hcell⟩
    · have z' : X.env.scope.names.lookup y = some .local := z
      rw [hc] at z'
      cases z'
    · exact ⟨a', ha', hcell⟩
  have ncP : c ≠ P := fun z => by
    have := I.freeC y c hcl
    rw [z, hP] at this
    cases this
  have hcell2 : s2.heap.IsCell c (some (Value.ref b)) := by
    obtain ⟨o, ho, hd⟩ := hcell
    exact ⟨o, keep _ _ ncP ho, hd⟩
  have hcl2 : cenv.cells.lookup y = some c := by
    rw [ecc]
    exact NdefX.clo_has (S.of I.ok).free hy hcl
  refine wpAny_Compare1 ?_
  refine wpAny_Name (wpAny_loadName_local (by rw [ecs]; exact S.kind) (show cenv.scope.names.lookup x = some .local by rw [ecs]; exact S.loc) hns hm ?_) hd
  refine wpAny_Name (wpAny_loadName_free (by rw [ecs]; exact S.kind) (show cenv.scope.names.lookup y = some .free by rw [ecs]; exact hy2) hcl2 hcell2 ?_ hn) hd2
  rcases hb with hb | hb
  · obtain ⟨its, r, pl, hz⟩ := I.list (SqL.of hb)
    have hIL : s2.heap.IsList b its.toArray := by
      obtain ⟨ob, e, q⟩ := _root_.id pl.isList
      exact ⟨ob, keep _ _ nP e, q⟩
    refine SeqAt.in_listAt (eqU v) hIL (fun w hw => mem_eqAt ru (fx v hv) r fi w (by simpa using hw)) ⟨?_, GxR.keeps_refl _⟩
    rw [show its.toArray.any (eqU v) = its.any (eqU v) by simp, any_eqU r fi]
    rfl
  · obtain ⟨its, r, pl, hz⟩ := I.tuple (SqT.of hb)
    have hIL : s2.heap.IsTuple b its.toArray := by
      obtain ⟨ob, e, q⟩ := _root_.id pl
      exact ⟨ob, keep _ _ nP e, q⟩
    refine SeqAt.in_tupleAt (eqU v) hIL (fun w hw => mem_eqAt ru (fx v hv) r fi w (by simpa using hw)) ⟨?_, GxR.keeps_refl _⟩
    rw [show its.toArray.any (eqU v) = its.any (eqU v) by simp, any_eqU r fi]
    rfl
/-- a def whose code object is known -/
structure FunC (K : PySem.W.Frag) (x qual : Str) (st : Stmt) (f : Addr) (fd : FuncData) (c : Addr) : Prop where
  ex : ∃ (oc : Value) (od : Option Addr) (kV doc pm : Value) (an : Option Addr) (ct : Value) (osl : Array (Option Value)),
    fd = PySem.W.fnOf x qual (defArgs st) (defBody st) (defScope st) .none kV doc pm an (.ref c) ct ∧ K.lookup f = some ⟨oc, od, .func fd, osl⟩ ∧ PySem.W.codeIn K (.ref c) qual = true
theorem FunC.ok {P : Program} {w : World} {K : PySem.W.Frag} {mg : Str → Option Value} {base : Heap} {x qual : Str} {st : Stmt} {f c : Addr} {fd : FuncData} {N ps : List Str} {k : Nat} {sp : Sp} (F : FunC K x qual st f fd c) (S : FnScope N ps (defScope st)) (len : ∀ vs H Q E, sp vs H Q E → vs.length = ps.length)
    (hb : ∀ (A : Around) (outer : List Env) (s : Shared) (H : Hp) (vs : List V) (Q : VK) (E : XK), Room k (A.deeper (envOfC qual (defScope st) s.heap.objs.size f (.ref c))) → sp vs H Q E →
      ∃ t, PSs (cxOf CX0 P w K mg base N qual (defScope st) f (.ref c) A outer s H E).nox (defBody st) t ∧ t { nx := fun _ H' => Q .non H', rt := Q } (L2.start N vs) H) : FnOk P w K mg base CX0 (k + 1) f fd ps sp := by
  obtain ⟨oc, od, kV, doc, pm, an, ct, osl, rfl, lk, hcd⟩ := F.ex
  refine fn_of lk hcd S len fun A outer s H vs Q E hr hsp => ?_
  obtain ⟨t, h, q⟩ := hb A outer s H vs Q E hr hsp
  exact ⟨t, h.nox, q⟩

/-! ### sets of rooms, last calls -/
def optS (o : Option Str) : V := match o with
  | some z => .str z
  | none => .non
theorem optS_scal (o o' : Option Str) : scal (optS o) (optS o') = true := by cases o <;> cases o' <;> rfl
theorem optS_inj {o o' : Option Str} (h : optS o = optS o') : o = o' := by
  cases o with
  | none =>
    cases o' with
    | none => rfl
    | some z => cases h
  | some y =>
    cases o' with
    | none => cases h
    | some z => exact congrArg some (V.str.inj h)
def wordP (L : List Cl) (ps : List Int) : Option Str := (lastIn ps L).map (·.2)
theorem snoc_ind {α : Type} {M : List α → Prop} (h0 : M []) (hs : ∀ S c, M S → M (S ++ [c])) (L : List α) : M L := by
  have key : ∀ K : List α, M K.reverse := by
    intro K
    induction K with
    | nil => exact h0
    | cons c K ih => rw [List.reverse_cons]; exact hs _ _ ih
  have := key L.reverse
  rw [List.reverse_reverse] at this
  exact this
theorem lastIn_snoc (R : List Int) (S : List Cl) (c : Cl) : lastIn R (S ++ [c]) = if c.1 ∈ R then some c else lastIn R S := by
  unfold lastIn
  rw [List.reverse_append]
  show List.find? _ (c :: S.reverse) = _
  by_cases h : c.1 ∈ R
  · rw [List.find?_cons_of_pos (by simp [h]), if_pos h]
  · rw [List.find?_cons_of_neg (by simp [h]), if_neg h]
theorem find_ext {α : Type} {p q : α → Bool} : ∀ l : List α, (∀ a ∈ l, p a = q a) → l.find? p = l.find? q
  | [], _ => rfl
  | a :: l, h => by
    rw [List.find?_cons, List.find?_cons, h a List.mem_cons_self, find_ext l fun b hb => h b (List.mem_cons_of_mem _ hb)]
theorem lastIn_congr {R S : List Int} (h : ∀ x, x ∈ R ↔ x ∈ S) (L : List Cl) : lastIn R L = lastIn S L := by
  unfold lastIn
  refine find_ext _ fun c _ => ?_
  by_cases m : c.1 ∈ R
  · rw [decide_eq_true m, decide_eq_true ((h _).mp m)]
  · rw [decide_eq_false m, decide_eq_false fun z => m ((h _).mpr z)]
theorem wordP_snoc (S : List Cl) (c : Cl) (R : List Int) : wordP (S ++ [c]) R = if c.1 ∈ R then some c.2 else wordP S R := by
  unfold wordP
  rw [lastIn_snoc]
  by_cases h : c.1 ∈ R
  · rw [if_pos h, if_pos h]
    rfl
  · rw [if_neg h, if_neg h]
theorem wordP_congr {R S : List Int} (h : ∀ x, x ∈ R ↔ x ∈ S) (L : List Cl) : wordP L R = wordP L S := by
  unfold wordP
  rw [lastIn_congr h]
theorem lastIn_none {R : List Int} {L : List Cl} : lastIn R L = none ↔ ∀ c ∈ L, c.1 ∉ R := by
  unfold lastIn
  rw [List.find?_eq_none]
  constructor
  · intro h c hc z
    exact h c (List.mem_reverse.mpr hc) (decide_eq_true z)
  · intro h c hc z
    exact h c (List.mem_reverse.mp hc) (of_decide_eq_true z)
theorem int_sub_len2 {ys : List Int} : ∀ {R : List Int}, ys.Nodup → (∀ x ∈ ys, x ∈ R) → ys.length ≤ R.length := fun {R} nd h => by
  induction R generalizing ys with
  | nil =>
    cases ys with
    | nil => exact Nat.le_refl _
    | cons a l => exact absurd (h a List.mem_cons_self) (by simp)
  | cons a R ih =>
    have := ih (ys := ys.erase a) (nd.erase a) fun x hx => by
      have h2 := (List.Nodup.mem_erase_iff nd).mp hx
      rcases List.mem_cons.mp (h x h2.2) with e | e
      · exact absurd e h2.1
      · exact e
    have h3 : ys.length ≤ (ys.erase a).length + 1 := by
      by_cases m : a ∈ ys
      · rw [List.length_erase_of_mem m]
        omega
      · rw [List.erase_of_not_mem m]
        omega
    rw [List.length_cons]
    omega
theorem filter_lt {α : Type} {p : α → Bool} {x : α} : ∀ {l : List α}, x ∈ l → ¬ p x = true → (l.filter p).length < l.length
  | a :: l, h, n => by
    rcases List.mem_cons.mp h with e | m
    · rw [← e, List.filter_cons_of_neg n]
      exact Nat.lt_succ_of_le (List.length_filter_le _ _)
    · have ih := filter_lt m n
      by_cases c : p a = true
      · rw [List.filter_cons_of_pos c, List.length_cons, List.length_cons]
        omega
      · rw [List.filter_cons_of_neg c, List.length_cons]
        omega
theorem lastIn_in {R : List Int} {L : List Cl} {c : Cl} (h : lastIn R L = some c) : c.1 ∈ R := by
  have := List.find?_some h
  exact of_decide_eq_true this
/-- the last call of a set is the last one of each subset that holds its room -/
theorem lastIn_sub {R : List Int} {c : Cl} (L : List Cl) : ∀ {Q : List Int}, lastIn R L = some c → c.1 ∈ Q → (∀ z ∈ Q, z ∈ R) → lastIn Q L = some c := by
  refine snoc_ind (M := fun L => ∀ {Q : List Int}, lastIn R L = some c → c.1 ∈ Q → (∀ z ∈ Q, z ∈ R) → lastIn Q L = some c) (fun {Q} h => by cases h) (fun S d ih {Q} h hc sub => ?_) L
  rw [lastIn_snoc] at h ⊢
  by_cases m : d.1 ∈ R
  · rw [if_pos m] at h
    cases h
    rw [if_pos hc]
  · rw [if_neg m] at h
    rw [if_neg fun z => m (sub _ z)]
    exact ih h hc sub

/-! ### forms: the theory -/
/-- ascending, the same rooms -/
def insI (x : Int) : List Int → List Int
  | [] => [x]
  | y :: ys => if x < y then x :: y :: ys else if x = y then y :: ys else y :: insI x ys
theorem insI_mem (x : Int) : ∀ (ys : List Int) (z : Int), z ∈ insI x ys ↔ z = x ∨ z ∈ ys
  | [], z => by simp [insI]
  | y :: ys, z => by
    unfold insI
    split
    · rw [List.mem_cons]
    · split
      · rename_i h
        rw [h, List.mem_cons]
        exact ⟨fun q => .inr q, fun q => q.elim (fun e => .inl e) id⟩
      · rw [List.mem_cons, insI_mem x ys z, List.mem_cons]
        exact ⟨fun q => q.elim (fun e => .inr (.inl e)) fun q => q.elim .inl fun q => .inr (.inr q), fun q => q.elim (fun e => .inr (.inl e)) fun q => q.elim .inl fun q => .inr (.inr q)⟩
theorem insI_up (x : Int) : ∀ ys : List Int, Up ys → Up (insI x ys)
  | [], _ => List.pairwise_singleton _ _
  | y :: ys, h => by
    obtain ⟨h1, h2⟩ := List.pairwise_cons.mp h
    unfold insI
    split
    · rename_i c
      refine List.pairwise_cons.mpr ⟨fun z hz => ?_, h⟩
      rcases List.mem_cons.mp hz with e | m
      · omega
      · have := h1 z m
        omega
    · split
      · exact h
      · refine List.pairwise_cons.mpr ⟨fun z hz => ?_, insI_up x ys h2⟩
        rcases (insI_mem x ys z).mp hz with e | m
        · omega
        · exact h1 z m
def upF (R : List Int) : List Int := R.foldr insI []
theorem upF_mem (R : List Int) (x : Int) : x ∈ upF R ↔ x ∈ R := by
  induction R with
  | nil => exact Iff.rfl
  | cons y R ih =>
    show x ∈ insI y (upF R) ↔ _
    rw [insI_mem, ih, List.mem_cons]
theorem upF_up (R : List Int) : Up (upF R) := by
  induction R with
  | nil => exact List.Pairwise.nil
  | cons y R ih => exact insI_up y _ ih
theorem upF_eq {R ys : List Int} (h : Up ys) (m : ∀ x, x ∈ ys ↔ x ∈ R) : upF R = ys := up_uniq (upF_up R) h fun x => (upF_mem R x).trans (m x).symm
theorem up_nd {ys : List Int} (h : Up ys) : ys.Nodup := List.Pairwise.imp (fun {a b} (h : a < b) => by omega) h
open Classical in
theorem pc_ex (D : List Pr) (R : List Int) (s : Int) : ∃ ys, Pc D R s ys := by
  refine ⟨(upF R).filter fun x => decide (Rch D R s x), (upF_up R).filter _, fun x => ?_⟩
  rw [List.mem_filter, decide_eq_true_iff, upF_mem]
  exact ⟨fun h => h.2, fun h => ⟨h.mem, h⟩⟩
theorem pcs_go (D : List Pr) (R : List Int) : ∀ (n : Nat) (P : List (List Int)) (Lf : List Int), Lf.length ≤ n → PInv D R P Lf → ∃ L, Pcs D R L
  | _, P, [], _, h => ⟨P, h.done⟩
  | 0, _, _ :: _, h, _ => by cases h
  | n + 1, P, l0 :: Lf, hn, h => by
    obtain ⟨ys, hy⟩ := pc_ex D (l0 :: Lf) l0
    refine pcs_go D R n _ _ ?_ (h.step hy)
    have m : l0 ∈ ys := hy.self List.mem_cons_self
    rw [List.filter_cons_of_neg (by simpa using m)]
    exact Nat.le_trans (List.length_filter_le _ _) (Nat.le_of_succ_le_succ hn)
theorem pcs_ex (D : List Pr) (R : List Int) : ∃ L, Pcs D R L := pcs_go D R _ [] (upF R) (Nat.le_refl _) (.start (upF_mem R) (List.Pairwise.imp (fun {a b} (h : a < b) => Int.le_of_lt h) (upF_up R)))
open Classical in
noncomputable def pcsF (D : List Pr) (R : List Int) : List (List Int) := choose (pcs_ex D R)
theorem pcsF_spec (D : List Pr) (R : List Int) : Pcs D R (pcsF D R) := Classical.choose_spec (pcs_ex D R)
theorem pcsF_eq {D : List Pr} {R : List Int} {L : List (List Int)} (h : Pcs D R L) : pcsF D R = L := (pcsF_spec D R).uniq h fun _ => Iff.rfl
theorem pcsF_congr {D : List Pr} {R S : List Int} (h : ∀ x, x ∈ R ↔ x ∈ S) : pcsF D R = pcsF D S := (pcsF_spec D R).uniq (pcsF_spec D S) h
theorem pcsF_nil (D : List Pr) : pcsF D [] = [] := pcsF_eq (Pcs.nil D)
/-- a set of rooms that hangs together -/
def Part (D : List Pr) (Q : List Int) : Prop := Up Q ∧ ∃ s ∈ Q, ∀ x ∈ Q, Rch D Q s x
theorem Pc.part {D : List Pr} {R : List Int} {s : Int} {ys : List Int} (h : Pc D R s ys) (m : s ∈ R) : Part D ys := by
  refine ⟨h.1, s, h.self m, fun x hx => ?_⟩
  have key : ∀ x, Rch D R s x → Rch D ys s x := fun x k => by
    induction k with
    | base k => exact .base (h.self m)
    | step k a b ih => exact ih.step a ((h.2 _).mpr (k.step a b))
  exact key x ((h.2 x).mp hx)
theorem Pcs.part {D : List Pr} {R : List Int} {P : List (List Int)} (h : Pcs D R P) {ys : List Int} (m : ys ∈ P) : Part D ys := by
  obtain ⟨s, hs, hc⟩ := h.pc ys m
  exact hc.part hs
theorem Pcs.sub_of {D : List Pr} {R : List Int} {P : List (List Int)} (h : Pcs D R P) {ys : List Int} (m : ys ∈ P) : ∀ x ∈ ys, x ∈ R := fun x hx => by
  obtain ⟨s, hs, hc⟩ := h.pc ys m
  exact ((hc.2 x).mp hx).mem
theorem Pcs.ne {D : List Pr} {R : List Int} {P : List (List Int)} (h : Pcs D R P) {ys : List Int} (m : ys ∈ P) : ys ≠ [] := fun e => by
  obtain ⟨s, hs, hc⟩ := h.pc ys m
  have := hc.self hs
  rw [e] at this
  cases this
/-- a part lies in one piece -/
theorem Pcs.within {D : List Pr} {R : List Int} {P : List (List Int)} (h : Pcs D R P) {Q : List Int} (hQ : Part D Q) (sub : ∀ x ∈ Q, x ∈ R) {ys : List Int} (m : ys ∈ P) {x : Int} (hx : x ∈ Q) (hy : x ∈ ys) : ∀ z ∈ Q, z ∈ ys := fun z hz => by
  obtain ⟨_, s, hs, hr⟩ := hQ
  obtain ⟨t, ht, hc⟩ := h.pc ys m
  have r1 := (hr x hx).symm.trans (hr z hz)
  exact (hc.2 z).mpr (((hc.2 x).mp hy).trans (r1.mono sub))
theorem Pcs.apart {D : List Pr} {R : List Int} {P : List (List Int)} (h : Pcs D R P) {ys zs : List Int} (m : ys ∈ P) (k : zs ∈ P) {x : Int} (hy : x ∈ ys) (hz : x ∈ zs) : ys = zs := by
  obtain ⟨s, hs, hc⟩ := h.pc ys m
  obtain ⟨t, ht, hd⟩ := h.pc zs k
  exact (hc.of hy).uniq (hd.of hz)
theorem Pcs.len {D : List Pr} {R : List Int} {P : List (List Int)} (h : Pcs D R P) : P.length ≤ R.length := by
  have nd : (P.map hdI).Nodup := List.pairwise_map.mpr (List.Pairwise.imp (fun {a b} (q : hdI a < hdI b) => by omega) h.asc)
  have := int_sub_len2 nd fun x hx => by
    obtain ⟨ys, hy, rfl⟩ := List.mem_map.mp hx
    obtain ⟨s, hs, hc⟩ := h.pc ys hy
    exact ((hc.2 _).mp (hdI_mem (hc.self hs))).mem
  rw [List.length_map] at this
  exact this
/-- the keepers of a part with a word, the top room first -/
noncomputable def keepL (D : List Pr) (L : List Cl) : Nat → List Int → List Int
  | 0, _ => []
  | n + 1, P => match lastIn P L with
    | none => []
    | some c => c.1 :: (pcsF D (P.filter fun x => decide (x ≠ c.1))).flatMap fun Q => if wordP L Q = some c.2 then keepL D L n Q else []
theorem keepL_sub {D : List Pr} {L : List Cl} : ∀ (n : Nat) (P : List Int) (x : Int), x ∈ keepL D L n P → x ∈ P
  | 0, _, _, h => by cases h
  | n + 1, P, x, h => by
    unfold keepL at h
    split at h
    · cases h
    · rename_i c e
      rcases List.mem_cons.mp h with q | q
      · rw [q]
        exact (lastIn_in e)
      · obtain ⟨Q, hQ, hx⟩ := List.mem_flatMap.mp q
        split at hx
        · have := (pcsF_spec D _).sub_of hQ x (keepL_sub n Q x hx)
          exact (List.mem_filter.mp this).1
        · cases hx
/-- a keeper: each part within that holds the room has the word of the part -/
theorem keepL_iff {D : List Pr} {L : List Cl} : ∀ (n : Nat) (P : List Int) (w : Str), P.length ≤ n → Part D P → wordP L P = some w → ∀ x, x ∈ keepL D L n P ↔ x ∈ P ∧ ∀ Q, Part D Q → x ∈ Q → (∀ z ∈ Q, z ∈ P) → wordP L Q = some w
  | 0, P, w, hn, hp, _, x => by
    obtain ⟨_, s, hs, _⟩ := hp
    have : P = [] := List.length_eq_zero_iff.mp (Nat.le_zero.mp hn)
    rw [this] at hs
    cases hs
  | n + 1, P, w, hn, hp, hw, x => by
    obtain ⟨c, e, ec⟩ : ∃ c, lastIn P L = some c ∧ c.2 = w := by
      unfold wordP at hw
      cases e : lastIn P L with
      | none => rw [e] at hw; cases hw
      | some c => rw [e] at hw; exact ⟨c, rfl, Option.some.inj hw⟩
    subst ec
    have cP := lastIn_in e
    have hs := pcsF_spec D (P.filter fun x => decide (x ≠ c.1))
    have lt : ∀ Q ∈ pcsF D (P.filter fun x => decide (x ≠ c.1)), Q.length ≤ n := fun Q hQ => by
      have nd := up_nd (hs.part hQ).1
      have h1 := int_sub_len2 nd (hs.sub_of hQ)
      have h2 : (P.filter fun x => decide (x ≠ c.1)).length < P.length := filter_lt cP (by simp)
      omega
    have topIn : ∀ Q : List Int, c.1 ∈ Q → (∀ z ∈ Q, z ∈ P) → wordP L Q = some c.2 := fun Q hc sub => by
      unfold wordP
      rw [lastIn_sub L e hc sub]
      rfl
    unfold keepL
    rw [e]
    show x ∈ c.1 :: _ ↔ _
    rw [List.mem_cons]
    constructor
    · rintro (q | q)
      · rw [q]
        exact ⟨cP, fun Q _ hc sub => topIn Q hc sub⟩
      · obtain ⟨Q, hQ, hx⟩ := List.mem_flatMap.mp q
        split at hx
        · rename_i hwq
          obtain ⟨h1, h2⟩ := (keepL_iff n Q c.2 (lt Q hQ) (hs.part hQ) hwq x).mp hx
          refine ⟨(List.mem_filter.mp (hs.sub_of hQ x h1)).1, fun S hS xS sub => ?_⟩
          by_cases m : c.1 ∈ S
          · exact topIn S m sub
          · refine h2 S hS xS (hs.within hS (fun z hz => List.mem_filter.mpr ⟨sub z hz, decide_eq_true fun z' => m (by rw [← z']; exact hz)⟩) hQ xS h1)
        · cases hx
    · rintro ⟨h1, h2⟩
      by_cases q : x = c.1
      · exact .inl q
      · refine .inr ?_
        have xf : x ∈ P.filter fun x => decide (x ≠ c.1) := List.mem_filter.mpr ⟨h1, decide_eq_true q⟩
        obtain ⟨Q, hQ, xQ⟩ := hs.cov x xf
        have sub : ∀ z ∈ Q, z ∈ P := fun z hz => (List.mem_filter.mp (hs.sub_of hQ z hz)).1
        have hwq := h2 Q (hs.part hQ) xQ sub
        refine List.mem_flatMap.mpr ⟨Q, hQ, ?_⟩
        rw [if_pos hwq]
        exact (keepL_iff n Q c.2 (lt Q hQ) (hs.part hQ) hwq x).mpr ⟨xQ, fun S hS xS sb => h2 S hS xS fun z hz => sub z (sb z hz)⟩
/-- blocks -/
inductive Blk where
  | mk (w : Option Str) (t : List Int) (i : List Blk)
def Blk.w : Blk → Option Str
  | .mk w _ _ => w
def Blk.t : Blk → List Int
  | .mk _ t _ => t
def Blk.i : Blk → List Blk
  | .mk _ _ i => i
/-- the blocks of some rooms -/
noncomputable def blkF (D : List Pr) (L : List Cl) : Nat → List Int → List Blk
  | 0, _ => []
  | n + 1, R => (pcsF D R).map fun P => match wordP L P with
    | none => .mk none P []
    | some w => .mk (some w) (upF (keepL D L 12 P)) (blkF D L n (P.filter fun x => decide (x ∉ keepL D L 12 P)))
/-- two logs leave the same words in the parts of some rooms -/
def AlkP (D : List Pr) (R : List Int) (L M : List Cl) : Prop := ∀ Q, Part D Q → (∀ z ∈ Q, z ∈ R) → wordP L Q = wordP M Q
theorem keep_alk {D : List Pr} {L M : List Cl} {P : List Int} {w : Str} (hn : P.length ≤ 12) (hp : Part D P) (h : AlkP D P L M) (hw : wordP L P = some w) : ∀ x, x ∈ keepL D L 12 P ↔ x ∈ keepL D M 12 P := fun x => by
  have hm := (h P hp fun _ q => q).symm.trans hw
  rw [keepL_iff 12 P w hn hp hw x, keepL_iff 12 P w hn hp hm x]
  exact ⟨fun ⟨a, b⟩ => ⟨a, fun Q hQ xQ sub => (h Q hQ sub).symm.trans (b Q hQ xQ sub)⟩, fun ⟨a, b⟩ => ⟨a, fun Q hQ xQ sub => (h Q hQ sub).trans (b Q hQ xQ sub)⟩⟩
theorem blkF_alk {D : List Pr} {L M : List Cl} : ∀ (n : Nat) (R : List Int), R.length ≤ 12 → AlkP D R L M → blkF D L n R = blkF D M n R
  | 0, _, _, _ => rfl
  | n + 1, R, hR, h => by
    unfold blkF
    refine List.map_congr_left fun P hP => ?_
    have hs := pcsF_spec D R
    have sub := hs.sub_of hP
    have part := hs.part hP
    have pl : P.length ≤ 12 := Nat.le_trans (int_sub_len2 (up_nd part.1) sub) hR
    have hPa : AlkP D P L M := fun Q hQ sb => h Q hQ fun z hz => sub z (sb z hz)
    rw [← hPa P part fun _ q => q]
    cases e : wordP L P with
    | none => rfl
    | some w =>
      have km := keep_alk pl part hPa e
      have e1 : upF (keepL D L 12 P) = upF (keepL D M 12 P) := upF_eq (upF_up _) fun x => (upF_mem _ x).trans (km x).symm
      have e2 : (P.filter fun x => decide (x ∉ keepL D L 12 P)) = P.filter fun x => decide (x ∉ keepL D M 12 P) := List.filter_congr fun x _ => by
        rw [decide_eq_decide]
        exact not_congr (km x)
      show Blk.mk _ _ _ = Blk.mk _ _ _
      rw [e1, e2]
      rw [blkF_alk n _ (Nat.le_trans (List.length_filter_le _ _) pl) fun Q hQ sb => hPa Q hQ fun z hz => (List.mem_filter.mp (sb z hz)).1]

/-! ### the plain log of a form -/
theorem wordP_app (A B : List Cl) (Q : List Int) : wordP (A ++ B) Q = (wordP B Q).or (wordP A Q) := by
  refine snoc_ind (M := fun B => wordP (A ++ B) Q = (wordP B Q).or (wordP A Q)) ?_ (fun S c ih => ?_) B
  · rw [List.append_nil]
    rfl
  · rw [← List.append_assoc, wordP_snoc, wordP_snoc, ih]
    split <;> rfl
theorem lastIn_cons (R : List Int) (c : Cl) (S : List Cl) : lastIn R (c :: S) = match lastIn R S with
    | some d => some d
    | none => if c.1 ∈ R then some c else none := by
  unfold lastIn
  rw [List.reverse_cons, List.find?_append]
  cases e : S.reverse.find? (fun c => decide (c.1 ∈ R)) with
  | some d => rfl
  | none =>
    show List.find? (fun c : Cl => decide (c.1 ∈ R)) [c] = if c.1 ∈ R then some c else none
    by_cases h : c.1 ∈ R
    · rw [List.find?_cons_of_pos (by simp [h]), if_pos h]
    · rw [List.find?_cons_of_neg (by simp [h]), if_neg h]
      rfl
theorem lastIn_lastF (R : List Int) : ∀ S : List Cl, lastIn R (lastF S) = lastIn R S
  | [] => rfl
  | c :: S => by
    have ih := lastIn_lastF R S
    show lastIn R (if c.1 ∈ S.map (·.1) then lastF S else c :: lastF S) = _
    by_cases h : c.1 ∈ S.map (·.1)
    · rw [if_pos h, ih, lastIn_cons]
      cases e : lastIn R S with
      | some d => rfl
      | none =>
        obtain ⟨d, hd, ed⟩ := List.mem_map.mp h
        have n := lastIn_none.mp e d hd
        rw [ed] at n
        simp only [if_neg n]
    · rw [if_neg h, lastIn_cons, lastIn_cons, ih]
theorem wordP_last (L : List Cl) (ps : List Int) : wordP (lastF L) ps = wordP L ps := by
  unfold wordP
  rw [lastIn_lastF]
theorem wordP_out {A : List Cl} {Q : List Int} (h : ∀ c ∈ A, c.1 ∉ Q) : wordP A Q = none := by
  unfold wordP
  rw [lastIn_none.mpr h]
  rfl
theorem wordP_none {A : List Cl} {Q : List Int} (h : wordP A Q = none) : ∀ c ∈ A, c.1 ∉ Q := by
  unfold wordP at h
  cases e : lastIn Q A with
  | none => exact lastIn_none.mp e
  | some c => rw [e] at h; cases h
theorem wordP_sub {A : List Cl} {Q R : List Int} (h : wordP A R = none) (sub : ∀ z ∈ Q, z ∈ R) : wordP A Q = none := wordP_out fun c hc z => wordP_none h c hc (sub _ z)
theorem wordP_flat {α : Type} {g : α → List Cl} {Q : List Int} : ∀ {l : List α} {a : α}, a ∈ l → (∀ b ∈ l, b ≠ a → ∀ c ∈ g b, c.1 ∉ Q) → wordP (l.flatMap g) Q = wordP (g a) Q
  | b :: l, a, m, h => by
    rw [List.flatMap_cons, wordP_app]
    by_cases ml : a ∈ l
    · rw [wordP_flat ml fun b hb => h b (List.mem_cons_of_mem _ hb)]
      by_cases e : b = a
      · rw [e]
        cases wordP (g a) Q <;> rfl
      · rw [wordP_out (h b List.mem_cons_self e)]
        cases wordP (g a) Q <;> rfl
    · rcases List.mem_cons.mp m with e | m
      · subst e
        rw [wordP_out (A := l.flatMap g) fun c hc => ?_]
        · rfl
        · obtain ⟨d, hd, hc⟩ := List.mem_flatMap.mp hc
          exact h d (List.mem_cons_of_mem _ hd) (fun z => ml (by rw [← z]; exact hd)) c hc
      · exact absurd m ml
theorem wordP_const {T : List Int} {w : Str} {Q : List Int} {x : Int} (hx : x ∈ T) (hq : x ∈ Q) : wordP (T.map fun x => (x, w)) Q = some w := by
  cases e : wordP (T.map fun x => (x, w)) Q with
  | none => exact absurd hq (wordP_none e (x, w) (List.mem_map.mpr ⟨x, hx, rfl⟩))
  | some v =>
    unfold wordP at e
    cases e2 : lastIn Q (T.map fun x => (x, w)) with
    | none => rw [e2] at e; cases e
    | some c =>
      rw [e2] at e
      have hm := List.mem_reverse.mp (List.mem_of_find?_eq_some e2)
      obtain ⟨y, _, ey⟩ := List.mem_map.mp hm
      subst ey
      exact e.symm
def plainF : Nat → List Blk → List Cl
  | 0, _ => []
  | n + 1, bs => bs.flatMap fun b => match b.w with
    | none => []
    | some w => plainF n b.i ++ b.t.map fun x => (x, w)
/-- the block of a piece -/
noncomputable def blkP (D : List Pr) (L : List Cl) (n : Nat) (P : List Int) : Blk := match wordP L P with
  | none => .mk none P []
  | some w => .mk (some w) (upF (keepL D L 12 P)) (blkF D L n (P.filter fun x => decide (x ∉ keepL D L 12 P)))
theorem blkF_succ (D : List Pr) (L : List Cl) (n : Nat) (R : List Int) : blkF D L (n + 1) R = (pcsF D R).map (blkP D L n) := rfl
def plainB (n : Nat) (b : Blk) : List Cl := match b.w with
  | none => []
  | some w => plainF n b.i ++ b.t.map fun x => (x, w)
theorem plainF_succ (n : Nat) (bs : List Blk) : plainF (n + 1) bs = bs.flatMap (plainB n) := rfl
theorem keepL_ne {D : List Pr} {L : List Cl} {n : Nat} {P : List Int} {w : Str} (h : wordP L P = some w) : ∃ x ∈ P, x ∈ keepL D L (n + 1) P := by
  unfold wordP at h
  unfold keepL
  cases e : lastIn P L with
  | none => rw [e] at h; cases h
  | some c => exact ⟨c.1, lastIn_in e, List.mem_cons_self⟩
theorem plain_in {D : List Pr} {L : List Cl} : ∀ (n m : Nat) (R : List Int), ∀ c ∈ plainF n (blkF D L m R), c.1 ∈ R
  | 0, _, _, _, h => by cases h
  | n + 1, 0, R, c, h => by cases h
  | n + 1, m + 1, R, c, h => by
    rw [plainF_succ, blkF_succ] at h
    obtain ⟨b, hb, hc⟩ := List.mem_flatMap.mp h
    obtain ⟨P, hP, rfl⟩ := List.mem_map.mp hb
    refine (pcsF_spec D R).sub_of hP _ ?_
    unfold plainB blkP at hc
    cases e : wordP L P with
    | none =>
      rw [e] at hc
      cases hc
    | some w =>
      rw [e] at hc
      rcases List.mem_append.mp hc with q | q
      · exact (List.mem_filter.mp (plain_in n m _ c q)).1
      · obtain ⟨x, hx, rfl⟩ := List.mem_map.mp q
        exact keepL_sub _ _ _ ((upF_mem _ _).mp hx)
theorem plain_alk {D : List Pr} {L : List Cl} : ∀ (n m k : Nat) (R : List Int), R.length ≤ n → n ≤ m → n ≤ k → R.length ≤ 12 → AlkP D R (plainF m (blkF D L k R)) L
  | 0, _, _, R, hR, _, _, _, Q, hQ, sub => by
    obtain ⟨_, s, hs, _⟩ := hQ
    have := sub s hs
    rw [List.length_eq_zero_iff.mp (Nat.le_zero.mp hR)] at this
    cases this
  | n + 1, 0, _, _, _, h, _, _, _, _, _ => by cases h
  | n + 1, _ + 1, 0, _, _, _, h, _, _, _, _ => by cases h
  | n + 1, m + 1, k + 1, R, hR, hm, hk, h12, Q, hQ, sub => by
    have hs := pcsF_spec D R
    obtain ⟨_, s, sQ, hr⟩ := id hQ
    obtain ⟨P, hP, sP⟩ := hs.cov s (sub s sQ)
    have QP := hs.within hQ sub hP sQ sP
    have partP := hs.part hP
    have pl : P.length ≤ R.length := int_sub_len2 (up_nd partP.1) (hs.sub_of hP)
    have inP : ∀ P' : List Int, ∀ c ∈ plainB m (blkP D L k P'), c.1 ∈ P' := fun P' c hc => by
      unfold plainB blkP at hc
      cases e : wordP L P' with
      | none =>
        rw [e] at hc
        cases hc
      | some w =>
        rw [e] at hc
        rcases List.mem_append.mp hc with q | q
        · exact (List.mem_filter.mp (plain_in m k _ c q)).1
        · obtain ⟨x, hx, rfl⟩ := List.mem_map.mp q
          exact keepL_sub _ _ _ ((upF_mem _ _).mp hx)
    rw [plainF_succ, blkF_succ, List.flatMap_map, wordP_flat hP fun P' hP' ne c hc z => ne (hs.apart hP' hP (inP P' c hc) (QP _ z))]
    unfold plainB blkP
    cases e : wordP L P with
    | none => exact (wordP_sub e QP).symm
    | some w =>
      show wordP (plainF m (blkF D L k (P.filter fun x => decide (x ∉ keepL D L 12 P))) ++ (upF (keepL D L 12 P)).map fun x => (x, w)) Q = _
      rw [wordP_app]
      have ki := keepL_iff 12 P w (Nat.le_trans pl h12) partP e
      by_cases hx : ∃ x ∈ Q, x ∈ keepL D L 12 P
      · obtain ⟨x, xQ, xk⟩ := hx
        rw [wordP_const ((upF_mem _ _).mpr xk) xQ, ((ki x).mp xk).2 Q hQ xQ QP]
        rfl
      · have no : ∀ x ∈ Q, x ∉ keepL D L 12 P := fun x xQ xk => hx ⟨x, xQ, xk⟩
        rw [wordP_out (A := (upF (keepL D L 12 P)).map fun x => (x, w)) fun c hc z => by
          obtain ⟨y, hy, rfl⟩ := List.mem_map.mp hc
          exact no y z ((upF_mem _ _).mp hy)]
        obtain ⟨x, xP, xk⟩ := keepL_ne (D := D) (n := 11) e
        have lt : (P.filter fun x => decide (x ∉ keepL D L 12 P)).length < P.length := filter_lt xP (by simpa using xk)
        exact plain_alk n m k _ (by omega) (Nat.le_of_succ_le_succ hm) (Nat.le_of_succ_le_succ hk) (by omega) Q hQ fun z hz => List.mem_filter.mpr ⟨QP z hz, decide_eq_true (no z hz)⟩
theorem alk_app {D : List Pr} {R : List Int} {A B A' B' : List Cl} (h : AlkP D R A A') (k : AlkP D R B B') : AlkP D R (A ++ B) (A' ++ B') := fun Q hQ sub => by
  rw [wordP_app, wordP_app, h Q hQ sub, k Q hQ sub]
theorem alk_refl (D : List Pr) (R : List Int) (A : List Cl) : AlkP D R A A := fun _ _ _ => rfl
/-- the form of a house -/
noncomputable def formF (D : List Pr) (r : Nat) (L : List Cl) : List Blk := blkF D L 12 (rg r)
theorem form_alk {D : List Pr} {r : Nat} {L M : List Cl} (hr : r ≤ 12) (h : AlkP D (rg r) L M) : formF D r L = formF D r M := blkF_alk 12 _ (by rw [rg_len]; exact hr) h
theorem form_plain {D : List Pr} {r : Nat} {L : List Cl} (hr : r ≤ 12) : AlkP D (rg r) (plainF 12 (formF D r L)) L := plain_alk 12 12 12 _ (by rw [rg_len]; exact hr) (Nat.le_refl _) (Nat.le_refl _) (by rw [rg_len]; exact hr)
/-! ### forms in the heap -/
structure BlkV (H : Hp) (B : List V → List Blk → Prop) (v : V) (b : Blk) : Prop where
  ex : ∃ a t i xs, v = V.ref a ∧ H a = some (.tup [optS b.w, .ref t, .ref i]) ∧ H t = some (.tup (b.t.map V.int)) ∧ b.t.length ≤ 1000 ∧ H i = some (.tup xs) ∧ B xs b.i
def BlksAt (H : Hp) : Nat → List V → List Blk → Prop
  | 0, xs, bs => xs = [] ∧ bs = []
  | n + 1, xs, bs => xs.length ≤ 1000 ∧ Paired (BlkV H (BlksAt H n)) xs bs
theorem BlksAt.kt {H H' : Hp} (k : KT H H') : ∀ {n : Nat} {xs : List V} {bs : List Blk}, BlksAt H n xs bs → BlksAt H' n xs bs
  | 0, _, _, h => h
  | n + 1, xs, bs, h => ⟨h.1, Paired.mapP h.2 fun v b q => by
    obtain ⟨a, t, i, ys, e, h1, h2, h3, h4, h5⟩ := q.ex
    exact ⟨a, t, i, ys, e, k _ _ h1, k _ _ h2, h3, k _ _ h4, BlksAt.kt k h5⟩⟩
theorem BlksAt.len {H : Hp} : ∀ {n : Nat} {xs : List V} {bs : List Blk}, BlksAt H n xs bs → xs.length = bs.length
  | 0, _, _, h => by rw [h.1, h.2]; rfl
  | _ + 1, _, _, h => Paired.length h.2
/-- a form at a tuple -/
def FormAt (H : Hp) (n : Nat) (v : V) (bs : List Blk) : Prop := ∃ a xs, v = V.ref a ∧ H a = some (.tup xs) ∧ BlksAt H n xs bs
theorem FormAt.kt {H H' : Hp} {n : Nat} {v : V} {bs : List Blk} (h : FormAt H n v bs) (k : KT H H') : FormAt H' n v bs := by
  obtain ⟨a, xs, e, h1, h2⟩ := h
  exact ⟨a, xs, e, k _ _ h1, h2.kt k⟩
theorem blks_nil {H : Hp} {n : Nat} {a : Addr} (h : H a = some (.tup [])) : FormAt H n (.ref a) [] := by
  refine ⟨a, [], rfl, h, ?_⟩
  cases n with
  | zero => exact ⟨rfl, rfl⟩
  | succ n => exact ⟨Nat.zero_le _, Paired.nil⟩
theorem flat_optS (o : Option Str) : flat4 (optS o) = true := by cases o <;> rfl
theorem sm_ints {H : Hp} {n : Nat} {t u : Addr} {T : List Int} (h : H t = some (.tup (T.map V.int))) (k : H u = some (.tup (T.map V.int))) (l : T.length ≤ 1000) : Sm H (n + 1) (.ref t) (.ref u) := by
  refine .inr ⟨t, u, _, _, rfl, rfl, .inr ⟨h, k⟩, ?_, by rw [List.length_map]; omega⟩
  have : ∀ T : List Int, Paired (Sm H n) (T.map V.int) (T.map V.int) := fun T => by
    induction T with
    | nil => exact .nil
    | cons x T ih => exact .cons (Sm.flat rfl) ih
  exact this T
theorem sm_blks {H : Hp} : ∀ {n : Nat} {xs ys : List V} {bs : List Blk}, BlksAt H n xs bs → BlksAt H n ys bs → Paired (Sm H (2 * n)) xs ys
  | 0, _, _, _, h, k => by
    rw [h.1, k.1]
    exact .nil
  | n + 1, xs, ys, bs, h, k => by
    have go : ∀ {xs ys : List V} {bs : List Blk}, Paired (BlkV H (BlksAt H n)) xs bs → Paired (BlkV H (BlksAt H n)) ys bs → Paired (Sm H (2 * (n + 1))) xs ys := fun {xs ys bs} h k => by
      induction h generalizing ys with
      | nil =>
        cases k
        exact .nil
      | cons r _ ih =>
        cases k with
        | cons q t =>
          refine .cons ?_ (ih t)
          obtain ⟨a, t1, i, us, rfl, a1, a2, a3, a4, a5⟩ := r.ex
          obtain ⟨b, t2, j, vs, rfl, b1, b2, b3, b4, b5⟩ := q.ex
          refine .inr ⟨a, b, _, _, rfl, rfl, .inr ⟨a1, b1⟩, .cons (Sm.flat (flat_optS _)) (.cons (sm_ints a2 b2 a3) (.cons ?_ .nil)), by show 3 ≤ 100000; decide⟩
          refine .inr ⟨i, j, _, _, rfl, rfl, .inr ⟨a4, b4⟩, sm_blks a5 b5, ?_⟩
          cases n with
          | zero =>
            rw [a5.1]
            decide
          | succ n => exact Nat.le_trans a5.1 (by decide)
    exact go h.2 k.2
theorem sm_form {H : Hp} {v u : V} {bs : List Blk} (h : FormAt H 12 v bs) (k : FormAt H 12 u bs) : Sm H 25 v u := by
  obtain ⟨a, xs, rfl, h1, h2⟩ := h
  obtain ⟨b, ys, rfl, k1, k2⟩ := k
  exact .inr ⟨a, b, _, _, rfl, rfl, .inr ⟨h1, k1⟩, sm_blks h2 k2, Nat.le_trans h2.1 (by decide)⟩

/-! ### comprehensions with one name, over a tuple; over ints, kept by a test -/
theorem lcW {wi : TI} {g : TG} {tt : TT} {te : TE} {vs : List Nat} {σ : L2.St} {H : Hp} {Q : VK} (h : wi σ H fun J H1 => tLc (fun _ H R => R J H) g tt te vs σ H1 Q) : tLc wi g tt te vs σ H Q := h
theorem gc_tup {β : Type} {K : PySem.W.Frag} {a : Addr} {xs : List V} {i : Nat} {tt : TT} {te : TE} {σ : L2.St} {H1 : Hp} {Q : VK} (rel : Hp → V → β → Prop) (up : ∀ H H' v b, rel H v b → KT H H' → rel H' v b) (sel : Nat → Option β) (ha : H1 a = some (.tup xs)) (len : xs.length ≤ 100000)
    (step : ∀ (j : Nat) (x : V) (Hx : Hp) (A : VK) (B : Hp → Prop), xs[j]? = some x → Same H1 Hx → (∀ v b Hy, sel j = some b → Same Hx Hy → rel Hy v b → A v Hy) → (∀ Hy, sel j = none → Same Hx Hy → B Hy) → tt (σ.set i (some x)) Hx fun c H3 => if c = true then te (σ.set i (some x)) H3 A else B H3)
    (q : ∀ o ys H', Same H1 H' → H1 o = none → H' o = some (.lst ys) → Paired (rel H') ys ((List.range xs.length).filterMap sel) → Q (.ref o) H') :
    tLc (fun _ H R => R (Itt K a) H) (gName i) tt te [i] σ H1 Q := by
  intro D nD
  obtain ⟨Pv, hPv⟩ : ∃ Pv : Nat → Hp → Prop, Pv = (fun j Hx => ∃ ys, Same H1 Hx ∧ Hx D = some (.lst ys) ∧ Paired (rel Hx) ys ((List.range j).filterMap sel)) := ⟨_, rfl⟩
  refine lc_tup (K := K) (a := a) (xs := xs) Pv (by rw [hPv]; exact ⟨[], same_upd nD, upd_same, Paired.nil⟩) (fun j H' _ pv => by rw [hPv] at pv; obtain ⟨_, sm, _⟩ := pv; exact SqT.of (sm _ _ ha)) (fun j x H' gx pv => ?_) (fun H' pv => ?_)
  · rw [hPv] at pv
    obtain ⟨ys, sm, hD, pr⟩ := pv
    have jl := (List.getElem?_eq_some_iff.mp gx).1
    have yl : ys.length ≤ j := by rw [pr.length]; exact fm_len sel j
    have ew : (wipe σ [i]).set i (some x) = σ.set i (some x) := by show (σ.set i none).set i (some x) = _; rw [List.set_set]
    show wipe ((wipe σ [i]).set i (some x)) [i] = wipe σ [i] ∧ tt ((wipe σ [i]).set i (some x)) H' fun c H3 => if c = true then te ((wipe σ [i]).set i (some x)) H3 _ else _
    rw [ew]
    refine ⟨by show (σ.set i (some x)).set i none = σ.set i none; rw [List.set_set], ?_⟩
    refine step j x H' _ _ gx sm (fun v b Hy es sy r => ?_) (fun Hy es sy => ?_)
    · have hD2 := sy _ _ hD
      refine ⟨ys, hD2, len_big (by omega), ?_⟩
      rw [hPv]
      refine ⟨ys ++ [v], same_ch (sm.trans sy) nD, upd_same, ?_⟩
      rw [fm_step, es]
      have kt : KT Hy (upd Hy D (HO.lst (ys ++ [v]))) := KT.lst hD2
      exact Paired.snoc (Paired.mapP pr fun v b h => up _ _ _ _ (up _ _ _ _ h (KT.same sy)) kt) (up _ _ _ _ r kt)
    · rw [hPv]
      refine ⟨ys, sm.trans sy, sy _ _ hD, ?_⟩
      rw [fm_step, es, List.append_nil]
      exact Paired.mapP pr fun v b h => up _ _ _ _ h (KT.same sy)
  · rw [hPv] at pv
    obtain ⟨ys, sm, hD, pr⟩ := pv
    exact q D ys H' sm nD hD pr
theorem fm_if {α : Type} (p : α → Bool) : ∀ l : List α, l.filterMap (fun x => if p x = true then some x else none) = l.filter p
  | [] => rfl
  | a :: l => by
    rw [List.filterMap_cons, fm_if p l]
    by_cases c : p a = true
    · rw [if_pos c, List.filter_cons_of_pos c]
    · rw [if_neg c, List.filter_cons_of_neg c]
theorem lc_filtL {K : PySem.W.Frag} {a : Addr} {xs : List Int} {i : Nat} {tt : TT} {p : Int → Bool} {σ : L2.St} {H1 : Hp} {Q : VK} (ha : H1 a = some (.lst (xs.map V.int))) (len : xs.length ≤ 100000) (hi : i < σ.length)
    (step : ∀ (x : Int) (Hx : Hp) (B : Bool → Hp → Prop), x ∈ xs → Same H1 Hx → B (p x) Hx → tt (σ.set i (some (.int x))) Hx B)
    (q : ∀ o H', Same H1 H' → H1 o = none → H' o = some (.lst ((xs.filter p).map V.int)) → Q (.ref o) H') :
    tLc (fun _ H R => R (Itl K a) H) (gName i) tt (tVar i) [i] σ H1 Q := by
  refine gc_list IsI (fun _ _ _ _ h _ => h) (fun j => xs[j]?.bind fun x => if p x = true then some x else none) ha (by rw [List.length_map]; exact len) (fun j x Hx A B gx sx hA hB => ?_) (fun o ys H' s no ho pr => ?_)
  · rw [List.getElem?_map] at gx
    cases e : xs[j]? with
    | none => rw [e] at gx; cases gx
    | some y =>
      rw [e] at gx hA hB
      have ex := Option.some.inj gx
      subst ex
      refine step y Hx _ (List.mem_of_getElem? e) sx ?_
      by_cases c : p y = true
      · rw [if_pos c]
        exact ⟨_, by rw [List.getElem?_set_self hi], hA _ y Hx (if_pos c) (Same.refl _) rfl⟩
      · rw [if_neg c]
        exact hB Hx (if_neg c) (Same.refl _)
  · refine q o H' s no ?_
    have e := isI_map pr
    rw [List.length_map, fm_range (L := xs) (fun x => if p x = true then some x else none), fm_if] at e
    rw [e] at ho
    exact ho
theorem lc_filtT {K : PySem.W.Frag} {a : Addr} {xs : List Int} {i : Nat} {tt : TT} {p : Int → Bool} {σ : L2.St} {H1 : Hp} {Q : VK} (ha : H1 a = some (.tup (xs.map V.int))) (len : xs.length ≤ 100000) (hi : i < σ.length)
    (step : ∀ (x : Int) (Hx : Hp) (B : Bool → Hp → Prop), x ∈ xs → Same H1 Hx → B (p x) Hx → tt (σ.set i (some (.int x))) Hx B)
    (q : ∀ o H', Same H1 H' → H1 o = none → H' o = some (.lst ((xs.filter p).map V.int)) → Q (.ref o) H') :
    tLc (fun _ H R => R (Itt K a) H) (gName i) tt (tVar i) [i] σ H1 Q := by
  refine gc_tup IsI (fun _ _ _ _ h _ => h) (fun j => xs[j]?.bind fun x => if p x = true then some x else none) ha (by rw [List.length_map]; exact len) (fun j x Hx A B gx sx hA hB => ?_) (fun o ys H' s no ho pr => ?_)
  · rw [List.getElem?_map] at gx
    cases e : xs[j]? with
    | none => rw [e] at gx; cases gx
    | some y =>
      rw [e] at gx hA hB
      have ex := Option.some.inj gx
      subst ex
      refine step y Hx _ (List.mem_of_getElem? e) sx ?_
      by_cases c : p y = true
      · rw [if_pos c]
        exact ⟨_, by rw [List.getElem?_set_self hi], hA _ y Hx (if_pos c) (Same.refl _) rfl⟩
      · rw [if_neg c]
        exact hB Hx (if_neg c) (Same.refl _)
  · refine q o H' s no ?_
    have e := isI_map pr
    rw [List.length_map, fm_range (L := xs) (fun x => if p x = true then some x else none), fm_if] at e
    rw [e] at ho
    exact ho

/-! ### called_keepers -/
abbrev sCke : Stmt := topS 22
theorem optR_some {o : Option Cl} {c : Cl} (h : o = some c) : optR o = .int c.1 := by rw [h]; rfl
theorem optW_S (L : List Cl) (R : List Int) : optW (lastIn R L) = optS (wordP L R) := by
  unfold wordP
  cases lastIn R L <;> rfl
theorem decS (o o' : Option Str) : decide (optS o = optS o') = decide (o = o') := by
  rw [decide_eq_decide]
  exact ⟨optS_inj, fun h => by rw [h]⟩
theorem flat_nd {D : List Pr} {R : List Int} {Ps : List (List Int)} {g : List Int → List Int} (hs : Pcs D R Ps) (nd : ∀ Q, (g Q).Nodup) (inQ : ∀ Q, ∀ x ∈ g Q, x ∈ Q) : (Ps.flatMap g).Nodup := by
  refine List.pairwise_flatMap.mpr ⟨fun Q _ => nd Q, List.Pairwise.imp_of_mem (fun {a b} ma mb h x hx y hy e => ?_) hs.asc⟩
  subst e
  have := hs.apart ma mb (inQ a _ hx) (inQ b _ hy)
  rw [this] at h
  omega
theorem keepL_nd {D : List Pr} {L : List Cl} : ∀ (n : Nat) (P : List Int), (keepL D L n P).Nodup
  | 0, _ => List.nodup_nil
  | n + 1, P => by
    unfold keepL
    cases e : lastIn P L with
    | none => exact List.nodup_nil
    | some c =>
      have hs := pcsF_spec D (P.filter fun x => decide (x ≠ c.1))
      have inQ : ∀ Q : List Int, ∀ x ∈ (if wordP L Q = some c.2 then keepL D L n Q else []), x ∈ Q := fun Q x hx => by
        split at hx
        · exact keepL_sub n Q x hx
        · cases hx
      refine List.nodup_cons.mpr ⟨fun m => ?_, flat_nd hs (fun Q => ?_) inQ⟩
      · obtain ⟨Q, hQ, hx⟩ := List.mem_flatMap.mp m
        have := (List.mem_filter.mp (hs.sub_of hQ _ (inQ Q _ hx))).2
        exact of_decide_eq_true this rfl
      · split
        · exact keepL_nd n Q
        · exact List.Pairwise.nil
theorem keepL_len {D : List Pr} {L : List Cl} : ∀ (n : Nat) (P : List Int), (keepL D L n P).length ≤ P.length := fun n P => int_sub_len2 (keepL_nd n P) (keepL_sub n P)
section
variable {P : Program} {w : World} {K : PySem.W.Frag} {mg : Str → Option Value} {base : Heap}
theorem scCke : FnScope ["house", "calls", "part", "top", "found", "piece", "room"] ["house", "calls", "part"] (defScope sCke) := ⟨rfl, rfl, rfl, by decide +kernel, rfl, by decide +kernel, by decide +kernel⟩
def spCke (C : Addr) (n : Nat) : Sp := fun vs H Q _ => ∃ (p g o : Addr) (gs : List V) (L : List Cl) (R : List Int) (r : Nat) (D : List Pr) (own : List Addr), vs = [.ref p, .ref g, .ref o] ∧ HouseAt C H p r D own ∧ H g = some (.lst gs) ∧ LG H gs L ∧ H o = some (.tup (R.map V.int)) ∧ R.length ≤ n ∧ n ≤ 12 ∧ Up R ∧ (∀ x ∈ R, 0 ≤ x ∧ x < r) ∧ (∃ w, wordP L R = some w) ∧
  ∀ (t : Addr) (H' : Hp), Same H H' → H t = none → H' t = some (.lst ((keepL D L n R).map V.int)) → Q (.ref t) H'
theorem ok_cke {f C fP fT fW : Addr} {fd fdP fdT fdW : FuncData} (F : Fun K "called_keepers" "called_keepers" sCke f fd) (T : Bi mg) (bd : Binds K fd ["house", "calls", "part"] []) (hmg : mg "called_keepers" = some (.ref f)) (d_pieces : Df P w K mg base "pieces" ["house", "rooms"] 4 (spPcs K C) fP fdP) (d_top_room : Df P w K mg base "top_room" ["log", "rooms"] 2 (spTopR K optR) fT fdT) (d_word_of : Df P w K mg base "word_of" ["log", "rooms"] 2 (spTopR K optW) fW fdW) : ∀ n, FnOk P w K mg base CX0 (n + 5) f fd ["house", "calls", "part"] (spCke C n) := by
  intro n
  induction n with
  | zero =>
    refine F.ok scCke (fun vs H Q E h => ?_) (fun cdv A0 outer s H vs Q E hr h => ?_)
    · obtain ⟨p, g, o, gs, L, R, r, D, own, rfl, _⟩ := h
      rfl
    · obtain ⟨p, g, o, gs, L, R, r, D, own, rfl, hh, hg, lg, ho, rn, n12, up, hR, ⟨w0, hw⟩, ret⟩ := h
      exfalso
      rw [List.length_eq_zero_iff.mp (Nat.le_zero.mp rn)] at hw
      rw [wordP_out fun c _ z => by cases z] at hw
      cases hw
  | succ n ih =>
    refine F.ok scCke (fun vs H Q E h => ?_) (fun cdv A0 outer s H vs Q E hr h => ?_)
    · obtain ⟨p, g, o, gs, L, R, r, D, own, rfl, _⟩ := h
      rfl
    · obtain ⟨p, g, o, gs, L, R, r, D, own, rfl, hh, hg, lg, ho, rn, n12, up, hR, ⟨w0, hw⟩, ret⟩ := h
      refine ⟨_, (pss_cons (ps_set (i := 3) scCke.nd rfl (Or.inr rfl) (pe_call d_top_room.ok (hr.mono (by omega)) (by rfl) d_top_room.at_ d_top_room.kp d_top_room.b .nil pass0 (pa_cons (pv 1) (pa_cons (pv 2) pa_nil))))
      (pss_cons (ps_set (i := 4) scCke.nd rfl (Or.inl rfl) (pe_lst (pa_cons (pv 3) pa_nil)))
      (pss_cons (ps_for PassesOwn.never rfl (pi_list (pe_call d_pieces.ok (hr.mono (by omega)) (by rfl) d_pieces.at_ d_pieces.kp d_pieces.b .nil pass0 (pa_cons (pv 0) (pa_cons (pe_lc (own := [("room", 6)]) (te := (tVar 6)) (tt := (tTest (tOp (rI0 fun i j => V.bl (!decide (i = j))) (tVar 6) (tVar 3)))) (by rfl) scCke.nd (pi_tup (pv 2)) (blkOk_by (N := ["house", "calls", "part", "top", "found", "piece", "room"]) (sc := defScope sCke) (by decide +kernel)) (fun _ _ _ _ _ => pg_name (i := 6) scCke.nd rfl (Or.inl rfl)) (fun _ _ _ _ _ => (pts_one (pt_cmpR op_neI (pv 6) (pv 3) (nomark _)))) (fun _ _ _ _ _ => (pv 6))) pa_nil)))) (pg_name (i := 5) scCke.nd rfl (Or.inl rfl))
      (pss_one (ps_if (pt_cmpR op_eq (pe_call d_word_of.ok (hr.mono (by omega)) (by rfl) d_word_of.at_ d_word_of.kp d_word_of.b .nil pass0 (pa_cons (pv 1) (pa_cons (pv 5) pa_nil))) (pe_call d_word_of.ok (hr.mono (by omega)) (by rfl) d_word_of.at_ d_word_of.kp d_word_of.b .nil pass0 (pa_cons (pv 1) (pa_cons (pv 2) pa_nil))) (nomark _))
        (pss_one (ps_expr (pe_bm PySem.F.plainAttrs_list PySem.F.slot_list_extend PySem.F.type_list_extend mt_extend (pv 4) (pa_cons (pe_call ih hr (by rfl) hmg F.kp bd .nil pass0 (pa_cons (pv 0) (pa_cons (pv 1) (pa_cons (pv 5) pa_nil)))) pa_nil))))
        pss_nil)))
      (pss_one (ps_ret (pv 4)))))), ?_⟩
      walk_at "rd"
      obtain ⟨c, ec, ew⟩ : ∃ c, lastIn R L = some c ∧ c.2 = w0 := by
        unfold wordP at hw
        cases e : lastIn R L with
        | none => rw [e] at hw; cases hw
        | some c => rw [e] at hw; exact ⟨c, rfl, Option.some.inj hw⟩
      subst ew
      have cR := lastIn_in ec
      have r12 := hh.r12
      refine ⟨g, o, gs, L, R, rfl, hg, lg, .inr (SqT.of ho), ?_⟩
      rw [optR_some ec]
      refine ⟨by decide, fun fn nfn => ?_⟩
      have s1 := same_upd (o := HO.lst [V.int c.1]) nfn
      have hfn := upd_same (H := H) (a := fn) (o := HO.lst [V.int c.1])
      generalize upd H fn (HO.lst [V.int c.1]) = H1 at s1 hfn ⊢
      refine for_iterW ?_
      walk_at "rd"
      refine lcW ?_
      unfold iTup
      walk_at "rd"
      refine ⟨⟨_, SqT.of (s1 _ _ ho)⟩, lc_filtT (p := fun x => decide (x ≠ c.1)) (s1 _ _ ho) (by omega) (by simp) (fun x Hx B xm sx hB => ?_) fun oo H2 s2 noo hoo => ?_⟩
      · walk_at "rd"
        have e : (!decide (x = c.1)) = decide (x ≠ c.1) := by by_cases z : x = c.1 <;> simp [z]
        rw [e]
        exact hB
      have s12 := s1.trans s2
      have fl : (R.filter fun x => decide (x ≠ c.1)).length ≤ R.length := List.length_filter_le _ _
      refine ⟨p, oo, _, r, D, own, rfl, hh.same s12, .inl (SqL.of hoo), by omega, fun x hx => hR x (List.mem_filter.mp hx).1, fun Ps us t H3 pcs s3 nt ht rl => ?_⟩
      have eP := pcsF_eq pcs
      have s13 := s12.trans s3
      obtain ⟨gF, hgF⟩ : ∃ gF : List Int → List Int, gF = fun Q => if wordP L Q = some c.2 then keepL D L n Q else [] := ⟨_, rfl⟩
      have eK : keepL D L (n + 1) R = c.1 :: Ps.flatMap gF := by
        rw [hgF, ← eP]
        show (match lastIn R L with | none => [] | some c => _) = _
        rw [ec]
      have inG : ∀ i, ((Ps.take i).flatMap gF).length ≤ 12 := fun i => by
        have h1 := keepL_len (D := D) (L := L) (n + 1) R
        rw [eK, List.length_cons] at h1
        have h2 : ((Ps.take i).flatMap gF).length ≤ (Ps.flatMap gF).length := by
          conv => rhs; rw [← List.take_append_drop i Ps]
          rw [List.flatMap_append, List.length_append]
          omega
        omega
      obtain ⟨Pv, hPv⟩ : ∃ Pv : Nat → L2.St → Hp → Prop, Pv = (fun i σ Hx => ∃ v5 : Option V, σ = [some (.ref p), some (.ref g), some (.ref o), some (.int c.1), some (.ref fn), v5, none] ∧ Same H Hx ∧ Hx fn = some (.lst ((c.1 :: (Ps.take i).flatMap gF).map V.int)) ∧ Hx t = some (.lst us) ∧ RL Hx us Ps) := ⟨_, rfl⟩
      have hfn3 := s3 _ _ (s2 _ _ hfn)
      have ntf : t ≠ fn := (ne_of_none (s2 _ _ hfn) nt).symm
      refine ⟨t, rfl, ⟨_, SqL.of ht⟩, for_list (K := K) (a := t) (xs := us) Pv (by rw [hPv]; exact ⟨none, rfl, s13, hfn3, ht, rl⟩) (fun i σ Hx _ pv => by rw [hPv] at pv; obtain ⟨_, _, _, _, h, _⟩ := pv; exact SqL.of h) (fun i v σ Hx gv pv => ?_) (fun σ Hx pv => ?_)⟩
      rotate_left
      · rw [hPv] at pv
        obtain ⟨v5, rfl, sx, hf, _, _⟩ := pv
        rw [rl.len, List.take_length] at hf
        walk_at "rd"
        exact ret fn Hx sx nfn (by rw [eK]; exact hf)
      rw [hPv] at pv
      obtain ⟨v5, rfl, sx, hf, htx, rlx⟩ := pv
      obtain ⟨Q0, gQ, tq, rfl, htq⟩ := lget rlx gv
      have QP : Q0 ∈ Ps := List.mem_of_getElem? gQ
      have tk : Ps.take (i + 1) = Ps.take i ++ [Q0] := by rw [List.take_add_one, gQ]; rfl
      have Qsub : ∀ x ∈ Q0, x ∈ R ∧ x ≠ c.1 := fun x hx => by
        have := List.mem_filter.mp (pcs.sub_of QP x hx)
        exact ⟨this.1, of_decide_eq_true this.2⟩
      have Qup := (pcs.part QP).1
      have Qlen : Q0.length ≤ n := by
        have h1 := int_sub_len2 (up_nd Qup) (pcs.sub_of QP)
        have h2 : (R.filter fun x => decide (x ≠ c.1)).length < R.length := filter_lt cR (by simp)
        omega
      walk_at "rd"
      refine ⟨g, tq, gs, L, Q0, rfl, sx _ _ hg, lg.kt (KT.same sx), .inr (SqT.of htq), ?_⟩
      refine ⟨g, o, gs, L, R, rfl, sx _ _ hg, lg.kt (KT.same sx), .inr (SqT.of (sx _ _ ho)), ?_⟩
      rw [optW_S, optW_S, hw]
      refine ⟨optS_scal _ _, _, rfl, ?_⟩
      rw [decS]
      by_cases m : wordP L Q0 = some c.2
      · rw [decide_eq_true m]
        refine iteT ?_
        refine ⟨.inl ⟨rfl, _, SqL.of hf⟩, p, g, tq, gs, L, Q0, r, D, own, rfl, hh.same sx, sx _ _ hg, lg.kt (KT.same sx), htq, Qlen, by omega, Qup, fun x hx => hR x (Qsub x hx).1, ⟨_, m⟩, fun ta Hy sy nta hta => ?_⟩
        have hf2 := sy _ _ hf
        have eG : gF Q0 = keepL D L n Q0 := by rw [hgF]; exact if_pos m
        have kl := keepL_len (D := D) (L := L) n Q0
        walk_at "rd"
        refine ⟨_, hf2, _, hta, Nat.le_of_lt (len_big (by rw [List.length_map, List.length_map, List.length_cons]; have := inG i; omega)), ?_⟩
        rw [hPv]
        have kt : KT Hy (upd Hy fn (HO.lst ((c.1 :: (Ps.take i).flatMap gF).map V.int ++ (keepL D L n Q0).map V.int))) := KT.lst hf2
        refine ⟨_, rfl, same_ch (sx.trans sy) nfn, ?_, by rw [upd_ne ntf]; exact sy _ _ htx, (rlx.kt (KT.same sy)).kt kt⟩
        · rw [upd_same, tk, List.flatMap_append, List.flatMap_cons, List.flatMap_nil, List.append_nil, eG, ← List.map_append]
          rfl
      · rw [decide_eq_false m]
        refine iteF ?_
        have eG : gF Q0 = [] := by rw [hgF]; exact if_neg m
        rw [hPv]
        refine ⟨_, rfl, sx, ?_, htx, rlx⟩
        rw [tk, List.flatMap_append, List.flatMap_cons, List.flatMap_nil, List.append_nil, eG, List.append_nil]
        exact hf
end

/-! ### _law_tops -/
abbrev sLts : Stmt := topS 44
theorem upF_len (R : List Int) : (upF R).length ≤ R.length := int_sub_len2 (up_nd (upF_up R)) fun x hx => (upF_mem R x).mp hx
section
variable {P : Program} {w : World} {K : PySem.W.Frag} {mg : Str → Option Value} {base : Heap}
theorem scLts : FnScope ["doors", "log", "part", "word", "top", "tops", "piece", "r"] ["doors", "log", "part", "word"] (defScope sLts) := ⟨rfl, rfl, rfl, by decide +kernel, rfl, by decide +kernel, by decide +kernel⟩
noncomputable def topsF (D : List Pr) (L : List Cl) (n : Nat) (R : List Int) (z : Str) : List Int := if wordP L R = some z then upF (keepL D L n R) else []
def spLts (n : Nat) : Sp := fun vs H Q _ => ∃ (l g o : Addr) (us gs : List V) (D : List Pr) (L : List Cl) (R : List Int) (z : Str), vs = [.ref l, .ref g, .ref o, .str z] ∧ H l = some (.lst us) ∧ PL H us D ∧ H g = some (.lst gs) ∧ LG H gs L ∧ H o = some (.tup (R.map V.int)) ∧ R.length ≤ n ∧ n ≤ 12 ∧ (∀ x ∈ R, 0 ≤ x) ∧
  ∀ (t : Addr) (H' : Hp), Same H H' → H t = none → H' t = some (.lst ((topsF D L n R z).map V.int)) → Q (.ref t) H'
theorem ok_lts {f fP fT fW : Addr} {fd fdP fdT fdW : FuncData} (F : Fun K "_law_tops" "_law_tops" sLts f fd) (T : Bi mg) (bd : Binds K fd ["doors", "log", "part", "word"] []) (hmg : mg "_law_tops" = some (.ref f)) (d__law_pieces : Df P w K mg base "_law_pieces" ["doors", "rooms"] 2 (spLpc K) fP fdP) (d__law_top : Df P w K mg base "_law_top" ["log", "rooms"] 1 (spTopR K optR) fT fdT) (d__law_word_of : Df P w K mg base "_law_word_of" ["log", "rooms"] 1 (spTopR K optW) fW fdW) : ∀ n, FnOk P w K mg base CX0 (n + 3) f fd ["doors", "log", "part", "word"] (spLts n) := by
  intro n
  induction n with
  | zero =>
    refine F.ok scLts (fun vs H Q E h => ?_) (fun cdv A0 outer s H vs Q E hr h => ?_)
    · obtain ⟨l, g, o, us, gs, D, L, R, z, rfl, _⟩ := h
      rfl
    · obtain ⟨l, g, o, us, gs, D, L, R, z, rfl, hl, pl, hg, lg, ho, rn, n12, hR, ret⟩ := h
      refine ⟨_, (pss_cons (ps_set (i := 4) scLts.nd rfl (Or.inr rfl) (pe_call d__law_top.ok (hr.mono (by omega)) (by rfl) d__law_top.at_ d__law_top.kp d__law_top.b .nil pass0 (pa_cons (pv 1) (pa_cons (pv 2) pa_nil))))
      (pss_cons (ps_if (PW.pt (pw_or (pt_cmpR op_isN (pv 4) pe_non (nomark _)) (pw_or1 (pt_cmpR op_ne (pe_call d__law_word_of.ok (hr.mono (by omega)) (by rfl) d__law_word_of.at_ d__law_word_of.kp d__law_word_of.b .nil pass0 (pa_cons (pv 1) (pa_cons (pv 2) pa_nil))) (pv 3) (nomark _)))))
      (pss_one (ps_ret (pe_lst pa_nil)))
      pss_nil)
      (pss_cons (ps_set (i := 5) scLts.nd rfl (Or.inl rfl) (pe_lst (pa_cons (pv 4) pa_nil)))
      (pss_cons (ps_never)
      (pss_one (ps_ret (pe_callB cr_sorted (by rfl) T.sorted (by decide +kernel) (pa_cons (pv 5) pa_nil)))))))), ?_⟩
      have R0 := List.length_eq_zero_iff.mp (Nat.le_zero.mp rn)
      subst R0
      walk_at "rd"
      refine ⟨g, o, gs, L, [], rfl, hg, lg, .inr (SqT.of ho), ?_⟩
      rw [show lastIn [] L = none from lastIn_none.mpr fun c _ z => by cases z]
      dsimp only
      rw [if_pos (show optR none = V.non from rfl), if_pos trivial]
      refine ⟨by decide, fun t nt => ret t _ (same_upd nt) nt ?_⟩
      rw [upd_same]
      unfold topsF
      rw [if_neg (by rw [wordP_out fun c _ z => by cases z]; simp)]
      rfl
  | succ n ih =>
    refine F.ok scLts (fun vs H Q E h => ?_) (fun cdv A0 outer s H vs Q E hr h => ?_)
    · obtain ⟨l, g, o, us, gs, D, L, R, z, rfl, _⟩ := h
      rfl
    · obtain ⟨l, g, o, us, gs, D, L, R, z, rfl, hl, pl, hg, lg, ho, rn, n12, hR, ret⟩ := h
      refine ⟨_, (pss_cons (ps_set (i := 4) scLts.nd rfl (Or.inr rfl) (pe_call d__law_top.ok (hr.mono (by omega)) (by rfl) d__law_top.at_ d__law_top.kp d__law_top.b .nil pass0 (pa_cons (pv 1) (pa_cons (pv 2) pa_nil))))
      (pss_cons (ps_if (PW.pt (pw_or (pt_cmpR op_isN (pv 4) pe_non (nomark _)) (pw_or1 (pt_cmpR op_ne (pe_call d__law_word_of.ok (hr.mono (by omega)) (by rfl) d__law_word_of.at_ d__law_word_of.kp d__law_word_of.b .nil pass0 (pa_cons (pv 1) (pa_cons (pv 2) pa_nil))) (pv 3) (nomark _)))))
      (pss_one (ps_ret (pe_lst pa_nil)))
      pss_nil)
      (pss_cons (ps_set (i := 5) scLts.nd rfl (Or.inl rfl) (pe_lst (pa_cons (pv 4) pa_nil)))
      (pss_cons (ps_for PassesOwn.never rfl (pi_list (pe_call d__law_pieces.ok (hr.mono (by omega)) (by rfl) d__law_pieces.at_ d__law_pieces.kp d__law_pieces.b .nil pass0 (pa_cons (pv 0) (pa_cons (pe_lc (own := [("r", 7)]) (te := (tVar 7)) (tt := (tTest (tOp (rI0 fun i j => V.bl (!decide (i = j))) (tVar 7) (tVar 4)))) (by rfl) scLts.nd (pi_tup (pv 2)) (blkOk_by (N := ["doors", "log", "part", "word", "top", "tops", "piece", "r"]) (sc := defScope sLts) (by decide +kernel)) (fun _ _ _ _ _ => pg_name (i := 7) scLts.nd rfl (Or.inl rfl)) (fun _ _ _ _ _ => (pts_one (pt_cmpR op_neI (pv 7) (pv 4) (nomark _)))) (fun _ _ _ _ _ => (pv 7))) pa_nil)))) (pg_name (i := 6) scLts.nd rfl (Or.inl rfl))
      (pss_one (ps_expr (pe_bm PySem.F.plainAttrs_list PySem.F.slot_list_extend PySem.F.type_list_extend mt_extend (pv 5) (pa_cons (pe_call ih hr (by rfl) hmg F.kp bd .nil pass0 (pa_cons (pv 0) (pa_cons (pv 1) (pa_cons (pv 6) (pa_cons (pv 3) pa_nil))))) pa_nil)))))
      (pss_one (ps_ret (pe_callB cr_sorted (by rfl) T.sorted (by decide +kernel) (pa_cons (pv 5) pa_nil)))))))), ?_⟩
      walk_at "rd"
      refine ⟨g, o, gs, L, R, rfl, hg, lg, .inr (SqT.of ho), ?_⟩
      cases ec : lastIn R L with
      | none =>
        try dsimp only
        rw [if_pos (show optR none = V.non from rfl), if_pos trivial]
        refine ⟨by decide, fun t nt => ret t _ (same_upd nt) nt ?_⟩
        rw [upd_same]
        unfold topsF
        rw [if_neg (by unfold wordP; rw [ec]; simp)]
        rfl
      | some c =>
        try dsimp only
        rw [if_neg (show ¬ optR (some c) = V.non from fun z => by cases z)]
        refine ⟨g, o, gs, L, R, rfl, hg, lg, .inr (SqT.of ho), ?_⟩
        rw [optW_S]
        have scS : ∀ o' : Option Str, scal (optS o') (V.str z) = true := fun o' => by cases o' <;> rfl
        refine ⟨scS _, _, rfl, ?_⟩
        have eS : decide (optS (wordP L R) = V.str z) = decide (wordP L R = some z) := decS _ (some z)
        rw [eS]
        by_cases hz : wordP L R = some z
        rotate_left
        · rw [decide_eq_false hz]
          refine iteT ?_
          refine ⟨by decide, fun t nt => ret t _ (same_upd nt) nt ?_⟩
          rw [upd_same]
          unfold topsF
          rw [if_neg hz]
          rfl
        rw [decide_eq_true hz]
        refine iteF ?_
        have cz : c.2 = z := by
          unfold wordP at hz
          rw [ec] at hz
          exact Option.some.inj hz
        have cR := lastIn_in ec
        refine ⟨by decide, fun fn nfn => ?_⟩
        have s1 := same_upd (o := HO.lst [V.int c.1]) nfn
        have hfn := upd_same (H := H) (a := fn) (o := HO.lst [V.int c.1])
        refine (show tFor _ _ _ _ _ (upd H fn (HO.lst [V.int c.1])) from ?_)
        generalize upd H fn (HO.lst [V.int c.1]) = H1 at s1 hfn ⊢
        refine for_iterW ?_
        walk_at "rd"
        refine lcW ?_
        unfold iTup
        walk_at "rd"
        refine ⟨⟨_, SqT.of (s1 _ _ ho)⟩, lc_filtT (p := fun x => decide (x ≠ c.1)) (s1 _ _ ho) (by omega) (by simp) (fun x Hx B xm sx hB => ?_) fun oo H2 s2 noo hoo => ?_⟩
        · refine ⟨.int x, rfl, .int c.1, rfl, x, c.1, rfl, rfl, _, rfl, ?_⟩
          have e : (!decide (x = c.1)) = decide (x ≠ c.1) := by by_cases z : x = c.1 <;> simp [z]
          rw [e]
          exact hB
        have s12 := s1.trans s2
        have fl : (R.filter fun x => decide (x ≠ c.1)).length ≤ R.length := List.length_filter_le _ _
        refine ⟨l, oo, us, D, _, rfl, s12 _ _ hl, pl.kt (KT.same s12), .inl (SqL.of hoo), by omega, fun x hx => hR x (List.mem_filter.mp hx).1, fun Ps ws t H3 pcs s3 nt ht rl => ?_⟩
        have eP := pcsF_eq pcs
        have s13 := s12.trans s3
        obtain ⟨gF, hgF⟩ : ∃ gF : List Int → List Int, gF = fun Q => topsF D L n Q z := ⟨_, rfl⟩
        have gm : ∀ Q x, x ∈ gF Q ↔ x ∈ (if wordP L Q = some c.2 then keepL D L n Q else []) := fun Q x => by
          rw [hgF, cz]
          show x ∈ topsF D L n Q z ↔ _
          unfold topsF
          split
          · exact upF_mem _ _
          · exact Iff.rfl
        have gsub : ∀ Q x, x ∈ gF Q → x ∈ Q := fun Q x hx => by
          have := (gm Q x).mp hx
          split at this
          · exact keepL_sub n Q x this
          · cases this
        have gnd : ∀ Q, (gF Q).Nodup := fun Q => by
          rw [hgF]
          show (topsF D L n Q z).Nodup
          unfold topsF
          split
          · exact up_nd (upF_up _)
          · exact List.nodup_nil
        have glen : ∀ Q, (gF Q).length ≤ Q.length := fun Q => int_sub_len2 (gnd Q) (gsub Q)
        have Pl : Ps.length ≤ 12 := Nat.le_trans pcs.len (by omega)
        have eK : ∀ x, x ∈ c.1 :: Ps.flatMap gF ↔ x ∈ keepL D L (n + 1) R := fun x => by
          have e : keepL D L (n + 1) R = c.1 :: Ps.flatMap fun Q => if wordP L Q = some c.2 then keepL D L n Q else [] := by
            rw [← eP]
            show (match lastIn R L with | none => [] | some c => _) = _
            rw [ec]
          rw [e, List.mem_cons, List.mem_cons, List.mem_flatMap, List.mem_flatMap]
          refine or_congr Iff.rfl ⟨fun ⟨Q, a, b⟩ => ⟨Q, a, (gm Q x).mp b⟩, fun ⟨Q, a, b⟩ => ⟨Q, a, (gm Q x).mpr b⟩⟩
        have ndK : (c.1 :: Ps.flatMap gF).Nodup := by
          refine List.nodup_cons.mpr ⟨fun m => ?_, flat_nd pcs gnd gsub⟩
          obtain ⟨Q, hQ, hx⟩ := List.mem_flatMap.mp m
          exact of_decide_eq_true (List.mem_filter.mp (pcs.sub_of hQ _ (gsub Q _ hx))).2 rfl
        have Klen : (c.1 :: Ps.flatMap gF).length ≤ 12 := Nat.le_trans (int_sub_len2 ndK fun x hx => keepL_sub (n + 1) R x ((eK x).mp hx)) (by omega)
        have inG : ∀ i, ((Ps.take i).flatMap gF).length ≤ 12 := fun i => by
          rw [List.length_cons] at Klen
          have h2 : ((Ps.take i).flatMap gF).length ≤ (Ps.flatMap gF).length := by
            conv => rhs; rw [← List.take_append_drop i Ps]
            rw [List.flatMap_append, List.length_append]
            omega
          omega
        obtain ⟨Pv, hPv⟩ : ∃ Pv : Nat → L2.St → Hp → Prop, Pv = (fun i σ Hx => ∃ v6 : Option V, σ = [some (.ref l), some (.ref g), some (.ref o), some (.str z), some (.int c.1), some (.ref fn), v6, none] ∧ Same H Hx ∧ Hx fn = some (.lst ((c.1 :: (Ps.take i).flatMap gF).map V.int)) ∧ Hx t = some (.lst ws) ∧ RL Hx ws Ps) := ⟨_, rfl⟩
        have hfn3 := s3 _ _ (s2 _ _ hfn)
        have ntf : t ≠ fn := (ne_of_none (s2 _ _ hfn) nt).symm
        refine ⟨t, rfl, ⟨_, SqL.of ht⟩, for_list (K := K) (a := t) (xs := ws) Pv (by rw [hPv]; exact ⟨none, rfl, s13, hfn3, ht, rl⟩) (fun i σ Hx _ pv => by rw [hPv] at pv; obtain ⟨_, _, _, _, h, _⟩ := pv; exact SqL.of h) (fun i v σ Hx gv pv => ?_) (fun σ Hx pv => ?_)⟩
        rotate_left
        · rw [hPv] at pv
          obtain ⟨v6, rfl, sx, hf, _, _⟩ := pv
          rw [rl.len, List.take_length] at hf
          walk_at "rd"
          refine ⟨_, _, rfl, SqL.of hf, by omega, fun ys t5 pm so nt5 => ?_⟩
          have ey : ys = topsF D L (n + 1) R z := by
            unfold topsF
            rw [if_pos hz]
            exact (upF_eq (up_of pm ndK so) fun x => pm.mem_iff.trans (eK x)).symm
          exact ret t5 _ (sx.trans (same_upd nt5)) (sx.free nt5) (by rw [upd_same, ey])
        rw [hPv] at pv
        obtain ⟨v6, rfl, sx, hf, htx, rlx⟩ := pv
        obtain ⟨Q0, gQ, tq, rfl, htq⟩ := lget rlx gv
        have QP : Q0 ∈ Ps := List.mem_of_getElem? gQ
        have tk : Ps.take (i + 1) = Ps.take i ++ [Q0] := by rw [List.take_add_one, gQ]; rfl
        have Qsub : ∀ x ∈ Q0, x ∈ R ∧ x ≠ c.1 := fun x hx => by
          have := List.mem_filter.mp (pcs.sub_of QP x hx)
          exact ⟨this.1, of_decide_eq_true this.2⟩
        have Qup := (pcs.part QP).1
        have Qlen : Q0.length ≤ n := by
          have h1 := int_sub_len2 (up_nd Qup) (pcs.sub_of QP)
          have h2 : (R.filter fun x => decide (x ≠ c.1)).length < R.length := filter_lt cR (by simp)
          omega
        walk_at "rd"
        refine ⟨.inl ⟨rfl, _, SqL.of hf⟩, l, g, tq, us, gs, D, L, Q0, z, rfl, sx _ _ hl, pl.kt (KT.same sx), sx _ _ hg, lg.kt (KT.same sx), htq, Qlen, by omega, fun x hx => hR x (Qsub x hx).1, fun ta Hy sy nta hta => ?_⟩
        have hf2 := sy _ _ hf
        have eG : gF Q0 = topsF D L n Q0 z := by rw [hgF]
        have kl := glen Q0
        rw [eG] at kl
        walk_at "rd"
        refine ⟨_, hf2, _, hta, Nat.le_of_lt (len_big (by rw [List.length_map, List.length_map, List.length_cons]; have := inG i; omega)), ?_⟩
        rw [hPv]
        have kt : KT Hy (upd Hy fn (HO.lst ((c.1 :: (Ps.take i).flatMap gF).map V.int ++ (topsF D L n Q0 z).map V.int))) := KT.lst hf2
        refine ⟨_, rfl, same_ch (sx.trans sy) nfn, ?_, by rw [upd_ne ntf]; exact sy _ _ htx, (rlx.kt (KT.same sy)).kt kt⟩
        rw [upd_same, tk, List.flatMap_append, List.flatMap_cons, List.flatMap_nil, List.append_nil, eG, ← List.map_append]
        rfl
end

/-! ### _law_form -/
abbrev sLf : Stmt := topS 45
theorem paired_snoc {α β : Type} {F : α → β → Prop} {a : List α} {b : List β} {x : α} {y : β} (h : Paired F a b) (r : F x y) : Paired F (a ++ [x]) (b ++ [y]) := paired_append h (.cons r .nil)
theorem blkV_kt {H H' : Hp} {n : Nat} {v : V} {b : Blk} (k : KT H H') (h : BlkV H (BlksAt H n) v b) : BlkV H' (BlksAt H' n) v b := by
  obtain ⟨a, t, i, ys, e, h1, h2, h3, h4, h5⟩ := h.ex
  exact ⟨a, t, i, ys, e, k _ _ h1, k _ _ h2, h3, k _ _ h4, h5.kt k⟩
/-- the list of blocks while it grows -/
def BL (H : Hp) (n : Nat) (us : List V) (bs : List Blk) : Prop := Paired (BlkV H (BlksAt H n)) us bs
theorem BL.kt {H H' : Hp} {n : Nat} {us : List V} {bs : List Blk} (h : BL H n us bs) (k : KT H H') : BL H' n us bs := Paired.mapP h fun _ _ q => blkV_kt k q
section
variable {P : Program} {w : World} {K : PySem.W.Frag} {mg : Str → Option Value} {base : Heap}
theorem scLf : FnScope ["doors", "log", "rooms", "blocks_v", "part", "word", "tops", "rest", "r"] ["doors", "log", "rooms"] (defScope sLf) := ⟨rfl, rfl, rfl, by decide +kernel, rfl, by decide +kernel, by decide +kernel⟩
def spLf (n : Nat) : Sp := fun vs H Q _ => ∃ (l g o : Addr) (us gs : List V) (D : List Pr) (L : List Cl) (R : List Int), vs = [.ref l, .ref g, .ref o] ∧ H l = some (.lst us) ∧ PL H us D ∧ H g = some (.lst gs) ∧ LG H gs L ∧ H o = some (.lst (R.map V.int)) ∧ R.length ≤ n ∧ n ≤ 12 ∧ (∀ x ∈ R, 0 ≤ x) ∧
  ∀ (v : V) (H' : Hp), Same H H' → FormAt H' n v (blkF D L n R) → Q v H'
theorem ok_lf {f fP fT fW : Addr} {fd fdP fdT fdW : FuncData} (F : Fun K "_law_form" "_law_form" sLf f fd) (T : Bi mg) (bd : Binds K fd ["doors", "log", "rooms"] []) (hmg : mg "_law_form" = some (.ref f)) (d__law_pieces : Df P w K mg base "_law_pieces" ["doors", "rooms"] 2 (spLpc K) fP fdP) (d__law_tops : Df P w K mg base "_law_tops" ["doors", "log", "part", "word"] 15 (spLts 12) fT fdT) (d__law_word_of : Df P w K mg base "_law_word_of" ["log", "rooms"] 1 (spTopR K optW) fW fdW) : ∀ n, FnOk P w K mg base CX0 (n + 17) f fd ["doors", "log", "rooms"] (spLf n) := by
  intro n
  induction n with
  | zero =>
    refine F.ok scLf (fun vs H Q E h => ?_) (fun cdv A0 outer s H vs Q E hr h => ?_)
    · obtain ⟨l, g, o, us, gs, D, L, R, rfl, _⟩ := h
      rfl
    · obtain ⟨l, g, o, us, gs, D, L, R, rfl, hl, pl, hg, lg, ho, rn, n12, hR, ret⟩ := h
      refine ⟨_, (pss_cons (ps_set (i := 3) scLf.nd rfl (Or.inl rfl) (pe_lst pa_nil))
      (pss_cons (ps_for PassesOwn.never rfl (pi_list (pe_call d__law_pieces.ok (hr.mono (by omega)) (by rfl) d__law_pieces.at_ d__law_pieces.kp d__law_pieces.b .nil pass0 (pa_cons (pv 0) (pa_cons (pv 2) pa_nil)))) (pg_name (i := 4) scLf.nd rfl (Or.inl rfl))
      (pss_cons (ps_never)
        (pss_cons (ps_set (i := 6) scLf.nd rfl (Or.inr rfl) (pe_callTy call_list_of (by rfl) T.list (by decide +kernel) (pa_cons (pv 4) pa_nil)))
        (pss_cons (ps_if (pt_cmpR op_notN (pv 5) pe_non (nomark _))
        (pss_one (ps_set (i := 6) scLf.nd rfl (Or.inr rfl) (pe_call d__law_tops.ok (hr.mono (by omega)) (by rfl) d__law_tops.at_ d__law_tops.kp d__law_tops.b .nil pass0 (pa_cons (pv 0) (pa_cons (pv 1) (pa_cons (pv 4) (pa_cons (pv 5) pa_nil)))))))
        pss_nil)
        (pss_cons (ps_setLc (i := 7) (own := [("r", 8)]) (te := (tVar 8)) (tt := (tTest (tOp (rIn K true) (tVar 8) (tVar 6)))) (by rfl) scLf.nd rfl rfl (sw_true rfl rfl rfl (by decide +kernel)) (pi_tup (pv 4)) (blkOk_by (N := ["doors", "log", "rooms", "blocks_v", "part", "word", "tops", "rest", "r"]) (sc := defScope sLf) (by decide +kernel)) (fun _ _ _ _ _ => pg_name (i := 8) scLf.nd rfl (Or.inl rfl)) (fun _ _ _ _ _ => (pts_one (pt_cmpR op_notIn_seq (pv 8) (pv 6) (by rfl)))) (fun _ _ _ _ _ => (pv 8)))
        (pss_one (ps_never)))))))
      (pss_one (ps_ret (pe_callTy call_tuple_of (by rfl) T.tuple (by decide +kernel) (pa_cons (pv 3) pa_nil)))))), ?_⟩
      have R0 := List.length_eq_zero_iff.mp (Nat.le_zero.mp rn)
      subst R0
      walk_at "rd"
      refine ⟨Nat.zero_le _, fun fn nfn => ?_⟩
      have s1 := same_upd (o := HO.lst []) nfn
      have hfn := upd_same (H := H) (a := fn) (o := HO.lst [])
      generalize upd H fn (HO.lst []) = H1 at s1 hfn ⊢
      refine for_iterW ?_
      walk_at "rd"
      refine ⟨l, o, us, D, [], rfl, s1 _ _ hl, pl.kt (KT.same s1), .inl (SqL.of (s1 _ _ ho)), by decide, (fun x hx => by cases hx), fun Ps ws t H2 pcs s2 nt ht rl => ?_⟩
      have eP : Ps = [] := by rw [← pcsF_eq pcs, pcsF_nil]
      subst eP
      have ew : ws = [] := List.length_eq_zero_iff.mp rl.len
      subst ew
      refine ⟨t, rfl, ⟨_, SqL.of ht⟩, for_list (K := K) (a := t) (xs := []) (fun _ σ Hx => σ = [some (.ref l), some (.ref g), some (.ref o), some (.ref fn), none, none, none, none, none] ∧ Hx = H2) ⟨rfl, rfl⟩ (fun i σ Hx _ pv => by rw [pv.2]; exact SqL.of ht) (fun i v σ Hx gv pv => by cases gv) (fun σ Hx pv => ?_)⟩
      obtain ⟨rfl, rfl⟩ := pv
      walk_at "rd"
      refine ⟨_, .inl ⟨SqL.of (s2 _ _ hfn), fun t2 nt2 => ?_⟩⟩
      exact ret _ _ ((s1.trans s2).trans (same_upd nt2)) ⟨t2, [], rfl, upd_same, rfl, rfl⟩
  | succ n ih =>
    refine F.ok scLf (fun vs H Q E h => ?_) (fun cdv A0 outer s H vs Q E hr h => ?_)
    · obtain ⟨l, g, o, us, gs, D, L, R, rfl, _⟩ := h
      rfl
    · obtain ⟨l, g, o, us, gs, D, L, R, rfl, hl, pl, hg, lg, ho, rn, n12, hR, ret⟩ := h
      refine ⟨_, (pss_cons (ps_set (i := 3) scLf.nd rfl (Or.inl rfl) (pe_lst pa_nil))
      (pss_cons (ps_for PassesOwn.never rfl (pi_list (pe_call d__law_pieces.ok (hr.mono (by omega)) (by rfl) d__law_pieces.at_ d__law_pieces.kp d__law_pieces.b .nil pass0 (pa_cons (pv 0) (pa_cons (pv 2) pa_nil)))) (pg_name (i := 4) scLf.nd rfl (Or.inl rfl))
      (pss_cons (ps_set (i := 5) scLf.nd rfl (Or.inl rfl) (pe_call d__law_word_of.ok (hr.mono (by omega)) (by rfl) d__law_word_of.at_ d__law_word_of.kp d__law_word_of.b .nil pass0 (pa_cons (pv 1) (pa_cons (pv 4) pa_nil))))
        (pss_cons (ps_set (i := 6) scLf.nd rfl (Or.inr rfl) (pe_callTy call_list_of (by rfl) T.list (by decide +kernel) (pa_cons (pv 4) pa_nil)))
        (pss_cons (ps_if (pt_cmpR op_notN (pv 5) pe_non (nomark _))
        (pss_one (ps_set (i := 6) scLf.nd rfl (Or.inr rfl) (pe_call d__law_tops.ok (hr.mono (by omega)) (by rfl) d__law_tops.at_ d__law_tops.kp d__law_tops.b .nil pass0 (pa_cons (pv 0) (pa_cons (pv 1) (pa_cons (pv 4) (pa_cons (pv 5) pa_nil)))))))
        pss_nil)
        (pss_cons (ps_setLc (i := 7) (own := [("r", 8)]) (te := (tVar 8)) (tt := (tTest (tOp (rIn K true) (tVar 8) (tVar 6)))) (by rfl) scLf.nd rfl rfl (sw_true rfl rfl rfl (by decide +kernel)) (pi_tup (pv 4)) (blkOk_by (N := ["doors", "log", "rooms", "blocks_v", "part", "word", "tops", "rest", "r"]) (sc := defScope sLf) (by decide +kernel)) (fun _ _ _ _ _ => pg_name (i := 8) scLf.nd rfl (Or.inl rfl)) (fun _ _ _ _ _ => (pts_one (pt_cmpR op_notIn_seq (pv 8) (pv 6) (by rfl)))) (fun _ _ _ _ _ => (pv 8)))
        (pss_one (ps_expr (pe_bm PySem.F.plainAttrs_list PySem.F.slot_list_append PySem.F.type_list_append mt_append (pv 3) (pa_cons (pe_tup (pa_cons (pv 5) (pa_cons (pe_callTy call_tuple_of (by rfl) T.tuple (by decide +kernel) (pa_cons (pv 6) pa_nil)) (pa_cons (pe_call ih hr (by rfl) hmg F.kp bd .nil pass0 (pa_cons (pv 0) (pa_cons (pv 1) (pa_cons (pv 7) pa_nil)))) pa_nil)))) pa_nil)))))))))
      (pss_one (ps_ret (pe_callTy call_tuple_of (by rfl) T.tuple (by decide +kernel) (pa_cons (pv 3) pa_nil)))))), ?_⟩
      walk_at "rd"
      refine ⟨Nat.zero_le _, fun fn nfn => ?_⟩
      have s1 := same_upd (o := HO.lst []) nfn
      have hfn := upd_same (H := H) (a := fn) (o := HO.lst [])
      generalize upd H fn (HO.lst []) = H1 at s1 hfn ⊢
      refine for_iterW ?_
      walk_at "rd"
      refine ⟨l, o, us, D, R, rfl, s1 _ _ hl, pl.kt (KT.same s1), .inl (SqL.of (s1 _ _ ho)), by omega, hR, fun Ps ws t H2 pcs s2 nt ht rl => ?_⟩
      have s12 := s1.trans s2
      have eP := pcsF_eq pcs
      have Pl : Ps.length ≤ 12 := Nat.le_trans pcs.len (by omega)
      have ntf : t ≠ fn := (ne_of_none hfn nt).symm
      obtain ⟨Pv, hPv⟩ : ∃ Pv : Nat → L2.St → Hp → Prop, Pv = (fun i σ Hx => ∃ (bs : List V) (v4 v5 v6 v7 : Option V), σ = [some (.ref l), some (.ref g), some (.ref o), some (.ref fn), v4, v5, v6, v7, none] ∧ Same H Hx ∧ Hx fn = some (.lst bs) ∧ BL Hx n bs ((Ps.take i).map (blkP D L n)) ∧ Hx t = some (.lst ws) ∧ RL Hx ws Ps) := ⟨_, rfl⟩
      refine ⟨t, rfl, ⟨_, SqL.of ht⟩, for_list (K := K) (a := t) (xs := ws) Pv (by rw [hPv]; exact ⟨[], none, none, none, none, rfl, s12, s2 _ _ hfn, .nil, ht, rl⟩) (fun i σ Hx _ pv => by rw [hPv] at pv; obtain ⟨_, _, _, _, _, _, _, _, _, h, _⟩ := pv; exact SqL.of h) (fun i v σ Hx gv pv => ?_) (fun σ Hx pv => ?_)⟩
      rotate_left
      · rw [hPv] at pv
        obtain ⟨bs, v4, v5, v6, v7, rfl, sx, hf, bl, _, _⟩ := pv
        rw [rl.len, List.take_length] at bl
        have bll : bs.length ≤ 12 := by
          rw [Paired.length bl, List.length_map]
          exact Pl
        walk_at "rd"
        refine ⟨_, .inl ⟨SqL.of hf, fun t2 nt2 => ?_⟩⟩
        refine ret _ _ (sx.trans (same_upd nt2)) ⟨t2, bs, rfl, upd_same, by omega, ?_⟩
        rw [blkF_succ, eP]
        exact BL.kt bl (KT.new nt2)
      rw [hPv] at pv
      obtain ⟨bs, v4, v5, v6, v7, rfl, sx, hf, bl, htx, rlx⟩ := pv
      obtain ⟨Q0, gQ, tq, rfl, htq⟩ := lget rlx gv
      have QP : Q0 ∈ Ps := List.mem_of_getElem? gQ
      have tk : Ps.take (i + 1) = Ps.take i ++ [Q0] := by rw [List.take_add_one, gQ]; rfl
      have Qsub := pcs.sub_of QP
      have Qup := (pcs.part QP).1
      have Qlen : Q0.length ≤ n + 1 := Nat.le_trans (int_sub_len2 (up_nd Qup) Qsub) rn
      have bll : bs.length ≤ 12 := by
        rw [Paired.length bl, List.length_map, List.length_take]
        omega
      walk_at "rg"
      refine sq3 fun N hN => ?_
      walk_at "rd"
      refine ⟨g, tq, gs, L, Q0, rfl, sx _ _ hg, lg.kt (KT.same sx), .inr (SqT.of htq), ?_⟩
      rw [optW_S]
      refine ⟨_, .inr (SqT.of htq), fun tp ntp => ?_⟩
      have sp := same_upd (o := HO.lst (Q0.map V.int)) ntp
      have htp := upd_same (H := Hx) (a := tp) (o := HO.lst (Q0.map V.int))
      generalize upd Hx tp (HO.lst (Q0.map V.int)) = H3 at sp htp ⊢
      have hf3 := sp _ _ hf
      have bl3 := bl.kt (KT.same sp)
      have htx3 := sp _ _ htx
      have rl3 := rlx.kt (KT.same sp)
      have htq3 := sp _ _ htq
      have s3 := sx.trans sp
      clear sp hf bl htx rlx htq
      have tail : ∀ (T : List Int) (tt : Addr) (H4 : Hp), Same H3 H4 → H4 tt = some (.lst (T.map V.int)) → T.length ≤ 12 → blkP D L n Q0 = .mk (wordP L Q0) T (blkF D L n (Q0.filter fun x => decide (x ∉ T))) → (Q0.filter fun x => decide (x ∉ T)).length ≤ n →
          N [some (.ref l), some (.ref g), some (.ref o), some (.ref fn), some (.ref tq), some (optS (wordP L Q0)), some (.ref tt), v7, none] H4 := fun T tt H4 s4 htt tl eB rl' => by
        refine hN _ _ ?_
        clear hN
        walk_at "rd"
        refine lcW ?_
        unfold iTup
        walk_at "rd"
        have s04 := s3.trans s4
        refine ⟨⟨_, SqT.of (s4 _ _ htq3)⟩, lc_filtT (p := fun x => decide (x ∉ T)) (s4 _ _ htq3) (by omega) (by simp) (fun x Hy B xm sy hB => ?_) fun oo H5 s5 noo hoo => ?_⟩
        · refine ⟨.int x, rfl, .ref tt, rfl, tt, T.map V.int, rfl, .inl (SqL.of (sy _ _ htt)), rfl, flI _, ?_⟩
          rw [inI, if_pos rfl]
          have e : (!decide (x ∈ T)) = decide (x ∉ T) := by by_cases z : x ∈ T <;> simp [z]
          rw [e]
          exact ⟨_, rfl, hB⟩
        have s05 := s04.trans s5
        have hf5 := s5 _ _ (s4 _ _ hf3)
        refine ⟨.inl ⟨rfl, _, SqL.of hf5⟩, _, .inl ⟨SqL.of (s5 _ _ htt), fun t2 nt2 => ?_⟩⟩
        have s6 := same_upd (o := HO.tup (T.map V.int)) nt2
        have ht2 := upd_same (H := H5) (a := t2) (o := HO.tup (T.map V.int))
        generalize upd H5 t2 (HO.tup (T.map V.int)) = H6 at s6 ht2 ⊢
        have s06 := s05.trans s6
        refine ⟨l, g, oo, us, gs, D, L, _, rfl, s06 _ _ hl, pl.kt (KT.same s06), s06 _ _ hg, lg.kt (KT.same s06), s6 _ _ hoo, rl', by omega, fun x hx => hR x (Qsub x (List.mem_filter.mp hx).1), fun vi H7 s7 fm => ?_⟩
        refine ⟨by decide, fun t3 nt3 => ?_⟩
        have s8 := same_upd (o := HO.tup [optS (wordP L Q0), .ref t2, vi]) nt3
        have ht3 := upd_same (H := H7) (a := t3) (o := HO.tup [optS (wordP L Q0), .ref t2, vi])
        generalize upd H7 t3 (HO.tup [optS (wordP L Q0), .ref t2, vi]) = H8 at s8 ht3 ⊢
        have s38 := s4.trans (s5.trans (s6.trans (s7.trans s8)))
        have hf8 := s38 _ _ hf3
        refine ⟨bs, hf8, len_big (by omega), ?_⟩
        have kt : KT H8 (upd H8 fn (HO.lst (bs ++ [.ref t3]))) := KT.lst hf8
        obtain ⟨ai, xi, rfl, hai, hbi⟩ := fm.kt (KT.same s8)
        rw [hPv]
        refine ⟨bs ++ [.ref t3], _, _, _, _, rfl, same_ch (s3.trans s38) nfn, upd_same, ?_, by rw [upd_ne ntf]; exact s38 _ _ htx3, (rl3.kt (KT.same s38)).kt kt⟩
        rw [tk, List.map_append]
        refine paired_snoc ((bl3.kt (KT.same s38)).kt kt) ⟨t3, t2, ai, xi, rfl, ?_, ?_, ?_, kt _ _ hai, ?_⟩
        · rw [eB]
          exact kt _ _ ht3
        · rw [eB]
          exact kt _ _ (s8 _ _ (s7 _ _ ht2))
        · rw [eB]
          show T.length ≤ 1000
          omega
        · rw [eB]
          exact hbi.kt kt
      have Q12 : Q0.length ≤ 12 := by omega
      cases hw : wordP L Q0 with
      | none =>
        rw [hw] at tail
        refine iteF ?_
        have e0 : (Q0.filter fun x => decide (x ∉ Q0)) = [] := List.filter_eq_nil_iff.mpr fun x hx => by simpa using hx
        refine tail Q0 tp H3 (Same.refl _) htp Q12 ?_ (by rw [e0]; exact Nat.zero_le _)
        unfold blkP
        rw [hw, e0]
        show Blk.mk none Q0 [] = Blk.mk none Q0 (blkF D L n [])
        cases n with
        | zero => rfl
        | succ n =>
          rw [blkF_succ, pcsF_nil]
          rfl
      | some z =>
        rw [hw] at tail
        refine iteT ?_
        refine ⟨l, g, tq, us, gs, D, L, Q0, z, rfl, s3 _ _ hl, pl.kt (KT.same s3), s3 _ _ hg, lg.kt (KT.same s3), htq3, Q12, by decide, fun x hx => hR x (Qsub x hx), fun tt H4 s4 ntt htt => ?_⟩
        have eT : topsF D L 12 Q0 z = upF (keepL D L 12 Q0) := by
          unfold topsF
          rw [if_pos hw]
        rw [eT] at htt
        have ef : (Q0.filter fun x => decide (x ∉ upF (keepL D L 12 Q0))) = Q0.filter fun x => decide (x ∉ keepL D L 12 Q0) := List.filter_congr fun x _ => by
          rw [decide_eq_decide]
          exact not_congr (upF_mem _ x)
        refine tail _ tt H4 s4 htt (Nat.le_trans (upF_len _) (Nat.le_trans (keepL_len 12 Q0) Q12)) ?_ ?_
        · unfold blkP
          rw [hw, ef]
        · rw [ef]
          obtain ⟨x, xP, xk⟩ := keepL_ne (D := D) (n := 11) hw
          have lt : (Q0.filter fun x => decide (x ∉ keepL D L 12 Q0)).length < Q0.length := filter_lt xP (by simpa using xk)
          omega
end

/-! ### common to the laws with forms -/
theorem sum_flat {α β γ : Type} {f : α → List β} {g : α → List γ} : ∀ l : List α, (∀ a ∈ l, (f a).length ≤ (g a).length) → (l.flatMap f).length ≤ (l.flatMap g).length
  | [], _ => Nat.le_refl _
  | a :: l, h => by
    rw [List.flatMap_cons, List.flatMap_cons, List.length_append, List.length_append]
    exact Nat.add_le_add (h a List.mem_cons_self) (sum_flat l fun b hb => h b (List.mem_cons_of_mem _ hb))
theorem keep_split (P K : List Int) (nd : P.Nodup) (sub : ∀ x ∈ K, x ∈ P) : (P.filter fun x => decide (x ∉ K)).length + (upF K).length ≤ P.length := by
  have h1 : (upF K).length ≤ (P.filter fun x => decide (x ∈ K)).length := int_sub_len2 (up_nd (upF_up K)) fun x hx => List.mem_filter.mpr ⟨sub x ((upF_mem K x).mp hx), decide_eq_true ((upF_mem K x).mp hx)⟩
  have h2 : ∀ l : List Int, (l.filter fun x => decide (x ∉ K)).length + (l.filter fun x => decide (x ∈ K)).length = l.length := fun l => by
    induction l with
    | nil => rfl
    | cons a l ih =>
      by_cases c : a ∈ K
      · rw [List.filter_cons_of_neg (by simpa using c), List.filter_cons_of_pos (by simpa using c), List.length_cons, List.length_cons]
        omega
      · rw [List.filter_cons_of_pos (by simpa using c), List.filter_cons_of_neg (by simpa using c), List.length_cons, List.length_cons]
        omega
  have := h2 P
  omega
theorem Sm.up1 {H : Hp} : ∀ {n : Nat} {x y : V}, Sm H n x y → Sm H (n + 1) x y
  | 0, x, y, h => .inl h
  | n + 1, x, y, h => by
    rcases h with h | ⟨a, b, xs, ys, e1, e2, h1, h2, h3⟩
    · exact .inl h
    · exact .inr ⟨a, b, xs, ys, e1, e2, h1, Paired.mapP h2 fun _ _ q => Sm.up1 q, h3⟩
theorem sm_up {H : Hp} {m : Nat} {x y : V} (h : Sm H m x y) : ∀ {n : Nat}, m ≤ n → Sm H n x y
  | 0, l => by rw [Nat.le_zero.mp l] at h; exact h
  | n + 1, l => by
    by_cases e : m = n + 1
    · rw [← e]
      exact h
    · exact Sm.up1 (sm_up h (Nat.lt_succ_iff.mp (Nat.lt_of_le_of_ne l e)))
theorem rg_bd {r : Nat} : ∀ x ∈ rg r, 0 ≤ x ∧ x < (r : Int) := fun y hy => by
  unfold rg at hy
  obtain ⟨k, hk, rfl⟩ := List.mem_map.mp hy
  have h9 := List.mem_range.mp hk
  exact ⟨Int.natCast_nonneg k, Int.ofNat_lt.mpr h9⟩

/-! ### nested defs that capture: the base, raised to what stands at a call -/
section
structure Sub (a b : Heap) : Prop where
  get : ∀ x o, a.get? x = some o → b.get? x = some o
  sz : a.objs.size ≤ b.objs.size
theorem Sub.refl (a : Heap) : Sub a a := ⟨fun _ _ h => h, Nat.le_refl _⟩
theorem Sub.trans {a b c : Heap} (h : Sub a b) (k : Sub b c) : Sub a c := ⟨fun x o e => k.get x o (h.get x o e), Nat.le_trans h.sz k.sz⟩
theorem funs_hide {h base b2 : Heap} : ∀ l : List Env, h.FunFrames base l → (∀ L ∈ frs l, b2.get? L = none) → h.FunFrames b2 l
  | [], _, _ => trivial
  | env :: r, hl, hn => by
    obtain ⟨hk, ⟨L, o, hf, _, ho, hd⟩, hr⟩ := hl
    have e : frs (env :: r) = L :: frs r := by
      unfold frs
      rw [List.filterMap_cons, hf]
    rw [e] at hn
    exact ⟨hk, ⟨L, o, hf, hn L List.mem_cons_self, ho, hd⟩, funs_hide r hr fun b hb => hn b (List.mem_cons_of_mem _ hb)⟩
theorem env_up {P : Program} {w : World} {K : PySem.W.Frag} {mg : Str → Option Value} {base : Heap} {A : Around} {outer : List Env} {s : Shared} {H : Hp} (e : Env0 P w K mg base A outer s H) :
    ∃ b2, Sub base b2 ∧ (∀ b o, s.heap.get? b = some o → H b = none → b ∉ frs outer → b2.get? b = some o) ∧ Env0 P w K mg b2 A outer s H := by
  have get : ∀ b o, s.heap.get? b = some o → H b = none → b ∉ frs outer → (PySem.W.hideAll s.heap (trk s.heap H ++ frs outer)).get? b = some o := fun b o q n nf => PySem.W.hideAll_get _ q fun hm => by
    rcases List.mem_append.mp hm with hm | hm
    · have z : (H b).isSome = true := (List.mem_filter.mp hm).2
      rw [n] at z
      cases z
    · exact nf hm
  have sub : ∀ b o, base.get? b = some o → (PySem.W.hideAll s.heap (trk s.heap H ++ frs outer)).get? b = some o := fun b o q => get b o (e.bs b o q).1 (e.bs b o q).2 fun hb => by
    have := (e.funs.mem hb).1
    rw [q] at this
    cases this
  obtain ⟨mb, hb1, hb2⟩ := e.mod.blt
  obtain ⟨mc, hc1, hc2⟩ := e.mod.nolimit
  refine ⟨_, ⟨sub, Nat.le_trans e.bsz (Nat.le_of_eq (PySem.W.hideAll_size _ _).symm)⟩, get, ⟨e.frames, ⟨e.mod.kin.keeps sub, e.mod.glob.keeps sub, ⟨mb, hb1.keeps sub, hb2⟩, ⟨mc, hc1.keeps sub, hc2⟩⟩, fun b o q => ⟨PySem.W.of_hideAll _ q, ?_⟩, Nat.le_of_eq (PySem.W.hideAll_size _ _), funs_hide _ e.funs fun L hL => PySem.W.hideAll_none _ (List.mem_append_right _ hL), e.frf, e.hok, e.bare⟩⟩
  cases z : H b with
  | none => rfl
  | some x =>
    have e' := PySem.W.of_hideAll _ q
    have hm : b ∈ trk s.heap H := List.mem_filter.mpr ⟨List.mem_range.mpr (Heap.lt_size e'), by rw [z]; rfl⟩
    have := PySem.W.hideAll_none (h := s.heap) (trk s.heap H ++ frs outer) (b := b) (List.mem_append_left _ hm)
    rw [this] at q
    cases q
end
section
variable {P : Program} {w : World} {K : PySem.W.Frag} {mg : Str → Option Value} {base b2 : Heap}
theorem get_none (u : Sub base b2) {L : Addr} (h : b2.get? L = none) : base.get? L = none := by
  cases z : base.get? L with
  | none => rfl
  | some o =>
    rw [u.get L o z] at h
    cases h
theorem env_down {A : Around} {outer : List Env} {s : Shared} {H : Hp} (m : L2.Mod K mg base) (u : Sub base b2) (e : Env0 P w K mg b2 A outer s H) : Env0 P w K mg base A outer s H :=
  ⟨e.frames, m, fun b o q => e.bs b o (u.get b o q), Nat.le_trans u.sz e.bsz, funs_hide _ e.funs (fun L hL => get_none u (e.funs.mem hL).1), e.frf, e.hok, e.bare⟩
theorem FnOk.up {CX : CXT} {k : Nat} {f : Addr} {fd : FuncData} {ps : List Str} {sp : Sp} (m : L2.Mod K mg base) (u : Sub base b2) (F : FnOk P w K mg base CX k f fd ps sp) : FnOk P w K mg b2 CX k f fd ps sp :=
  ⟨F.len, fun A outer s H args us vs Q E hr e0 => F.run A outer s H args us vs Q E hr (env_down m u e0)⟩
theorem Df.up {x : Str} {k : Nat} {f : Addr} {fd : FuncData} {ps : List Str} {sp : Sp} (m : L2.Mod K mg base) (u : Sub base b2) (d : Df P w K mg base x ps k sp f fd) : Df P w K mg b2 x ps k sp f fd := ⟨d.at_, d.kp, d.b, FnOk.up m u d.ok⟩
theorem TabB.up {c t : Addr} (u : Sub base b2) (h : LamX.TabB base mg c t) : LamX.TabB b2 mg c t := ⟨h.code.keeps u.get, h.bm.keeps u.get, h.gP⟩
end
/-- a def of the text that the base does not bind -/
structure Fd (K : PySem.W.Frag) (mg : Str → Option Value) (x : Str) (ps : List Str) (st : Stmt) (f : Addr) (fd : FuncData) (co : Addr) : Prop where
  fn : FunC K x x st f fd co
  at_ : mg x = some (.ref f)
  kp : PySem.W.keepIn K (.ref f) = true
  b : Binds K fd ps []
/-! ### the frame of such a def -/
section
theorem bind_loc {M : Model} {A : Around} {E : Value → Shared → Prop} {env : Env} {s : Shared} {h0 : Heap} {Q : PUnit → Shared → Prop} (f : Str × Value → PUnit → Sem (ForInStep PUnit)) (hf : ∀ n v u, f (n, v) u = (do storeName env n v; pure (.yield ⟨⟩))) (hk : env.scope.kind = .function) :
    ∀ (binds done : List (Str × Value)) (h : Heap) (tk : Nat), (∀ x ∈ binds, env.kindOf x.1 = some .local) → h.Ns env.locals (fun x => done.reverse.lookup x) → Heap.SameBut env.locals h0 h →
      (∀ h', h'.Ns env.locals (fun x => (done ++ binds).reverse.lookup x) → Heap.SameBut env.locals h0 h' → Q ⟨⟩ { s with heap := h', toks := tk + binds.length }) → wpAny M A (forIn binds ⟨⟩ f) Q E { s with heap := h, toks := tk }
  | [], done, h, tk, _, hn, hs, q => by
    rw [List.forIn_nil]
    have := q h (by rw [List.append_nil]; exact hn) hs
    exact wpAny_pure this
  | (n, v) :: r, done, h, tk, hl, hn, hs, q => by
    rw [List.forIn_cons, hf]
    have hp : (env.scope.kind == .class || (env.scope.kind == .module && env.locals != env.globals)) = false := by rw [hk]; rfl
    refine wpAny_bind (wpAny_bind (wpAny_storeName_local (hl _ List.mem_cons_self) hn (fun h' hn' hs' => wpAny_pure ?_) hp))
    refine bind_loc f hf hk r (done ++ [(n, v)]) h' (tk + 1) (fun x hx => hl x (List.mem_cons_of_mem _ hx)) ?_ (hs.trans hs') fun h'' a b => ?_
    · rw [lookup_reverse_snoc]
      exact hn'
    · rw [show tk + 1 + r.length = tk + ((n, v) :: r).length by rw [List.length_cons]; omega]
      exact q h'' (by rw [List.append_assoc] at a; exact a) b
theorem nfe {M : Model} {A : Around} {E : Value → Shared → Prop} {s : Shared} {scope : Scope} {globals : Addr} {cl : List (Str × Addr)} {binds : List (Str × Value)} {qual : Str} {func : Option Addr} {code : Value} {blt : Addr} {Q : Env → Shared → Prop} (hk : scope.kind = .function)
    (hl : ∀ x ∈ binds, scope.names.lookup x.1 = some .local)
    (hQ : ∀ h', h'.Ns s.heap.objs.size (fun x => binds.reverse.lookup x) → Heap.SameBut s.heap.objs.size (pushCells (s.heap.push { cls := .type "frame", data := .dict #[] }) scope.names) h' →
      Q (newEnv scope s.heap.objs.size globals (cellsFrom (s.heap.objs.size + 1) scope.names cl) qual func code none blt) { s with heap := h', toks := s.toks + binds.length }) :
    wpAny M A (newFunctionEnv scope globals cl binds qual func code none blt) Q E s := by
  simp only [newFunctionEnv, Option.isSome_none, Bool.false_eq_true, if_false]
  refine wpAny_bind (wpAny_alloc (wpAny_bind (wpAny_layCells _ (fun name kind cells => by cases hkc : kind == NameKind.cell <;> simp [hkc]) _ _ _ _ ?_)))
  have e1 : ({ s with heap := s.heap.push { cls := .type "frame", data := .dict #[] } } : Shared).heap.objs.size = s.heap.objs.size + 1 := Heap.size_push ..
  rw [e1]
  refine wpAny_bind (bind_loc (h0 := pushCells (s.heap.push { cls := .type "frame", data := .dict #[] }) scope.names) (env := newEnv scope s.heap.objs.size globals (cellsFrom (s.heap.objs.size + 1) scope.names cl) qual func code none blt) _ (fun _ _ _ => rfl) hk binds [] _ _ hl ((Heap.Ns.new s.heap (.type "frame")).keeps (pushCells_keeps _ _)) (Heap.SameBut.refl ..) fun h' a b => wpAny_pure (hQ h' a b))
end

/-! ### the frame of a def in a def: parameters, captured names, own names and cells -/
section
structure NSc (N ps fr : List Str) (sc : Scope) : Prop where
  kind : sc.kind = .function
  co : sc.isCoroutine = false
  gen : sc.isGenerator = false
  nd : N.Nodup
  pre : N.take (ps.length + fr.length) = ps ++ fr
  par : ∀ x ∈ ps, sc.names.lookup x = some .local
  free : ∀ y ∈ sc.names, y.2 = .free → y.1 ∈ fr
  frk : ∀ x ∈ fr, sc.names.lookup x = some .free
  ndn : (sc.names.map (·.1)).Nodup
def nscb (N ps fr : List Str) (sc : Scope) : Bool :=
  decide (sc.kind = .function ∧ sc.isCoroutine = false ∧ sc.isGenerator = false ∧ N.Nodup ∧ N.take (ps.length + fr.length) = ps ++ fr ∧ (∀ x ∈ ps, sc.names.lookup x = some .local) ∧ (∀ y ∈ sc.names, y.2 = .free → y.1 ∈ fr) ∧ (∀ x ∈ fr, sc.names.lookup x = some .free) ∧ (sc.names.map (·.1)).Nodup)
theorem nsc_by {N ps fr : List Str} {sc : Scope} (h : nscb N ps fr sc = true) : NSc N ps fr sc := by
  obtain ⟨h1, h2, h3, h4, h5, h6, h7, h8, h9⟩ := of_decide_eq_true h
  exact ⟨h1, h2, h3, h4, h5, h6, h7, h8, h9⟩
/-- what the captured cells hold, in the base -/
structure CellsB (base : Heap) (cl : List (Str × Addr)) (fr : List Str) (ws : List V) : Prop where
  len : ws.length = fr.length
  kin : ∀ y c, cl.lookup y = some c → y ∈ fr
  mem : ∀ y c, (y, c) ∈ cl → cl.lookup y = some c
  inj : ∀ x y c, cl.lookup x = some c → cl.lookup y = some c → x = y
  at_ : ∀ (i : Nat) (y : Str), fr[i]? = some y → ∃ c v u, cl.lookup y = some c ∧ ws[i]? = some v ∧ L2.RelV v u ∧ base.IsCell c (some u)
abbrev envC (F : NdefX.NF) (f L : Addr) : Env := PySem.W.envX F.qual F.scope L f (.ref F.c) (cellsFrom (L + 1) F.scope.names F.cl)
def cxC (P : Program) (w : World) (K : PySem.W.Frag) (mg : Str → Option Value) (base : Heap) (N : List Str) (F : NdefX.NF) (f : Addr) (A : Around) (outer : List Env) (s : Shared) (H : Hp) (E : XK) : Cx where
  prog := P
  w := w
  K := K
  mg := mg
  base := base
  A := A.deeper (envC F f s.heap.objs.size)
  N := N
  s_0 := s
  H_0 := H
  env := envC F f s.heap.objs.size
  outer := outer
  stack := envC F f s.heap.objs.size :: outer
  ex := []
  calm := true
  fn := fun x => decide (F.scope.names.lookup x = some .cell)
  pn := []
  xe := fun e s' => wpAny (model P w) (A.deeper (envC F f s.heap.objs.size)) (leaving (envC F f s.heap.objs.size) e) (fun _ s'' => CX0 outer H s E e s'') (fun e' s'' => CX0 outer H s E e' s'') s'
def startC (N : List Str) (vs ws : List V) : L2.St := vs.map some ++ (ws.map some ++ List.replicate (N.length - vs.length - ws.length) none)
theorem lookup_cells : ∀ (names : List (Str × NameKind)) (n : Nat) (acc : List (Str × Addr)) (x : Str), (∀ y ∈ names, y.1 = x → y.2 ≠ .cell) → (cellsFrom n names acc).lookup x = acc.lookup x
  | [], _, _, _, _ => rfl
  | (m, k) :: r, n, acc, x, h => by
    unfold cellsFrom
    split
    · rename_i hk
      have hk : k = .cell := by simpa using hk
      have hne : ¬ m = x := fun e => h (m, k) List.mem_cons_self e hk
      have hb : (x == m) = false := by simpa using fun e : x = m => hne e.symm
      rw [lookup_cells r (n + 1) _ x fun y hy => h y (List.mem_cons_of_mem _ hy), List.lookup_cons, hb]
    · exact lookup_cells r n acc x fun y hy => h y (List.mem_cons_of_mem _ hy)
theorem nd_lookup : ∀ {names : List (Str × NameKind)} {x : Str} {k : NameKind}, (names.map (·.1)).Nodup → (x, k) ∈ names → names.lookup x = some k
  | (m, k') :: r, x, k, nd, h => by
    rw [List.lookup_cons]
    have nd' := List.nodup_cons.mp nd
    rcases List.mem_cons.mp h with e | h
    · cases e
      simp
    · have hb : (x == m) = false := by
        refine beq_eq_false_iff_ne.mpr fun e => nd'.1 ?_
        rw [← e]
        exact List.mem_map.mpr ⟨(x, k), h, rfl⟩
      rw [hb]
      exact nd_lookup nd'.2 h
section
variable {P : Program} {w : World} {K : PySem.W.Frag} {mg : Str → Option Value} {base : Heap} {N ps fr : List Str} {F : NdefX.NF} {f : Addr} {A : Around} {outer : List Env} {s : Shared} {H : Hp} {E : XK} {us : List Value} {vs ws : List V}
theorem inv_C {h₁ : Heap} {tk : Nat} (S : NSc N ps fr F.scope) (hd : A.handled = none) (e0 : Env0 P w K mg base A outer s H) (hl : vs.length = ps.length) (r : Vals vs us) (C : CellsB base F.cl fr ws) (hns : h₁.Ns s.heap.objs.size fun y => (ps.zip us).reverse.lookup y)
    (hsb : Heap.SameBut s.heap.objs.size (pushCells (s.heap.push { cls := .type "frame", data := .dict #[] }) F.scope.names) h₁) : Inv (cxC P w K mg base N F f A outer s H E) [] (startC N vs ws) H { s with heap := h₁, toks := tk } := by
  have hpl : ps.length + fr.length ≤ N.length := by
    have q := congrArg List.length S.pre
    rw [List.length_take, List.length_append] at q
    omega
  have clen := C.len
  have kp : ∀ b o, s.heap.get? b = some o → h₁.get? b = some o := fun b o e => hsb.extBut b o (Nat.ne_of_lt (Heap.lt_size e)) (pushCells_keeps _ _ b o (Heap.get?_push_of_some _ e))
  have noA : ∀ b : Addr, b ∉ (cxC P w K mg base N F f A outer s H E).ex := fun b z => absurd (show b ∈ ([] : List Addr) from z) (by simp)
  have ok0 := cellsFrom_ok F.scope.names (s.heap.push { cls := .type "frame", data := .dict #[] }) (s.heap.objs.size + 1) [] ⟨fun _ _ hm => (nomatch hm), List.Pairwise.nil⟩ (by rw [Heap.size_push]; exact Nat.le_refl _)
  rw [Heap.size_push] at ok0
  have e9 : s.heap.objs.size + 1 = (s.heap.push { cls := .type "frame", data := .dict #[] }).objs.size := (Heap.size_push ..).symm
  -- the two kinds of cells
  have own : ∀ x c, F.scope.names.lookup x = some .cell → (cellsFrom (s.heap.objs.size + 1) F.scope.names F.cl).lookup x = some c → s.heap.objs.size + 1 ≤ c ∧ h₁.IsCell c none := fun x c hx hc => by
    have hm := PySem.mem_of_lookup hc
    rw [e9] at hm
    rcases cells_mem hm with h | ⟨_, h1, h2⟩
    · exfalso
      obtain ⟨c', hc'⟩ := mem_lookup h
      have := S.frk x (C.kin x c' hc')
      rw [hx] at this
      cases this
    · rw [← e9] at h1
      obtain ⟨o, ho, hdd⟩ := h2
      exact ⟨h1, o, hsb.extBut c o (fun z => by rw [z] at h1; exact Nat.not_succ_le_self _ h1) ho, hdd⟩
  have cap : ∀ x, F.scope.names.lookup x ≠ some .cell → (cellsFrom (s.heap.objs.size + 1) F.scope.names F.cl).lookup x = F.cl.lookup x := fun x hx => lookup_cells _ _ _ _ fun y hy e k => hx (by
    rw [← e]
    exact nd_lookup S.ndn (by rw [← k]; exact hy))
  have clB : ∀ y c, F.cl.lookup y = some c → ∃ v, base.IsCell c v := fun y c hc => by
    obtain ⟨i, hi⟩ := List.mem_iff_getElem?.mp (C.kin y c hc)
    obtain ⟨c', v, u, h1, _, _, h2⟩ := C.at_ i y hi
    rw [hc] at h1
    cases h1
    exact ⟨_, h2⟩
  have clS : ∀ y c, F.cl.lookup y = some c → c < s.heap.objs.size ∧ H c = none ∧ ∃ v, h₁.IsCell c v := fun y c hc => by
    obtain ⟨v, o, ho, hdd⟩ := clB y c hc
    have := e0.bs c o ho
    exact ⟨Heap.lt_size this.1, this.2, v, o, kp c o this.1, hdd⟩
  have dec : ∀ x c, (cellsFrom (s.heap.objs.size + 1) F.scope.names F.cl).lookup x = some c → (F.scope.names.lookup x = some .cell ∧ s.heap.objs.size + 1 ≤ c ∧ h₁.IsCell c none) ∨ (F.scope.names.lookup x ≠ some .cell ∧ F.cl.lookup x = some c) := fun x c hc => by
    by_cases hx : F.scope.names.lookup x = some .cell
    · exact .inl ⟨hx, own x c hx hc⟩
    · exact .inr ⟨hx, by rw [← cap x hx]; exact hc⟩
  refine ⟨⟨e0.mod, S.kind, rfl, rfl, Nat.le_refl _, fun x y c h1 h2 => ?_, fun y hy => ?_, fun y c hy h => ?_, fun _ => hd, Around.frames_deeper e0.frames, .inr ⟨rfl, rfl⟩, fun b z => absurd z (noA b), e0.bs, e0.bsz, fun b _ _ => noA b,
      fun b z => absurd z (noA b), e0.funs, e0.frf⟩,
    rfl, e0.bare, Un.kept kp, ⟨_, hns, fun i y v e1 e2 e3 => ?_⟩, fun y c e => ?_, e0.hok.fresh (Nat.le_refl _), fun y c e => ?_, fun q hq => absurd (show q ∈ ([] : List (Addr × Obj)) ++ [] from hq) (by simp), e0.hok.kept kp, ?_⟩
  · rcases dec x c h1 with ⟨k1, l1, _⟩ | ⟨k1, l1⟩
    · rcases dec y c h2 with ⟨k2, l2, _⟩ | ⟨k2, l2⟩
      · have m1 := PySem.mem_of_lookup (show (cellsFrom (s.heap.objs.size + 1) F.scope.names F.cl).lookup x = some c from h1)
        have m2 := PySem.mem_of_lookup (show (cellsFrom (s.heap.objs.size + 1) F.scope.names F.cl).lookup y = some c from h2)
        rw [e9] at m1 m2
        refine cells_inj (fun p hp => ?_) (fun a b d ha hb => C.inj a b d (C.mem a d ha) (C.mem b d hb)) m1 m2
        rw [← e9]
        exact Nat.lt_succ_of_lt (clS p.1 p.2 (C.mem p.1 p.2 hp)).1
      · exact absurd (clS y c l2).1 (Nat.not_lt.mpr (Nat.le_of_succ_le l1))
    · rcases dec y c h2 with ⟨k2, l2, _⟩ | ⟨k2, l2⟩
      · exact absurd (clS x c l1).1 (Nat.not_lt.mpr (Nat.le_of_succ_le l2))
      · exact C.inj x y c l1 l2
  · have hy : F.scope.names.lookup y = some .cell ∨ F.scope.names.lookup y = some .free := hy
    rcases hy with hy | hy
    · have hm : (y, NameKind.cell) ∈ F.scope.names := PySem.mem_of_lookup hy
      obtain ⟨c, hc⟩ := cells_has (n := s.heap.objs.size + 1) (acc := F.cl) hm
      exact mem_lookup hc
    · obtain ⟨i, hi⟩ := List.mem_iff_getElem?.mp (S.free _ (PySem.mem_of_lookup hy) rfl)
      obtain ⟨c, _, _, hc, _⟩ := C.at_ i y hi
      refine ⟨c, (cap y ?_).trans hc⟩
      rw [hy]
      decide
  · have hy' : F.scope.names.lookup y = some .cell := of_decide_eq_true hy
    exact Nat.le_of_succ_le (own y c hy' h).1
  · have e1 : N[i]? = some y := e1
    unfold startC at e2
    by_cases h1 : i < ps.length
    · have hq : (ps ++ fr)[i]? = some y := by
        rw [← S.pre, List.getElem?_take_of_lt (by omega)]
        exact e1
      rw [List.getElem?_append_left h1] at hq
      rw [List.getElem?_append_left (by rw [List.length_map]; omega), List.getElem?_map] at e2
      have ha : vs[i]? = some v := by
        cases e : vs[i]? with
        | none => rw [e] at e2; cases e2
        | some a => rw [e] at e2; cases e2; rfl
      obtain ⟨u, hu, rv⟩ := r.get ha
      have ndP : ps.Nodup := by
        have q := S.nd.sublist (List.take_sublist (ps.length + fr.length) N)
        rw [S.pre] at q
        exact (List.nodup_append.mp q).1
      exact ⟨u, rv, .inl ⟨S.par y (List.mem_of_getElem? hq), NdefX.zip_look ndP hq hu⟩⟩
    · rw [List.getElem?_append_right (by rw [List.length_map]; omega), List.length_map] at e2
      by_cases h2 : i < ps.length + fr.length
      · have hq : (ps ++ fr)[i]? = some y := by
          rw [← S.pre, List.getElem?_take_of_lt (by omega)]
          exact e1
        rw [List.getElem?_append_right (by omega)] at hq
        rw [List.getElem?_append_left (by rw [List.length_map]; omega), List.getElem?_map, hl] at e2
        obtain ⟨c, v', u, hc, hv, ru, hu⟩ := C.at_ (i - ps.length) y hq
        rw [hv] at e2
        have ev : v' = v := Option.some.inj (Option.some.inj e2)
        subst ev
        have fk := S.frk y (List.mem_of_getElem? hq)
        obtain ⟨o, ho, hdd⟩ := hu
        exact ⟨u, ru, .inr ⟨.inr fk, c, (cap y (by rw [fk]; decide)).trans hc, o, kp c o (e0.bs c o ho).1, hdd⟩⟩
      · rw [List.getElem?_append_right (by rw [List.length_map]; omega), List.getElem?_replicate] at e2
        split at e2 <;> cases e2
  · rcases dec y c e with ⟨_, _, z⟩ | ⟨_, z⟩
    · exact ⟨_, z⟩
    · exact (clS y c z).2.2
  · rcases dec y c e with ⟨_, z, _⟩ | ⟨_, z⟩
    · exact e0.hok.fresh (Nat.le_of_succ_le z)
    · exact (clS y c z).2.1
  · unfold startC
    show _ = N.length
    rw [List.length_append, List.length_append, List.length_map, List.length_map, List.length_replicate]
    omega
end
end

/-! ### what such a def promises, and how it is called -/
section
def Clb (P : Program) (w : World) (K : PySem.W.Frag) (mg : Str → Option Value) (base : Heap) (k : Nat) (f : Addr) (F : NdefX.NF) (ar : Nat) (sp : Sp) : Prop :=
  (∀ vs H Q E, sp vs H Q E → vs.length = ar) ∧ ∀ (A : Around) (outer : List Env) (s : Shared) (H : Hp) (us : List Value) (vs : List V) (Q : VK) (E : XK), Room k A → Env0 P w K mg base A outer s H → H f = some (NdefX.FnO f F) → H F.c = some (LamX.CodeO F.c F.qual) → Vals vs us → sp vs H Q E →
    codeAny (model P w) A (.call (.ref f) ⟨us, []⟩) (CR CX0 outer P w H s Q E) s
section
variable {P : Program} {w : World} {K : PySem.W.Frag} {mg : Str → Option Value} {base : Heap} {N ps fr : List Str} {F : NdefX.NF} {f : Addr} {k j ar : Nat} {sp : Sp} {ws : List V}
theorem Clb.mono (o : Clb P w K mg base j f F ar sp) (h : j ≤ k) : Clb P w K mg base k f F ar sp := ⟨o.1, fun A outer s H us vs Q E hr => o.2 A outer s H us vs Q E (hr.mono h)⟩
theorem Clb.up {b2 : Heap} (m : L2.Mod K mg base) (u : Sub base b2) (o : Clb P w K mg base k f F ar sp) : Clb P w K mg b2 k f F ar sp := ⟨o.1, fun A outer s H us vs Q E hr e0 => o.2 A outer s H us vs Q E hr (env_down m u e0)⟩
theorem clb_of (S : NSc N ps fr F.scope) (C : CellsB base F.cl fr ws) (hb : ∀ (doc pm ctv : Value) (us : List Value), us.length = ps.length → bindArgs (F.fd doc pm ctv) ⟨us, []⟩ = pure (ps.zip us)) (len : ∀ vs H Q E, sp vs H Q E → vs.length = ps.length)
    (hbody : ∀ (A : Around) (outer : List Env) (s : Shared) (H : Hp) (vs : List V) (Q : VK) (E : XK), Room k (A.deeper (envC F f s.heap.objs.size)) → H f = some (NdefX.FnO f F) → H F.c = some (LamX.CodeO F.c F.qual) → sp vs H Q E →
      ∃ t, PSs (cxC P w K mg base N F f A outer s H E).nox F.body t ∧ t { nx := fun _ H' => Q .non H', rt := Q } (startC N vs ws) H) :
    Clb P w K mg base (k + 1) f F ps.length sp := by
  refine ⟨len, fun A outer s H us vs Q E hr e0 hf hc r hsp => ?_⟩
  have hl := len _ _ _ _ hsp
  have lim : s.heap.NoLimit := e0.mod.nolimit.keeps fun b o e => (e0.bs b o e).1
  obtain ⟨od, sl, doc, pm, ctv, ho⟩ := NdefX.fnO_at e0.hok hf
  refine codeAny_call_function hr.depth ho rfl S.co S.gen rfl (NdefX.codeO_at e0.hok hc) ?_
  rw [hb doc pm ctv us (by rw [← r.length]; exact hl)]
  refine wpAny_pure (nfe S.kind (fun ⟨n, _⟩ hy => S.par n (List.of_mem_zip hy).1) fun h₁ hns hsb => ?_)
  have kp : ∀ b o, s.heap.get? b = some o → h₁.get? b = some o := fun b o e => hsb.extBut b o (Nat.ne_of_lt (Heap.lt_size e)) (pushCells_keeps _ _ b o (Heap.get?_push_of_some _ e))
  refine ⟨lim.keeps kp, ?_⟩
  show codeAny _ _ (.func F.body (envC F f s.heap.objs.size)) _ _
  refine codeAny_func ?_
  obtain ⟨t, ht, hq⟩ := hbody A outer s H vs Q E (hr.deeper _) hf hc hsp
  have I : Inv (cxC P w K mg base N F f A outer s H E) [] (startC N vs ws) H { s with heap := h₁, toks := s.toks + (ps.zip us).length } := inv_C S hr.hd e0 hl r C hns hsb
  refine wpAny_mono (ht.nox.run [] _ (startC N vs ws) H _ I hq) (fun fl s' hs => ?_) fun e s' hs => hs
  have fin : ∀ {σ' : L2.St} {H' : Hp} {v : V} {u : Value}, Inv (cxC P w K mg base N F f A outer s H E) [] σ' H' s' → L2.RelV v u → Q v H' → CE outer P w H s Q u s' :=
    fun {σ' H' v u} J rv q => ⟨v, H', J.os, J.bare, J.base, J.hok, rv, q⟩
  cases fl with
  | ret u =>
    obtain ⟨v, σ', H', J, rv, q⟩ := hs
    exact fin J rv q
  | next =>
    obtain ⟨σ', H', J, q⟩ := hs
    exact fin (v := V.non) (u := Value.none) J rfl q
  | brk =>
    obtain ⟨_, _, _, q⟩ := hs
    exact False.elim q
  | cont =>
    obtain ⟨_, _, _, q⟩ := hs
    exact False.elim q
end
/-- f(..), f a name that holds a made function -/
def tCallC (P : Program) (w : World) (K : PySem.W.Frag) (mg : Str → Option Value) (base : Heap) (j ar i : Nat) (t : TA) : TE := fun σ H Q => ∃ (f : Addr) (F : NdefX.NF) (sp : Sp), σ[i]? = some (some (.ref f)) ∧ H f = some (NdefX.FnO f F) ∧ Clb P w K mg base j f F ar sp ∧
  t σ H fun vs H1 => H1 f = some (NdefX.FnO f F) ∧ H1 F.c = some (LamX.CodeO F.c F.qual) ∧ sp vs H1 Q E0
/-- what the frame's own cells hold, told of a base -/
def CellsIn (X : Cx) (b2 : Heap) (σ : L2.St) : Prop := ∀ (i : Nat) (y : Str) (v : V) (c : Addr), X.N[i]? = some y → σ[i]? = some (some v) → X.env.scope.names.lookup y = some .cell → X.fn y = true → X.env.cells.lookup y = some c → ∃ u, L2.RelV v u ∧ b2.IsCell c (some u)
/-- the same, the function's promise shown over a raised base -/
def tCallCU (X : Cx) (j ar i : Nat) (t : TA) : TE := fun σ H Q => ∃ (f : Addr) (F : NdefX.NF), σ[i]? = some (some (.ref f)) ∧ H f = some (NdefX.FnO f F) ∧
  t σ H fun vs H1 => H1 f = some (NdefX.FnO f F) ∧ H1 F.c = some (LamX.CodeO F.c F.qual) ∧ ∀ b2, Sub X.base b2 → X.Ok → CellsIn X b2 σ → ∃ sp : Sp, Clb X.prog X.w X.K X.mg b2 j f F ar sp ∧ sp vs H1 Q E0
/-- a def of the text, its promise shown over a raised base -/
def tCallU (X : Cx) (sp : Heap → Sp) (t : TA) : TE := fun σ H Q => t σ H fun vs H1 => ∀ b2, Sub X.base b2 → X.Ok → CellsIn X b2 σ → sp b2 vs H1 Q E0
section
variable {X : Cx} {i j k ar : Nat} {x : Str} {t : TA} {e : Expr} {es : List Expr} {p pos : Pos}
theorem run_clb {pins : List (Addr × Obj)} {σ : L2.St} {H : Hp} {s : Shared} {Q : VK} {f : Addr} {F : NdefX.NF} {sp : Sp} {us : List Value} {vs : List V} {b2 : Heap} (Fn : Clb X.prog X.w X.K X.mg b2 k f F ar sp) (hr : Room k X.A) (I : Inv X pins σ H s) (e0 : Env0 X.prog X.w X.K X.mg b2 X.A X.stack s H)
    (hf : H f = some (NdefX.FnO f F)) (hc : H F.c = some (LamX.CodeO F.c F.qual)) (r : Vals vs us) (q : sp vs H Q E0) : wpAny (model X.prog X.w) X.A (call (.ref f) us) (EP X pins σ Q) X.xe s := by
  refine wpAny_call (codeAny_mono (Fn.2 X.A X.stack s H us vs Q E0 hr e0 hf hc r q) fun r s' hq => ?_)
  cases r with
  | error e => exact False.elim hq
  | ok fl =>
    cases fl with
    | ret u => exact I.after hq
    | next => exact False.elim hq
    | brk => exact False.elim hq
    | cont => exact False.elim hq
theorem pe_callC (hr : Room j X.A) (hN : X.N[i]? = some x) (hv : L2.Vis X.env.scope x) (ha : PA X (e :: es) t) (hd : (x == ("__debug__" : Str)) = false := by decide) (hcd : (x == ("__classdict__" : Str)) = false := by decide)
    (he : starEach (e :: es) X.env = (false, eval e X.env) :: starEach es X.env := by rfl) (hpl : (backTo pos (starEach es X.env)).any (·.1) = false := by rfl) :
    PE X (.Call (.Name x p) (e :: es) [] pos) (tCallC X.prog X.w X.K X.mg X.base j ar i t) := by
  refine ⟨fun pins s σ H Q I h => ?_⟩
  obtain ⟨f, F, sp, hs, hf, Fn, ht⟩ := h
  refine wpAny_Call_Name_kw (thn ((pe_var (pos := p) hN hv hd hcd).run pins s σ H (fun v H1 => v = .ref f ∧ H1 = H) I ⟨.ref f, hs, rfl, rfl⟩) fun u s1 ⟨v, H1, I1, r1, q1⟩ => ?_)
  obtain ⟨rfl, rfl⟩ := q1
  obtain rfl : u = Value.ref f := r1
  refine PySem.W.callWith_F (first := []) (NdefX.fnAt_of I1 hf) (thn (ha.run pos pins s1 σ H1 _ I1 ht) fun us s2 ⟨vs, H2, I2, r, h1, h2, q⟩ => ⟨NdefX.fnAt_of I2 h1, ?_⟩) he hpl
  exact run_clb Fn hr I2 I2.env0 h1 h2 r q
theorem cells_in {pins : List (Addr × Obj)} {σ : L2.St} {H : Hp} {s : Shared} {b2 : Heap} (I : Inv X pins σ H s) (g : ∀ b o, s.heap.get? b = some o → H b = none → b ∉ frs X.stack → b2.get? b = some o) : CellsIn X b2 σ := by
  intro i y v c hN hs hk hfn hc
  obtain ⟨m, _, hl⟩ := I.loc
  obtain ⟨u, r, l⟩ := hl i y v hN hs (.inr (.inl hk))
  refine ⟨u, r, ?_⟩
  rcases l with ⟨z, _⟩ | ⟨_, c', hc', o, ho, hd⟩
  · have z' : X.env.scope.names.lookup y = some .local := z
    rw [hk] at z'
    cases z'
  · rw [hc] at hc'
    cases hc'
    refine ⟨o, g c o ho (I.freeC y c hc) fun hb => ?_, hd⟩
    rcases List.mem_cons.mp (I.stkSub c hb) with z | z
    · exact I.cne y c hc z
    · obtain ⟨_, o', ho', _⟩ := I.ok.funs.mem z
      exact Nat.lt_irrefl _ (Nat.lt_of_lt_of_le (Heap.lt_size ho') (I.ok.cab y c hfn hc))
theorem pe_callCU (hr : Room j X.A) (hN : X.N[i]? = some x) (hv : L2.Vis X.env.scope x) (ha : PA X (e :: es) t) (hd : (x == ("__debug__" : Str)) = false := by decide) (hcd : (x == ("__classdict__" : Str)) = false := by decide)
    (he : starEach (e :: es) X.env = (false, eval e X.env) :: starEach es X.env := by rfl) (hpl : (backTo pos (starEach es X.env)).any (·.1) = false := by rfl) :
    PE X (.Call (.Name x p) (e :: es) [] pos) (tCallCU X j ar i t) := by
  refine ⟨fun pins s σ H Q I h => ?_⟩
  obtain ⟨f, F, hs, hf, ht⟩ := h
  refine wpAny_Call_Name_kw (thn ((pe_var (pos := p) hN hv hd hcd).run pins s σ H (fun v H1 => v = .ref f ∧ H1 = H) I ⟨.ref f, hs, rfl, rfl⟩) fun u s1 ⟨v, H1, I1, r1, q1⟩ => ?_)
  obtain ⟨rfl, rfl⟩ := q1
  obtain rfl : u = Value.ref f := r1
  refine PySem.W.callWith_F (first := []) (NdefX.fnAt_of I1 hf) (thn (ha.run pos pins s1 σ H1 _ I1 ht) fun us s2 ⟨vs, H2, I2, r, h1, h2, q⟩ => ⟨NdefX.fnAt_of I2 h1, ?_⟩) he hpl
  obtain ⟨b2, sb, g, e0⟩ := env_up I2.env0
  obtain ⟨sp, Fn, q⟩ := q b2 sb I2.ok (cells_in I2 g)
  exact run_clb Fn hr I2 e0 h1 h2 r q
theorem pe_callU {f : Addr} {fd : FuncData} {ps : List Str} {sp : Heap → Sp} (F : ∀ b2, Sub X.base b2 → L2.Mod X.K X.mg X.base → FnOk X.prog X.w X.K X.mg b2 CX0 k f fd ps (sp b2)) (hr : Room k X.A) (hg : Gl X x) (hm : X.mg x = some (.ref f)) (hk : PySem.W.keepIn X.K (.ref f) = true) (hb : Binds X.K fd ps []) (ha : PA X (e :: es) t)
    (hdb : (x == ("__debug__" : Str)) = false := by decide) (he : starEach (e :: es) X.env = (false, eval e X.env) :: starEach es X.env := by rfl) (hpl : (backTo pos (starEach es X.env)).any (·.1) = false := by rfl) : PE X (.Call (.Name x p) (e :: es) [] pos) (tCallU X sp t) := by
  refine ⟨fun pins s σ H Q I h => ?_⟩
  refine wpAny_Call_Name_kw (ld_glob I hg hm ?_ hdb)
  refine PySem.W.callWith_K (h₀ := X.base) I.ok.mod.kin hk (thn (ha.run pos pins s σ H _ I h) fun us s1 ⟨vs, H1, I1, r, q⟩ => ⟨I1.kIn, ?_⟩) he hpl
  obtain ⟨b2, sb, g, e0⟩ := env_up I1.env0
  have q := q b2 sb I1.ok (cells_in I1 g)
  have hl : us.length = ps.length := by rw [← r.length]; exact (F b2 sb I1.ok.mod).len _ _ _ _ q
  have bt := hb s1 us I1.kIn (by rw [List.append_nil]; exact hl)
  rw [List.append_nil] at bt
  refine wpAny_call (codeAny_mono ((F b2 sb I1.ok.mod).run X.A X.stack s1 H1 ⟨us, []⟩ us vs Q E0 hr e0 bt r q) fun r s' hq => ?_)
  cases r with
  | error e => exact False.elim hq
  | ok fl =>
    cases fl with
    | ret u => exact I1.after hq
    | next => exact False.elim hq
    | brk => exact False.elim hq
    | cont => exact False.elim hq
/-- the cells of a function made in this frame -/
theorem cellsB_of {b2 : Heap} {σ : L2.St} {names : List (Str × NameKind)} {fr : List Str} {ws : List V} {js : List Nat} (ok : X.Ok) (ci : CellsIn X b2 σ) (nd : (names.map (·.1)).Nodup) (h1 : ∀ y ∈ names, y.2 = .free → y.1 ∈ fr) (h2 : ∀ y ∈ fr, names.lookup y = some .free) (h3 : ∀ y ∈ fr, X.env.scope.names.lookup y = some .cell ∧ X.fn y = true)
    (hjs : js.map (fun j => X.N[j]?) = fr.map some) (hws : js.map (fun j => NdefX.slotAt σ j) = ws.map some) : CellsB b2 (cloFrom X.env.cells names []) fr ws := by
  have hf : ∀ y ∈ names, y.2 = .free → ∃ c, X.env.cells.lookup y.1 = some c := fun y hy e => ok.has _ (.inl (h3 _ (h1 y hy e)).1)
  have memC : ∀ y c, (y, c) ∈ cloFrom X.env.cells names [] → (y, NameKind.free) ∈ names ∧ X.env.cells.lookup y = some c := fun y c hm => by
    rcases cloFrom_mem hm with z | ⟨z1, z2⟩
    · cases z
    · obtain ⟨c1, hc⟩ := hf _ z1 rfl
      have hc : X.env.cells.lookup y = some c1 := hc
      rw [hc] at z2
      exact ⟨z1, by rw [hc]; exact congrArg some z2.symm⟩
  have l1 : js.length = fr.length := by
    have q := congrArg List.length hjs
    rw [List.length_map, List.length_map] at q
    exact q
  have l2 : js.length = ws.length := by
    have q := congrArg List.length hws
    rw [List.length_map, List.length_map] at q
    exact q
  refine ⟨by omega, fun y c e => h1 _ (memC y c (PySem.mem_of_lookup e)).1 rfl, fun y c hm => NdefX.clo_has hf (memC y c hm).1 (memC y c hm).2, fun a b c ha hb => ok.inj a b c (memC a c (PySem.mem_of_lookup ha)).2 (memC b c (PySem.mem_of_lookup hb)).2, fun i y e => ?_⟩
  have il : i < fr.length := (List.getElem?_eq_some_iff.mp e).1
  obtain ⟨jj, hj⟩ : ∃ j, js[i]? = some j := ⟨_, List.getElem?_eq_getElem (by omega)⟩
  obtain ⟨v, hv⟩ : ∃ v, ws[i]? = some v := ⟨_, List.getElem?_eq_getElem (by omega)⟩
  have e1 := congrArg (fun l => l[i]?) hjs
  have e2 := congrArg (fun l => l[i]?) hws
  simp only [List.getElem?_map, hj, e, hv, Option.map_some, Option.some.injEq] at e1 e2
  obtain ⟨k1, k2⟩ := h3 y (List.mem_of_getElem? e)
  obtain ⟨c, hc⟩ := ok.has y (.inl k1)
  obtain ⟨u, r, z⟩ := ci jj y v c e1 (NdefX.slotAt_some e2) k1 k2 hc
  exact ⟨c, v, u, NdefX.clo_has hf (PySem.mem_of_lookup (h2 y (List.mem_of_getElem? e))) hc, hv, r, z⟩
theorem CellsB.sub {b b2 : Heap} {cl : List (Str × Addr)} {fr : List Str} {ws : List V} (c : CellsB b cl fr ws) (s : Sub b b2) : CellsB b2 cl fr ws := ⟨c.len, c.kin, c.mem, c.inj, fun i y e => by
  obtain ⟨d, v, u, h1, h2, h3, o, ho, hd⟩ := c.at_ i y e
  exact ⟨d, v, u, h1, h2, h3, o, s.get _ _ ho, hd⟩⟩
end
end

/-! ### all that is tracked stays, but tables of code objects may grow -/
structure Xt (H H' : Hp) : Prop where
  ex : LamX.ExtN H H'
  fr : ∀ b, H' b = none → H b = none
theorem Xt.refl (H : Hp) : Xt H H := ⟨LamX.ExtN.refl H, fun _ h => h⟩
theorem Xt.trans {H H1 H2 : Hp} (a : Xt H H1) (b : Xt H1 H2) : Xt H H2 := ⟨a.ex.trans b.ex, fun x h => a.fr x (b.fr x h)⟩
theorem Xt.of {H H' : Hp} (s : Same H H') : Xt H H' := ⟨LamX.ExtN.of s, fun _ h => s.free h⟩
theorem Xt.lst {H H' : Hp} (x : Xt H H') {a : Addr} {xs : List V} (h : H a = some (.lst xs)) : H' a = some (.lst xs) := x.ex _ _ h fun _ z => nomatch z
theorem Xt.tup {H H' : Hp} (x : Xt H H') {a : Addr} {xs : List V} (h : H a = some (.tup xs)) : H' a = some (.tup xs) := x.ex _ _ h fun _ z => nomatch z
theorem Xt.ins {H H' : Hp} (x : Xt H H') {a C dx : Addr} {fs : List (Str × V)} (h : H a = some (.ins C dx fs)) : H' a = some (.ins C dx fs) := x.ex _ _ h fun _ z => nomatch z
theorem Xt.fn {H H' : Hp} (x : Xt H H') {a f : Addr} {F : NdefX.NF} (h : H a = some (NdefX.FnO f F)) : H' a = some (NdefX.FnO f F) := x.ex _ _ h fun ps z => NdefX.fnO_ne ps z
theorem Xt.code {H H' : Hp} (x : Xt H H') {a c : Addr} {q : Str} (h : H a = some (LamX.CodeO c q)) : H' a = some (LamX.CodeO c q) := x.ex _ _ h fun ps z => by
  unfold LamX.CodeO at z
  cases z
theorem Xt.tb {H H' : Hp} (x : Xt H H') {a t : Addr} (h : H a = some (TbO t)) : H' a = some (TbO t) := x.ex _ _ h fun ps z => by
  unfold TbO at z
  cases z
theorem KT.xt {H H' : Hp} (x : Xt H H') : KT H H' := fun _ _ h => x.tup h
theorem HouseAt.xt {C : Addr} {H H' : Hp} {p : Addr} {r : Nat} {D : List Pr} {own : List Addr} (h : HouseAt C H p r D own) (x : Xt H H') : HouseAt C H' p r D own := by
  obtain ⟨dx, l, m, ls, ns, h1, h2, h3, h4, h5, h6, rfl⟩ := h.ex
  exact ⟨⟨dx, l, m, ls, ns, x.ins h1, x.lst h2, h3.kt (KT.xt x), x.lst h4, h5, fun i n g => x.lst (h6 i n g), rfl⟩, h.ok, h.r1, h.r12⟩
theorem Xt.seq {K : PySem.W.Frag} {H H' : Hp} {a : Addr} {xs : List V} (x : Xt H H') (h : SqL K H a xs) : SqL K H' a xs := by
  rcases h with (h | ⟨o, h⟩) | h
  · exact .inl (.inl (x.lst h))
  · exact .inl (.inr ⟨o, x.ex _ _ h fun _ z => nomatch z⟩)
  · exact .inr h
theorem tabs_same {T : List NdefX.NTab} {H H' : Hp} (h : NdefX.TabsN T H) (s : Same H H') : NdefX.TabsN T H' := h.ext s

/-! ### build_form, with its two defs -/
section
variable {P : Program} {w : World} {K : PySem.W.Frag} {mg : Str → Option Value} {base : Heap} {N : List Str} {F : NdefX.NF} {f : Addr} {A : Around} {outer : List Env} {s : Shared} {H : Hp} {E : XK}
theorem cxcK : (cxC P w K mg base N F f A outer s H E).nox.K = K := rfl
theorem cxcK2 : (cxC P w K mg base N F f A outer s H E).K = K := rfl
theorem cxcP : (cxC P w K mg base N F f A outer s H E).nox.prog = P := rfl
theorem cxcW : (cxC P w K mg base N F f A outer s H E).nox.w = w := rfl
theorem cxcM : (cxC P w K mg base N F f A outer s H E).nox.mg = mg := rfl
theorem cxcB : (cxC P w K mg base N F f A outer s H E).nox.base = base := rfl
end
abbrev sBf : Stmt := topS 23
abbrev sBbs : Stmt := (defBody sBf).headD (.Pass ⟨0, 0, 0, 0⟩)
abbrev sBbk : Stmt := ((defBody sBf).drop 1).headD (.Pass ⟨0, 0, 0, 0⟩)
def stLine : Stmt → Nat
  | .FunctionDef _ _ _ _ _ _ _ _ _ pos => pos.line
  | _ => 0
/-- a form, from the word and the tops of each part -/
noncomputable def frmF (D : List Pr) (Wf : List Int → Option Str) (Tf : List Int → List Int) : Nat → List Int → List Blk
  | 0, _ => []
  | n + 1, R => (pcsF D R).map fun P => match Wf P with
    | none => .mk none P []
    | some z => .mk (some z) (Tf P) (frmF D Wf Tf n (P.filter fun x => decide (x ∉ Tf P)))
noncomputable def frmP (D : List Pr) (Wf : List Int → Option Str) (Tf : List Int → List Int) (n : Nat) (P : List Int) : Blk := match Wf P with
  | none => .mk none P []
  | some z => .mk (some z) (Tf P) (frmF D Wf Tf n (P.filter fun x => decide (x ∉ Tf P)))
theorem frmF_succ (D : List Pr) (Wf : List Int → Option Str) (Tf : List Int → List Int) (n : Nat) (R : List Int) : frmF D Wf Tf (n + 1) R = (pcsF D R).map (frmP D Wf Tf n) := rfl
theorem frmF_blk (D : List Pr) (L : List Cl) : ∀ (n : Nat) (R : List Int), frmF D (wordP L) (fun P => upF (keepL D L 12 P)) n R = blkF D L n R
  | 0, _ => rfl
  | n + 1, R => by
    unfold frmF blkF
    refine List.map_congr_left fun P _ => ?_
    cases wordP L P with
    | none => rfl
    | some z =>
      have ef : (P.filter fun x => decide (x ∉ upF (keepL D L 12 P))) = P.filter fun x => decide (x ∉ keepL D L 12 P) := List.filter_congr fun x _ => by
        rw [decide_eq_decide]
        exact not_congr (upF_mem _ x)
      show Blk.mk _ _ _ = Blk.mk _ _ _
      rw [ef, frmF_blk D L n]
/-- a part of a house with so many rooms -/
def PartR (D : List Pr) (r : Nat) (R : List Int) : Prop := Part D R ∧ ∀ x ∈ R, 0 ≤ x ∧ x < r
theorem PartR.len {D : List Pr} {r : Nat} {R : List Int} (h : PartR D r R) : R.length ≤ r := ints_len (up_nd h.1.1) h.2
/-- what the two functions that build_form is given promise -/
def spWrd (Iv : Hp → Prop) (D : List Pr) (r : Nat) (Wf : List Int → Option Str) : Sp := fun vs H Q _ => ∃ (o : Addr) (R : List Int), vs = [.ref o] ∧ H o = some (.tup (R.map V.int)) ∧ PartR D r R ∧ Iv H ∧ ∀ H', Same H H' → Q (optS (Wf R)) H'
def spTps (Iv : Hp → Prop) (D : List Pr) (r : Nat) (Wf : List Int → Option Str) (Tf : List Int → List Int) : Sp := fun vs H Q _ => ∃ (o : Addr) (R : List Int) (z : Str), vs = [.ref o] ∧ H o = some (.tup (R.map V.int)) ∧ PartR D r R ∧ Wf R = some z ∧ Iv H ∧ ∀ t H', Same H H' → H' t = some (.tup ((Tf R).map V.int)) → Q (.ref t) H'
/-- a function object with its code object -/
structure FnC (H : Hp) (f : Addr) (F : NdefX.NF) : Prop where
  fn : H f = some (NdefX.FnO f F)
  cd : H F.c = some (LamX.CodeO F.c F.qual)
theorem FnC.same {H H' : Hp} {f : Addr} {F : NdefX.NF} (h : FnC H f F) (s : Same H H') : FnC H' f F := ⟨s _ _ h.fn, s _ _ h.cd⟩
theorem FnC.xt {H H' : Hp} {f : Addr} {F : NdefX.NF} (h : FnC H f F) (x : Xt H H') : FnC H' f F := ⟨x.fn h.fn, x.code h.cd⟩
theorem scBbs : NSc ["rooms", "build_block", "house", "piece"] ["rooms"] ["build_block", "house"] (defScope sBbs) := nsc_by (by decide +kernel)
theorem scBbk : NSc ["part", "build_blocks", "tops_in", "word_in", "word", "tops", "room"] ["part"] ["build_blocks", "tops_in", "word_in"] (defScope sBbk) := nsc_by (by decide +kernel)
section
variable {P : Program} {w : World} {K : PySem.W.Frag} {mg : Str → Option Value} {base : Heap}
theorem scBf : FnScope ["house", "word_in", "tops_in", "build_block", "build_blocks"] ["house", "word_in", "tops_in"] (defScope sBf) := ⟨rfl, rfl, rfl, by decide +kernel, rfl, by decide +kernel, by decide +kernel⟩
abbrev nfBbs (cl : List (Str × Addr)) (c : Addr) : NdefX.NF := NdefX.NF.of sBbs "build_blocks" ((("build_form" : Str) ++ ".<locals>.") ++ "build_blocks") cl c
abbrev nfBbk (cl : List (Str × Addr)) (c : Addr) : NdefX.NF := NdefX.NF.of sBbk "build_block" ((("build_form" : Str) ++ ".<locals>.") ++ "build_block") cl c
/-- what the two inner defs lean on -/
structure BfIv (H : Hp) (C p : Addr) (r : Nat) (D : List Pr) (own : List Addr) (Iv : Hp → Prop) (fs fb wa ta : Addr) (Fs Fb Fw Ft : NdefX.NF) : Prop where
  hh : HouseAt C H p r D own
  iv : Iv H
  s : FnC H fs Fs
  b : FnC H fb Fb
  w : FnC H wa Fw
  t : FnC H ta Ft
def spBbs (BI : Hp → Prop) (D : List Pr) (r : Nat) (Wf : List Int → Option Str) (Tf : List Int → List Int) (n : Nat) : Sp := fun vs H Q _ => ∃ (o : Addr) (R : List Int), vs = [.ref o] ∧ H o = some (.lst (R.map V.int)) ∧ R.length ≤ n ∧ (∀ x ∈ R, 0 ≤ x ∧ x < r) ∧ BI H ∧ ∀ v H', Same H H' → FormAt H' n v (frmF D Wf Tf n R) → Q v H'
def spBbk (BI : Hp → Prop) (D : List Pr) (r : Nat) (Wf : List Int → Option Str) (Tf : List Int → List Int) (n : Nat) : Sp := fun vs H Q _ => ∃ (o : Addr) (R : List Int), vs = [.ref o] ∧ H o = some (.tup (R.map V.int)) ∧ R.length ≤ n + 1 ∧ PartR D r R ∧ BI H ∧ ∀ v H', Same H H' → BlkV H' (BlksAt H' n) v (frmP D Wf Tf n R) → Q v H'
theorem clb_bbs {C p fs fb wa ta fP : Addr} {r n j : Nat} {D : List Pr} {own : List Addr} {Iv : Hp → Prop} {Wf : List Int → Option Str} {Tf : List Int → List Int} {Fb Fw Ft : NdefX.NF} {cl : List (Str × Addr)} {c : Addr} {fdP : FuncData} (T : Bi mg) (r12 : r ≤ 12) (d_pieces : Df P w K mg base "pieces" ["house", "rooms"] 4 (spPcs K C) fP fdP) (CB : CellsB base cl ["build_block", "house"] [.ref fb, .ref p]) (j4 : 4 ≤ j) (n12 : n ≤ 12) (ivS : ∀ H H', Iv H → Same H H' → Iv H')
    (hk : n = 0 ∨ ∃ m, n = m + 1 ∧ Clb P w K mg base j fb Fb 1 (spBbk (fun H => BfIv H C p r D own Iv fs fb wa ta (nfBbs cl c) Fb Fw Ft) D r Wf Tf m)) :
    Clb P w K mg base (j + 1) fs (nfBbs cl c) 1 (spBbs (fun H => BfIv H C p r D own Iv fs fb wa ta (nfBbs cl c) Fb Fw Ft) D r Wf Tf n) := by
  refine clb_of (N := ["rooms", "build_block", "house", "piece"]) (ps := ["rooms"]) (F := nfBbs cl c) scBbs CB (fun _ _ _ us hl => match us, hl with | [_], _ => rfl) (fun vs H Q E h => ?_) (fun A0 outer s H vs Q E hr hf hc h => ?_)
  · obtain ⟨o, R, rfl, _⟩ := h
    rfl
  · obtain ⟨o, R, rfl, ho, rn, hR, bi, ret⟩ := h
    refine ⟨_, (pss_one (ps_ret (pe_callTy call_tuple_of (by rfl) T.tuple (by decide +kernel) (pa_cons (pe_lc (own := [("piece", 3)]) (te := tCallC P w K mg base j 1 1 (tCons (tVar 3) tNil)) (by rfl) scBbs.nd (pi_list (pe_call d_pieces.ok (hr.mono (by omega)) (by rfl) d_pieces.at_ d_pieces.kp d_pieces.b .nil pass0 (pa_cons (pv 2) (pa_cons (pv 0) pa_nil)))) (blkOk_by (N := ["rooms", "build_block", "house", "piece"]) (sc := defScope sBbs) (by decide +kernel)) (fun _ _ _ _ _ => pg_name (i := 3) scBbs.nd rfl (Or.inl rfl)) (fun _ _ _ _ _ => pts_nil) (fun _ _ _ _ _ => (pe_callC (ar := 1) (j := j) hr (i := 1) rfl (by first | exact Or.inl rfl | exact Or.inr (Or.inl rfl) | exact Or.inr (Or.inr rfl)) (pa_cons (pv 3) pa_nil)))) pa_nil)))), ?_⟩
    simp only [cxcK, cxcK2, cxcP, cxcW, cxcM, cxcB, startC]
    walk_at "rd"
    refine lcW ?_
    walk_at "rd"
    refine ⟨p, o, R, r, D, own, rfl, bi.hh, .inl (SqL.of ho), by omega, hR, fun Ps us t H1 pcs s1 nt ht rl => ?_⟩
    have eP := pcsF_eq pcs
    have Pl : Ps.length ≤ 12 := Nat.le_trans pcs.len (by omega)
    have fin : ∀ (m : Nat), n = m + 1 → ∀ (q : Addr) (ys : List V) (H2 : Hp), Same H1 H2 → H2 q = some (.lst ys) → Paired (BlkV H2 (BlksAt H2 m)) ys (Ps.map (frmP D Wf Tf m)) → ∀ t2, H2 t2 = none → Q (.ref t2) (upd H2 t2 (.tup ys)) := fun m em q ys H2 s2 hq pr t2 nt2 => by
      subst em
      have sn := same_upd (o := HO.tup ys) nt2
      refine ret _ _ ((s1.trans s2).trans sn) ⟨t2, ys, rfl, upd_same, ?_, ?_⟩
      · rw [Paired.length pr, List.length_map]
        omega
      · rw [frmF_succ, eP]
        exact BL.kt pr (KT.new nt2)
    refine ⟨t, rfl, ⟨us, SqL.of ht⟩, ?_⟩
    rcases hk with rfl | ⟨m, rfl, Cb⟩
    · have R0 := List.length_eq_zero_iff.mp (Nat.le_zero.mp rn)
      subst R0
      have P0 : Ps = [] := by rw [← eP, pcsF_nil]
      subst P0
      have u0 : us = [] := List.length_eq_zero_iff.mp rl.len
      subst u0
      refine gc_list (β := Unit) (fun _ _ _ => True) (fun _ _ _ _ _ _ => trivial) (fun _ => none) ht (by decide) (fun jj x Hx A B gx _ _ _ => by cases gx) (fun q ys H2 s2 nq hq pr => ?_)
      have y0 : ys = [] := List.length_eq_zero_iff.mp (by rw [Paired.length pr]; rfl)
      subst y0
      refine ⟨q, rfl, [], .inl ⟨SqL.of hq, fun t2 nt2 => ?_⟩⟩
      exact ret _ _ ((s1.trans s2).trans (same_upd nt2)) ⟨t2, [], rfl, upd_same, rfl, rfl⟩
    · refine gc_list (fun Hx v b => BlkV Hx (BlksAt Hx m) v b) (fun _ _ _ _ h k => blkV_kt k h) (fun jj => Ps[jj]?.bind fun Q0 => some (frmP D Wf Tf m Q0)) ht (by rw [rl.len]; omega) (fun jj x Hx A B gx sx hA _ => ?_) (fun q ys H2 s2 nq hq pr => ?_)
      · obtain ⟨Q0, gQ, tq, rfl, htq⟩ := lget rl gx
        have QP : Q0 ∈ Ps := List.mem_of_getElem? gQ
        have Qsub := pcs.sub_of QP
        have part := pcs.part QP
        have s01 := s1.trans sx
        refine (show (if true = true then tCallC P w K mg base j 1 1 (tCons (tVar 3) tNil) _ Hx A else B Hx) from ?_)
        rw [if_pos rfl]
        refine ⟨fb, Fb, _, rfl, (s01 _ _ bi.b.fn), Cb, ?_⟩
        refine ⟨.ref tq, rfl, s01 _ _ bi.b.fn, s01 _ _ bi.b.cd, ?_⟩
        refine ⟨tq, Q0, rfl, sx _ _ htq, Nat.le_trans (int_sub_len2 (up_nd part.1) Qsub) rn, ⟨part, fun x hx => hR x (Qsub x hx)⟩, ⟨bi.hh.same s01, ivS _ _ bi.iv s01, bi.s.same s01, bi.b.same s01, bi.w.same s01, bi.t.same s01⟩, fun v H3 s3 bv => ?_⟩
        exact hA v _ H3 (by rw [gQ]; rfl) s3 bv
      · rw [rl.len, fm_range (L := Ps) (fun Q0 => some (frmP D Wf Tf m Q0)), List.filterMap_eq_map'] at pr
        exact ⟨q, rfl, ys, .inl ⟨SqL.of hq, fin m rfl q ys H2 s2 hq pr⟩⟩
theorem clb_bbk {C p fs fb wa ta : Addr} {r n j kw : Nat} {D : List Pr} {own : List Addr} {Iv : Hp → Prop} {Wf : List Int → Option Str} {Tf : List Int → List Int} {Fs Fw Ft : NdefX.NF} {cl : List (Str × Addr)} {c : Addr} (r12 : r ≤ 12) (CB : CellsB base cl ["build_blocks", "tops_in", "word_in"] [.ref fs, .ref ta, .ref wa]) (jk : kw ≤ j) (n12 : n ≤ 12) (ivS : ∀ H H', Iv H → Same H H' → Iv H')
    (Cw : Clb P w K mg base kw wa Fw 1 (spWrd Iv D r Wf)) (Ct : Clb P w K mg base kw ta Ft 1 (spTps Iv D r Wf Tf)) (hT : ∀ R z, PartR D r R → Wf R = some z → (Tf R).length ≤ 12 ∧ ∃ x ∈ R, x ∈ Tf R)
    (Cs : Clb P w K mg base j fs Fs 1 (spBbs (fun H => BfIv H C p r D own Iv fs fb wa ta Fs (nfBbk cl c) Fw Ft) D r Wf Tf n)) :
    Clb P w K mg base (j + 1) fb (nfBbk cl c) 1 (spBbk (fun H => BfIv H C p r D own Iv fs fb wa ta Fs (nfBbk cl c) Fw Ft) D r Wf Tf n) := by
  refine clb_of (N := ["part", "build_blocks", "tops_in", "word_in", "word", "tops", "room"]) (ps := ["part"]) (F := nfBbk cl c) scBbk CB (fun _ _ _ us hl => match us, hl with | [_], _ => rfl) (fun vs H Q E h => ?_) (fun A0 outer s H vs Q E hr hf hc h => ?_)
  · obtain ⟨o, R, rfl, _⟩ := h
    rfl
  · obtain ⟨o, R, rfl, ho, rn, hR, bi, ret⟩ := h
    refine ⟨_, (pss_cons (ps_set (i := 4) scBbk.nd rfl (Or.inl rfl) (pe_callC (ar := 1) (j := j) hr (i := 3) rfl (by first | exact Or.inl rfl | exact Or.inr (Or.inl rfl) | exact Or.inr (Or.inr rfl)) (pa_cons (pv 0) pa_nil)))
      (pss_cons (ps_if (pt_cmpR op_isN (pv 4) pe_non (nomark _))
      (pss_one (ps_ret (pe_tup (pa_cons pe_non (pa_cons (pv 0) (pa_cons (pe_tup pa_nil) pa_nil))))))
      pss_nil)
      (pss_cons (ps_set (i := 5) scBbk.nd rfl (Or.inr rfl) (pe_callC (ar := 1) (j := j) hr (i := 2) rfl (by first | exact Or.inl rfl | exact Or.inr (Or.inl rfl) | exact Or.inr (Or.inr rfl)) (pa_cons (pv 0) pa_nil)))
      (pss_one (ps_ret (pe_tup (pa_cons (pv 4) (pa_cons (pv 5) (pa_cons (pe_callC (ar := 1) (j := j) hr (i := 1) rfl (by first | exact Or.inl rfl | exact Or.inr (Or.inl rfl) | exact Or.inr (Or.inr rfl)) (pa_cons (pe_lc (own := [("room", 6)]) (te := (tVar 6)) (tt := (tTest (tOp (rIn K true) (tVar 6) (tVar 5)))) (by rfl) scBbk.nd (pi_tup (pv 0)) (blkOk_by (N := ["part", "build_blocks", "tops_in", "word_in", "word", "tops", "room"]) (sc := defScope sBbk) (by decide +kernel)) (fun _ _ _ _ _ => pg_name (i := 6) scBbk.nd rfl (Or.inl rfl)) (fun _ _ _ _ _ => (pts_one (pt_cmpR op_notIn_seq (pv 6) (pv 5) (by rfl)))) (fun _ _ _ _ _ => (pv 6))) pa_nil)) pa_nil))))))))), ?_⟩
    simp only [cxcK, cxcK2, cxcP, cxcW, cxcM, cxcB, startC]
    walk_at "rd"
    have bis : ∀ {H' : Hp}, Same H H' → BfIv H' C p r D own Iv fs fb wa ta Fs (nfBbk cl c) Fw Ft := fun {H'} s => ⟨bi.hh.same s, ivS _ _ bi.iv s, bi.s.same s, bi.b.same s, bi.w.same s, bi.t.same s⟩
    have Rl := hR.len
    refine ⟨wa, Fw, _, rfl, bi.w.fn, Cw.mono jk, ?_⟩
    refine ⟨.ref o, rfl, bi.w.fn, bi.w.cd, o, R, rfl, ho, hR, bi.iv, fun H1 s1 => ?_⟩
    cases hw : Wf R with
    | none =>
      refine (show (if optS none = V.non then _ else _) from ?_)
      rw [if_pos (show optS none = V.non from rfl)]
      refine ⟨Nat.zero_le _, fun t1 nt1 => ⟨by decide, fun t2 nt2 => ?_⟩⟩
      have s2 := same_upd (o := HO.tup []) nt1
      have ht1 := upd_same (H := H1) (a := t1) (o := HO.tup [])
      generalize upd H1 t1 (HO.tup []) = H2 at s2 ht1 nt2 ⊢
      have s3 := same_upd (o := HO.tup [V.non, V.ref o, V.ref t1]) nt2
      have ht2 := upd_same (H := H2) (a := t2) (o := HO.tup [V.non, V.ref o, V.ref t1])
      generalize upd H2 t2 (HO.tup [V.non, V.ref o, V.ref t1]) = H3 at s3 ht2 ⊢
      have s03 := s1.trans (s2.trans s3)
      refine ret _ H3 s03 ?_
      have eB : frmP D Wf Tf n R = .mk none R [] := by
        unfold frmP
        rw [hw]
      rw [eB]
      refine ⟨t2, o, t1, [], rfl, ht2, s03 _ _ ho, (by show R.length ≤ 1000; omega), s3 _ _ ht1, ?_⟩
      cases n with
      | zero => exact ⟨rfl, rfl⟩
      | succ n => exact ⟨Nat.zero_le _, Paired.nil⟩
    | some z =>
      refine (show (if optS (some z) = V.non then _ else _) from ?_)
      rw [if_neg (show ¬ optS (some z) = V.non from fun q => by cases q)]
      obtain ⟨tl, x0, x0R, x0T⟩ := hT R z hR hw
      have b1 := bis s1
      refine ⟨ta, Ft, _, rfl, b1.t.fn, Ct.mono jk, ?_⟩
      refine ⟨.ref o, rfl, b1.t.fn, b1.t.cd, o, R, z, rfl, s1 _ _ ho, hR, hw, b1.iv, fun tt H2 s2 htt => ?_⟩
      have s12 := s1.trans s2
      have b2 := bis s12
      refine ⟨fs, Fs, _, rfl, b2.s.fn, Cs, ?_⟩
      refine lcW ?_
      unfold iTup
      walk_at "rd"
      refine ⟨⟨_, SqT.of (s12 _ _ ho)⟩, lc_filtT (p := fun x => decide (x ∉ Tf R)) (s12 _ _ ho) (by omega) (by simp) (fun x Hy B xm sy hB => ?_) fun oo H3 s3 noo hoo => ?_⟩
      · refine ⟨.int x, rfl, .ref tt, rfl, tt, (Tf R).map V.int, rfl, .inr (SqT.of (sy _ _ htt)), rfl, flI _, ?_⟩
        rw [inI, if_pos rfl]
        have e : (!decide (x ∈ Tf R)) = decide (x ∉ Tf R) := by by_cases z : x ∈ Tf R <;> simp [z]
        rw [e]
        exact ⟨_, rfl, hB⟩
      have s13 := s12.trans s3
      have b3 := bis s13
      have lt : (R.filter fun x => decide (x ∉ Tf R)).length < R.length := filter_lt x0R (by simpa using x0T)
      refine ⟨b3.s.fn, b3.s.cd, oo, _, rfl, hoo, by omega, fun x hx => hR.2 x (List.mem_filter.mp hx).1, b3, fun v H4 s4 fm => ?_⟩
      refine ⟨by decide, fun t2 nt2 => ?_⟩
      have s5 := same_upd (o := HO.tup [optS (some z), .ref tt, v]) nt2
      have ht2 := upd_same (H := H4) (a := t2) (o := HO.tup [optS (some z), .ref tt, v])
      generalize upd H4 t2 (HO.tup [optS (some z), .ref tt, v]) = H5 at s5 ht2 ⊢
      obtain ⟨ai, xi, rfl, hai, hbi⟩ := fm.kt (KT.same s5)
      have eB : frmP D Wf Tf n R = .mk (some z) (Tf R) (frmF D Wf Tf n (R.filter fun x => decide (x ∉ Tf R))) := by
        unfold frmP
        rw [hw]
      refine ret _ H5 ((s13.trans s4).trans s5) ?_
      rw [eB]
      exact ⟨t2, tt, ai, xi, rfl, ht2, s5 _ _ (s4 _ _ (s3 _ _ htt)), (by show (Tf R).length ≤ 1000; omega), hai, hbi⟩
end

/-! ### build_form -/
def nmBf : Nat → Nat → Str := fun line _ => if line = stLine sBbs then "build_form.<locals>.build_blocks" else "build_form.<locals>.build_block"
theorem hnBs : ∀ c, nmBf (stLine sBbs) c = (("build_form" : Str) ++ ".<locals>.") ++ "build_blocks" := fun c => by
  unfold nmBf
  rw [if_pos rfl]
  decide +kernel
theorem hnBk : ∀ c, nmBf (stLine sBbk) c = (("build_form" : Str) ++ ".<locals>.") ++ "build_block" := fun c => by
  unfold nmBf
  rw [if_neg (by decide +kernel)]
  decide +kernel
theorem hfBs : NdefX.ndefB (defScope sBf) (C8.fnScope sBbs) ["build_block", "house"] = true := by decide +kernel
theorem hfBk : NdefX.ndefB (defScope sBf) (C8.fnScope sBbk) ["build_blocks", "tops_in", "word_in"] = true := by decide +kernel
section
variable {P : Program} {w : World} {K : PySem.W.Frag} {mg : Str → Option Value} {base : Heap}
theorem clb_bf {C p fs fb wa ta fP : Addr} {r kw : Nat} {D : List Pr} {own : List Addr} {Iv : Hp → Prop} {Wf : List Int → Option Str} {Tf : List Int → List Int} {Fw Ft : NdefX.NF} {cl cl2 : List (Str × Addr)} {c c2 : Addr} {fdP : FuncData} (T : Bi mg) (r12 : r ≤ 12) (k22 : kw ≤ 21) (d_pieces : Df P w K mg base "pieces" ["house", "rooms"] 4 (spPcs K C) fP fdP) (CB : CellsB base cl ["build_block", "house"] [.ref fb, .ref p]) (CB2 : CellsB base cl2 ["build_blocks", "tops_in", "word_in"] [.ref fs, .ref ta, .ref wa]) (ivS : ∀ H H', Iv H → Same H H' → Iv H')
    (Cw : Clb P w K mg base kw wa Fw 1 (spWrd Iv D r Wf)) (Ct : Clb P w K mg base kw ta Ft 1 (spTps Iv D r Wf Tf)) (hT : ∀ R z, PartR D r R → Wf R = some z → (Tf R).length ≤ 12 ∧ ∃ x ∈ R, x ∈ Tf R) :
    ∀ n, n ≤ 12 → Clb P w K mg base (2 * n + 22) fs (nfBbs cl c) 1 (spBbs (fun H => BfIv H C p r D own Iv fs fb wa ta (nfBbs cl c) (nfBbk cl2 c2) Fw Ft) D r Wf Tf n)
  | 0, _ => clb_bbs (j := 21) T r12 d_pieces CB (by decide) (by decide) ivS (.inl rfl)
  | n + 1, h => by
    have ih := clb_bf (c := c) (c2 := c2) (own := own) T r12 k22 d_pieces CB CB2 ivS Cw Ct hT n (Nat.le_of_succ_le h)
    have cb := clb_bbk (j := 2 * n + 22) r12 CB2 (by omega) (Nat.le_of_succ_le h) ivS Cw Ct hT ih
    have := clb_bbs (j := 2 * n + 23) (n := n + 1) T r12 d_pieces CB (by omega) h ivS (.inr ⟨n, rfl, cb⟩)
    exact this
def spBf (P : Program) (w : World) (K : PySem.W.Frag) (mg : Str → Option Value) (C : Addr) (Tb : List NdefX.NTab) (base : Heap) : Sp := fun vs H Q _ => ∃ (p wa ta : Addr) (r : Nat) (D : List Pr) (own : List Addr) (Iv : Hp → Prop) (Wf : List Int → Option Str) (Tf : List Int → List Int) (Fw Ft : NdefX.NF), vs = [.ref p, .ref wa, .ref ta] ∧ HouseAt C H p r D own ∧ Iv H ∧ (∀ H H', Iv H → Xt H H' → Iv H') ∧ FnC H wa Fw ∧ FnC H ta Ft ∧ Clb P w K mg base 20 wa Fw 1 (spWrd Iv D r Wf) ∧ Clb P w K mg base 20 ta Ft 1 (spTps Iv D r Wf Tf) ∧ (∀ R z, PartR D r R → Wf R = some z → (Tf R).length ≤ 12 ∧ ∃ x ∈ R, x ∈ Tf R) ∧ NdefX.TabsN Tb H ∧
  ∀ v H', Xt H H' → NdefX.TabsN Tb H' → FormAt H' 12 v (frmF D Wf Tf 12 (rg r)) → Q v H'
theorem ok_bf {f C fP co tb : Addr} {fd fdP : FuncData} {Tb : List NdefX.NTab} (F : FunC K "build_form" "build_form" sBf f fd co) (T : Bi mg) (U : Hs K mg C) (TB : LamX.TabB base mg co tb) (hm : (tb, nmBf) ∈ Tb) (hu : ∀ p ∈ Tb, p.1 = tb → p.2 = nmBf) (d_pieces : Df P w K mg base "pieces" ["house", "rooms"] 4 (spPcs K C) fP fdP) : FnOk P w K mg base CX0 48 f fd ["house", "word_in", "tops_in"] (spBf P w K mg C Tb base) := by
  refine F.ok scBf (fun vs H Q E h => ?_) (fun A0 outer s H vs Q E hr h => ?_)
  · obtain ⟨p, wa, ta, r, D, own, Iv, Wf, Tf, Fw, Ft, rfl, _⟩ := h
    rfl
  · obtain ⟨p, wa, ta, r, D, own, Iv, Wf, Tf, Fw, Ft, rfl, hh, iv, ivX, fw, ft, Cw, Ct, hT, hTb, ret⟩ := h
    have r12 := hh.r12
    refine ⟨_, (pss_cons (NdefX.ps_ndefMS (st := sBbs) (T := Tb) (nm := nmBf) (c := co) (P := tb) (i := 4) rfl TB rfl hm (hnBs _) hu (NdefX.ndef_free hfBs) rfl rfl rfl scBf.nd rfl (Or.inr rfl) (Or.inl rfl))
      (pss_cons (NdefX.ps_ndefMS (st := sBbk) (T := Tb) (nm := nmBf) (c := co) (P := tb) (i := 3) rfl TB rfl hm (hnBk _) hu (NdefX.ndef_free hfBk) rfl rfl rfl scBf.nd rfl (Or.inr rfl) (Or.inl rfl))
      (pss_one (ps_ret (pe_callCU (ar := 1) (j := 46) (hr.mono (by decide)) (i := 4) rfl (by first | exact Or.inl rfl | exact Or.inr (Or.inl rfl) | exact Or.inr (Or.inr rfl)) (pa_cons (pe_listRg rfl (by rfl) T.list (prg_1 (by rfl) T.range (pe_fld (pv 0) rfl))) pa_nil)))))), ?_⟩
    walk_at "rd"
    refine ⟨hTb, fun fs cs H1 e1 n1 t1 fs0 hfs hcs => ?_⟩
    have x1 : Xt H H1 := ⟨e1, n1⟩
    walk_at "rd"
    refine ⟨t1, fun fb cb H2 e2 n2 t2 fb0 hfb hcb => ?_⟩
    have x2 : Xt H1 H2 := ⟨e2, n2⟩
    have x12 := x1.trans x2
    walk_at "rd"
    obtain ⟨dx, l0, m0, ls, nss, h1, _⟩ := (hh.xt x12).ex
    obtain ⟨cl1, ecl1⟩ : ∃ cl, cl = cloFrom (cxOf CX0 P w K mg base ["house", "word_in", "tops_in", "build_block", "build_blocks"] "build_form" (defScope sBf) f (.ref co) A0 outer s H E).nox.env.cells (C8.fnScope sBbs).names [] := ⟨_, rfl⟩
    obtain ⟨cl2, ecl2⟩ : ∃ cl, cl = cloFrom (cxOf CX0 P w K mg base ["house", "word_in", "tops_in", "build_block", "build_blocks"] "build_form" (defScope sBf) f (.ref co) A0 outer s H E).nox.env.cells (C8.fnScope sBbk).names [] := ⟨_, rfl⟩
    have ks : FnC H1 fs (nfBbs cl1 cs) := ⟨by rw [ecl1]; exact hfs, by rw [ecl1]; exact hcs⟩
    have kb : FnC H2 fb (nfBbk cl2 cb) := ⟨by rw [ecl2]; exact hfb, by rw [ecl2]; exact hcb⟩
    have ks2 := ks.xt x2
    clear hfs hcs hfb hcb
    refine ⟨fs, nfBbs cl1 cs, rfl, ks2.fn, ?_⟩
    walk_at "rd"
    refine ⟨C, dx, _, h1, U.cl, U.nR, .int r, hf_rooms _ _ _, r, rfl, RgOk.of_le (by omega) (by omega) (by omega) (by omega), fun q nq => ?_⟩
    rw [rgV_rg]
    have s3 := same_upd (o := HO.lst ((rg r).map V.int)) nq
    have hq := upd_same (H := H2) (a := q) (o := HO.lst ((rg r).map V.int))
    generalize upd H2 q (HO.lst ((rg r).map V.int)) = H3 at s3 hq ⊢
    have ks3 := ks2.same s3
    have kb3 := kb.same s3
    have x3 := x12.trans (.of s3)
    refine ⟨ks3.fn, ks3.cd, fun b2 sb ok ci => ?_⟩
    have md : L2.Mod K mg base := ok.mod
    have CB : CellsB b2 cl1 ["build_block", "house"] [.ref fb, .ref p] := by
      rw [ecl1]
      exact cellsB_of (js := [3, 0]) ok ci scBbs.ndn scBbs.free scBbs.frk (fun y hy => ⟨(show ∀ y ∈ (["build_block", "house"] : List Str), (defScope sBf).names.lookup y = some .cell by decide +kernel) y hy, rfl⟩) rfl rfl
    have CB2 : CellsB b2 cl2 ["build_blocks", "tops_in", "word_in"] [.ref fs, .ref ta, .ref wa] := by
      rw [ecl2]
      exact cellsB_of (js := [4, 2, 1]) ok ci scBbk.ndn scBbk.free scBbk.frk (fun y hy => ⟨(show ∀ y ∈ (["build_blocks", "tops_in", "word_in"] : List Str), (defScope sBf).names.lookup y = some .cell by decide +kernel) y hy, rfl⟩) rfl rfl
    refine ⟨_, clb_bf (c := cs) (c2 := cb) (own := own) T r12 (by decide) (d_pieces.up md sb) CB CB2 (fun H H' a b => ivX H H' a (.of b)) (Cw.up md sb) (Ct.up md sb) hT 12 (by decide), ?_⟩
    refine ⟨q, rg r, rfl, hq, by rw [rg_len]; omega, fun y hy => ?_, ⟨hh.xt x3, ivX _ _ iv x3, ks3, kb3, fw.xt x3, ft.xt x3⟩, fun v H4 s4 fm => ?_⟩
    · unfold rg at hy
      obtain ⟨k, hk, rfl⟩ := List.mem_map.mp hy
      have h9 := List.mem_range.mp hk
      exact ⟨Int.natCast_nonneg k, Int.ofNat_lt.mpr h9⟩
    · exact ret v H4 (x3.trans (.of s4)) (tabs_same (tabs_same t2 s3) s4) fm
end

/-! ### form_of -/
abbrev sFo : Stmt := topS 21
abbrev sWi : Stmt := ((defBody sFo).drop 1).headD (.Pass ⟨0, 0, 0, 0⟩)
abbrev sTi : Stmt := ((defBody sFo).drop 2).headD (.Pass ⟨0, 0, 0, 0⟩)
def nmFo : Nat → Nat → Str := fun line _ => if line = stLine sWi then "form_of.<locals>.word_in" else "form_of.<locals>.tops_in"
theorem hnWi : ∀ c, nmFo (stLine sWi) c = (("form_of" : Str) ++ ".<locals>.") ++ "word_in" := fun c => by
  unfold nmFo
  rw [if_pos rfl]
  decide +kernel
theorem hnTi : ∀ c, nmFo (stLine sTi) c = (("form_of" : Str) ++ ".<locals>.") ++ "tops_in" := fun c => by
  unfold nmFo
  rw [if_neg (by decide +kernel)]
  decide +kernel
theorem hfWi : NdefX.ndefB (defScope sFo) (C8.fnScope sWi) ["calls"] = true := by decide +kernel
theorem hfTi : NdefX.ndefB (defScope sFo) (C8.fnScope sTi) ["calls", "house"] = true := by decide +kernel
theorem scWi : NSc ["part", "calls"] ["part"] ["calls"] (defScope sWi) := nsc_by (by decide +kernel)
theorem scTi : NSc ["part", "calls", "house"] ["part"] ["calls", "house"] (defScope sTi) := nsc_by (by decide +kernel)
abbrev nfWi (cl : List (Str × Addr)) (c : Addr) : NdefX.NF := NdefX.NF.of sWi "word_in" ((("form_of" : Str) ++ ".<locals>.") ++ "word_in") cl c
abbrev nfTi (cl : List (Str × Addr)) (c : Addr) : NdefX.NF := NdefX.NF.of sTi "tops_in" ((("form_of" : Str) ++ ".<locals>.") ++ "tops_in") cl c
theorem lastF_alk (D : List Pr) (R : List Int) (L : List Cl) : AlkP D R (lastF L) L := fun Q _ _ => wordP_last L Q
/-- what the inner defs lean on: the house and the last calls -/
structure FoIv (H : Hp) (C p g : Addr) (r : Nat) (D : List Pr) (own : List Addr) (gs : List V) (L : List Cl) : Prop where
  hh : HouseAt C H p r D own
  hg : H g = some (.lst gs)
  lg : LG H gs L
theorem FoIv.xt {H H' : Hp} {C p g : Addr} {r : Nat} {D : List Pr} {own : List Addr} {gs : List V} {L : List Cl} (h : FoIv H C p g r D own gs L) (x : Xt H H') : FoIv H' C p g r D own gs L := ⟨h.hh.xt x, x.lst h.hg, h.lg.kt (KT.xt x)⟩
section
variable {P : Program} {w : World} {K : PySem.W.Frag} {mg : Str → Option Value} {base : Heap}
theorem scFo : FnScope ["house", "log", "word_in", "tops_in", "calls"] ["house", "log"] (defScope sFo) := ⟨rfl, rfl, rfl, by decide +kernel, rfl, by decide +kernel, by decide +kernel⟩
theorem clb_wi {C p g wa fW : Addr} {r : Nat} {D : List Pr} {own : List Addr} {gs : List V} {L : List Cl} {cl : List (Str × Addr)} {c : Addr} {fdW : FuncData} (d_word_of : Df P w K mg base "word_of" ["log", "rooms"] 2 (spTopR K optW) fW fdW) (CB : CellsB base cl ["calls"] [.ref g]) :
    Clb P w K mg base 20 wa (nfWi cl c) 1 (spWrd (fun H => FoIv H C p g r D own gs L) D r (wordP L)) := by
  refine clb_of (k := 19) (N := ["part", "calls"]) (ps := ["part"]) (F := nfWi cl c) scWi CB (fun _ _ _ us hl => match us, hl with | [_], _ => rfl) (fun vs H Q E h => ?_) (fun A0 outer s H vs Q E hr hf hc h => ?_)
  · obtain ⟨o, R, rfl, _⟩ := h
    rfl
  · obtain ⟨o, R, rfl, ho, hR, iv, ret⟩ := h
    refine ⟨_, (pss_one (ps_ret (pe_call d_word_of.ok (hr.mono (by decide)) (by rfl) d_word_of.at_ d_word_of.kp d_word_of.b .nil pass0 (pa_cons (pv 1) (pa_cons (pv 0) pa_nil))))), ?_⟩
    simp only [cxcK, cxcK2, cxcP, cxcW, cxcM, cxcB, startC]
    walk_at "rd"
    refine ⟨g, o, gs, L, R, rfl, iv.hg, iv.lg, .inr (SqT.of ho), ?_⟩
    rw [optW_S]
    exact ret H (Same.refl _)
theorem clb_ti {C p g ta fK : Addr} {r : Nat} {D : List Pr} {own : List Addr} {gs : List V} {L : List Cl} {cl : List (Str × Addr)} {c : Addr} {fdK : FuncData} (T : Bi mg) (r12 : r ≤ 12) (d_called_keepers : Df P w K mg base "called_keepers" ["house", "calls", "part"] 17 (spCke C 12) fK fdK) (CB : CellsB base cl ["calls", "house"] [.ref g, .ref p]) :
    Clb P w K mg base 20 ta (nfTi cl c) 1 (spTps (fun H => FoIv H C p g r D own gs L) D r (wordP L) (fun R => upF (keepL D L 12 R))) := by
  refine clb_of (k := 19) (N := ["part", "calls", "house"]) (ps := ["part"]) (F := nfTi cl c) scTi CB (fun _ _ _ us hl => match us, hl with | [_], _ => rfl) (fun vs H Q E h => ?_) (fun A0 outer s H vs Q E hr hf hc h => ?_)
  · obtain ⟨o, R, z, rfl, _⟩ := h
    rfl
  · obtain ⟨o, R, z, rfl, ho, hR, hw, iv, ret⟩ := h
    have Rl := hR.len
    refine ⟨_, (pss_one (ps_ret (pe_callTy call_tuple_of (by rfl) T.tuple (by decide +kernel) (pa_cons (pe_callB cr_sorted (by rfl) T.sorted (by decide +kernel) (pa_cons (pe_call d_called_keepers.ok (hr.mono (by decide)) (by rfl) d_called_keepers.at_ d_called_keepers.kp d_called_keepers.b .nil pass0 (pa_cons (pv 2) (pa_cons (pv 1) (pa_cons (pv 0) pa_nil)))) pa_nil)) pa_nil)))), ?_⟩
    simp only [cxcK, cxcK2, cxcP, cxcW, cxcM, cxcB, startC]
    walk_at "rd"
    refine ⟨p, g, o, gs, L, R, r, D, own, rfl, iv.hh, iv.hg, iv.lg, ho, by omega, by decide, hR.1.1, hR.2, ⟨z, hw⟩, fun t H1 s1 nt ht => ?_⟩
    have kl := keepL_len (D := D) (L := L) 12 R
    walk_at "rd"
    refine ⟨_, _, rfl, SqL.of ht, by omega, fun ys t2 pm so nt2 => ?_⟩
    have ey : ys = upF (keepL D L 12 R) := (upF_eq (up_of pm (keepL_nd 12 R) so) fun x => pm.mem_iff).symm
    have s2 := same_upd (o := HO.lst (ys.map V.int)) nt2
    have ht2 := upd_same (H := H1) (a := t2) (o := HO.lst (ys.map V.int))
    generalize upd H1 t2 (HO.lst (ys.map V.int)) = H2 at s2 ht2 ⊢
    refine ⟨t2, rfl, _, .inl ⟨SqL.of ht2, fun t3 nt3 => ?_⟩⟩
    exact ret t3 _ ((s1.trans s2).trans (same_upd nt3)) (by rw [upd_same, ey])
def spFo (C : Addr) (Tb : List NdefX.NTab) : Sp := fun vs H Q _ => ∃ (p l : Addr) (r : Nat) (D : List Pr) (own : List Addr) (us : List V) (L : List Cl), vs = [.ref p, .ref l] ∧ HouseAt C H p r D own ∧ H l = some (.lst us) ∧ LG H us L ∧ L.length ≤ 1000 ∧ NdefX.TabsN Tb H ∧
  ∀ v H', Xt H H' → NdefX.TabsN Tb H' → FormAt H' 12 v (formF D r L) → Q v H'
theorem ok_fo {f C fL fW fK fP fb co tb cob tbb : Addr} {fd fdL fdW fdK fdP fdb : FuncData} {Tb : List NdefX.NTab} (F : FunC K "form_of" "form_of" sFo f fd co) (T : Bi mg) (U : Hs K mg C) (TB : LamX.TabB base mg co tb) (hm : (tb, nmFo) ∈ Tb) (hu : ∀ p ∈ Tb, p.1 = tb → p.2 = nmFo) (FB : Fd K mg "build_form" ["house", "word_in", "tops_in"] sBf fb fdb cob) (TBb : LamX.TabB base mg cob tbb) (hmb : (tbb, nmBf) ∈ Tb) (hub : ∀ p ∈ Tb, p.1 = tbb → p.2 = nmBf)
    (d_last_calls : Df P w K mg base "last_calls" ["log"] 1 spLast fL fdL) (d_word_of : Df P w K mg base "word_of" ["log", "rooms"] 2 (spTopR K optW) fW fdW) (d_called_keepers : Df P w K mg base "called_keepers" ["house", "calls", "part"] 17 (spCke C 12) fK fdK) (d_pieces : Df P w K mg base "pieces" ["house", "rooms"] 4 (spPcs K C) fP fdP) : FnOk P w K mg base CX0 50 f fd ["house", "log"] (spFo C Tb) := by
  refine F.ok scFo (fun vs H Q E h => ?_) (fun A0 outer s H vs Q E hr h => ?_)
  · obtain ⟨p, l, r, D, own, us, L, rfl, _⟩ := h
    rfl
  · obtain ⟨p, l, r, D, own, us, L, rfl, hh, hl, lg, ll, hTb, ret⟩ := h
    have r12 := hh.r12
    refine ⟨_, (pss_cons (ps_set (i := 4) scFo.nd rfl (Or.inr rfl) (pe_call d_last_calls.ok (hr.mono (by decide)) (by rfl) d_last_calls.at_ d_last_calls.kp d_last_calls.b .nil pass0 (pa_cons (pv 1) pa_nil)))
      (pss_cons (NdefX.ps_ndefMS (st := sWi) (T := Tb) (nm := nmFo) (c := co) (P := tb) (i := 2) rfl TB rfl hm (hnWi _) hu (NdefX.ndef_free hfWi) rfl rfl rfl scFo.nd rfl (Or.inl rfl) (Or.inr rfl))
      (pss_cons (NdefX.ps_ndefMS (st := sTi) (T := Tb) (nm := nmFo) (c := co) (P := tb) (i := 3) rfl TB rfl hm (hnTi _) hu (NdefX.ndef_free hfTi) rfl rfl rfl scFo.nd rfl (Or.inl rfl) (Or.inr rfl))
      (pss_one (ps_ret (pe_callU (k := 48) (sp := spBf P w K mg C Tb) (fun b2 sb md => ok_bf (base := b2) FB.fn T U (TabB.up sb TBb) hmb hub (d_pieces.up md sb)) (hr.mono (by decide)) (by rfl) FB.at_ FB.kp FB.b (pa_cons (pv 0) (pa_cons (pv 2) (pa_cons (pv 3) pa_nil))))))))), ?_⟩
    walk_at "rd"
    refine ⟨l, us, L, rfl, hl, lg, ll, fun gs g H1 s1 ng hg lgs => ?_⟩
    have x1 : Xt H H1 := .of s1
    refine ⟨tabs_same hTb s1, fun wa cw H2 e2 n2 t2 wa0 hwa hcw => ?_⟩
    have x2 : Xt H1 H2 := ⟨e2, n2⟩
    walk_at "rd"
    refine ⟨t2, fun ta ct H3 e3 n3 t3 ta0 hta hct => ?_⟩
    have x3 : Xt H2 H3 := ⟨e3, n3⟩
    have x23 := x2.trans x3
    have x13 := x1.trans x23
    obtain ⟨cl1, ecl1⟩ : ∃ cl, cl = cloFrom (cxOf CX0 P w K mg base ["house", "log", "word_in", "tops_in", "calls"] "form_of" (defScope sFo) f (.ref co) A0 outer s H E).nox.env.cells (C8.fnScope sWi).names [] := ⟨_, rfl⟩
    obtain ⟨cl2, ecl2⟩ : ∃ cl, cl = cloFrom (cxOf CX0 P w K mg base ["house", "log", "word_in", "tops_in", "calls"] "form_of" (defScope sFo) f (.ref co) A0 outer s H E).nox.env.cells (C8.fnScope sTi).names [] := ⟨_, rfl⟩
    have kw : FnC H2 wa (nfWi cl1 cw) := ⟨by rw [ecl1]; exact hwa, by rw [ecl1]; exact hcw⟩
    have kt : FnC H3 ta (nfTi cl2 ct) := ⟨by rw [ecl2]; exact hta, by rw [ecl2]; exact hct⟩
    clear hwa hcw hta hct
    walk_at "rd"
    refine ⟨.ref p, rfl, .ref wa, rfl, .ref ta, rfl, fun b2 sb ok ci => ?_⟩
    have md : L2.Mod K mg base := ok.mod
    have CB : CellsB b2 cl1 ["calls"] [.ref g] := by
      rw [ecl1]
      exact cellsB_of (js := [4]) ok ci scWi.ndn scWi.free scWi.frk (fun y hy => ⟨(show ∀ y ∈ (["calls"] : List Str), (defScope sFo).names.lookup y = some .cell by decide +kernel) y hy, rfl⟩) rfl rfl
    have CB2 : CellsB b2 cl2 ["calls", "house"] [.ref g, .ref p] := by
      rw [ecl2]
      exact cellsB_of (js := [4, 0]) ok ci scTi.ndn scTi.free scTi.frk (fun y hy => ⟨(show ∀ y ∈ (["calls", "house"] : List Str), (defScope sFo).names.lookup y = some .cell by decide +kernel) y hy, rfl⟩) rfl rfl
    have iv : FoIv H1 C p g r D own gs (lastF L) := ⟨hh.same s1, hg, lgs⟩
    refine ⟨p, wa, ta, r, D, own, fun H => FoIv H C p g r D own gs (lastF L), wordP (lastF L), fun R => upF (keepL D (lastF L) 12 R), nfWi cl1 cw, nfTi cl2 ct, rfl, hh.xt x13, iv.xt x23, fun _ _ a b => a.xt b, kw.xt x3, kt, clb_wi (d_word_of.up md sb) CB, clb_ti T r12 (d_called_keepers.up md sb) CB2, fun R z hR hw => ?_, t3, fun v H4 x4 tt4 fm => ?_⟩
    · have Rl := hR.len
      refine ⟨Nat.le_trans (upF_len _) (Nat.le_trans (keepL_len 12 R) (by omega)), ?_⟩
      obtain ⟨x, xP, xk⟩ := keepL_ne (D := D) (n := 11) hw
      exact ⟨x, xP, (upF_mem _ _).mpr xk⟩
    · refine ret v H4 (x13.trans x4) tt4 ?_
      rw [frmF_blk] at fm
      have e : formF D r (lastF L) = formF D r L := form_alk r12 (lastF_alk D _ L)
      unfold formF at e ⊢
      rw [← e]
      exact fm
end

/-! ### a law's end with tables of code objects -/
section
variable {P : Program} {w : World} {K : PySem.W.Frag} {mg : Str → Option Value} {base : Heap} {k : Nat} {f : Addr} {fd : FuncData} {ps : List Str} {sp : Sp}
/-- the promise, asked where the tables are empty -/
def spUn : List Addr → Sp → Sp
  | [], sp => sp
  | a :: as, sp => fun vs H Q E => H a = some (.tbl #[]) ∧ spUn as sp vs (upd H a (TbO a)) (fun v H' => H' a = some (TbO a) ∧ ∀ tb' : Array Value, Q v (upd H' a (.tbl tb'))) E
theorem FnOk.untbs (F : FnOk P w K mg base CX0 k f fd ps sp) : ∀ as : List Addr, FnOk P w K mg base CX0 k f fd ps (spUn as sp)
  | [] => F
  | a :: as => FnOk.untb a (FnOk.untbs F as)
/-- a law's promise, its tables told as tables -/
def spLawT (K : PySem.W.Frag) (as : List Addr) : Sp := fun vs H Q _ => ∃ (a : Addr) (ns : List Int), vs = [.ref a] ∧ SqL K H a (ns.map V.int) ∧ ns.length ≤ 63 ∧ (∀ t ∈ as, H t = some (TbO t)) ∧ ∀ H', Same H H' → Q (.bl true) H'
theorem sqL_updT {H : Hp} {a t : Addr} {xs : List V} {o : HO} {tb : Array Value} (h : SqL K H a xs) (ht : H t = some (.tbl tb)) : SqL K (upd H t o) a xs := by
  rcases h with (h | ⟨ob, h⟩) | h
  · refine .inl (.inl ?_)
    rw [upd_ne fun z => by rw [z, ht] at h; cases h]
    exact h
  · refine .inl (.inr ⟨ob, ?_⟩)
    rw [upd_ne fun z => by rw [z, ht] at h; cases h]
    exact h
  · exact .inr h
theorem spUn_law {all : List Addr} {l : Addr} {ns : List Int} (l63 : ns.length ≤ 63) {E : XK} : ∀ (as done : List Addr) (H : Hp) (Q : VK), (∀ t ∈ all, t ∈ as ∨ t ∈ done) → (∀ t ∈ as, H t = some (.tbl #[])) → as.Nodup → (∀ t ∈ as, t ∉ done) → (∀ t ∈ done, H t = some (TbO t)) → SqL K H l (ns.map V.int) →
    (∀ H' : Hp, (∀ t ∈ done, H' t = some (TbO t)) → Q (.bl true) H') → spUn as (spLawT K all) [.ref l] H Q E
  | [], done, H, Q, hall, _, _, _, hd, hS, q => ⟨l, ns, rfl, hS, l63, fun t ht => hd t ((hall t ht).resolve_left (by intro z; cases z)), fun H' s => q H' fun t ht => s _ _ (hd t ht)⟩
  | a :: as, done, H, Q, hall, hT, nd, nn, hd, hS, q => by
    have ha := hT a List.mem_cons_self
    obtain ⟨n1, n2⟩ := List.nodup_cons.mp nd
    have nad : a ∉ done := nn a List.mem_cons_self
    refine ⟨ha, spUn_law l63 as (a :: done) _ _ (fun t ht => ?_) (fun t ht => ?_) n2 (fun t ht => ?_) (fun t ht => ?_) (sqL_updT hS ha) fun H' h' => ⟨h' a List.mem_cons_self, fun tb' => q _ fun t ht => ?_⟩⟩
    · rcases hall t ht with z | z
      · rcases List.mem_cons.mp z with rfl | z
        · exact .inr List.mem_cons_self
        · exact .inl z
      · exact .inr (List.mem_cons_of_mem _ z)
    · rw [upd_ne fun z => n1 (by rw [← z]; exact ht)]
      exact hT t (List.mem_cons_of_mem _ ht)
    · intro z
      rcases List.mem_cons.mp z with rfl | z
      · exact n1 ht
      · exact nn t (List.mem_cons_of_mem _ ht) z
    · rcases List.mem_cons.mp ht with rfl | ht
      · exact upd_same
      · rw [upd_ne fun z => nad (by rw [← z]; exact ht)]
        exact hd t ht
    · rw [upd_ne fun z => nad (by rw [← z]; exact ht)]
      exact h' t (List.mem_cons_of_mem _ ht)
end
/-- a def's code object and its table, at a law's head -/
structure TabH (q : Program) (K : Params → PySem.W.Frag) (x : Str) (c t : Addr) : Prop where
  rec_ : ∃ d, (recsOf q).find? (fun e => e.name == x) = some d
  tab : ∀ w : World, PySem.W.tabIn (K w.params) x = some (c, t)
  out : ∀ w : World, (K w.params).lookup t = none
theorem TabH.of {q : Program} {K : Params → PySem.W.Frag} {x : Str} {f c t : Addr} {oc oc2 : Value} {od od2 : Option Addr} {sl sl2 : Array (Option Value)} {fd : FuncData} {vs : Array Value} (r : ((recsOf q).find? (fun e => e.name == x)).isSome = true)
    (n : ∀ w : World, PySem.W.nsIn (K w.params) mainGlobals x = some (some (.ref f))) (l : ∀ w : World, (K w.params).lookup f = some ⟨oc, od, .func fd, sl⟩) (e : fd.code = .ref c) (l2 : ∀ w : World, (K w.params).lookup c = some ⟨oc2, od2, .fields vs, sl2⟩) (v : vs[11]? = some (.ref t)) (o : ∀ w : World, (K w.params).lookup t = none) : TabH q K x c t :=
  ⟨Option.isSome_iff_exists.mp r, fun w => by unfold PySem.W.tabIn; rw [n w]; simp only [l w, e, l2 w, v], o⟩
theorem walkT {l : PySem.W.OpenLaw} {k : Nat} {q : Program} {loose : List Str} {XP : (Str → Option Value) → Heap → Prop} {YP : World → Heap → Prop} {d : DefRec} {K : Params → PySem.W.Frag} {cs : List (Addr × Addr)} (hn : l.most = some 63) (hdf : d.params.defaults = []) (hr : Room k callerA)
    (hY : ∀ (w : World) (h : Heap), YP w h → (K w.params).In h) (nd : (cs.map (·.2)).Nodup) (ht : ∀ p ∈ cs, ∃ x, TabH q K x p.1 p.2)
    (F : ∀ (w : World) (mg : Str → Option Value) (fa : Addr) (h : Heap), (K w.params).In h → h.Ns mainGlobals mg → mg d.name = some (.ref fa) →
      ∃ fd : FuncData, (∀ (s : Shared) (u : Value), BindsTo s fd ⟨[u], []⟩ [("script", u)]) ∧ ∀ base : Heap, (K w.params).In base → base.Ns mainGlobals mg → (∀ p ∈ cs, LamX.TabB base mg p.1 p.2) → FnOk l.prog w (K w.params) mg base CX0 k fa fd ["script"] (spLawT (K w.params) (cs.map (·.2)))) :
    PySem.W.WalkO q loose XP YP l.row.toRowW d [] (fun f vs => PySem.call f vs) := by
  refine Att.attach_callB hn hdf fun w s₀ s₁ mg mb fa o pm cd doc a vs ns G Y ho hd hcd hmg hobj hints hlen hbits hg => ?_
  have KX := hY w _ Y
  obtain ⟨fd, hb, hF⟩ := F w mg fa _ KX G.T.g hmg
  have ts : ∀ p ∈ cs, PySem.W.CodeHd s₁.heap p.1 p.2 ∧ s₁.heap.get? p.2 = some { cls := .none, data := .fields #[] } := fun p hp => by
    obtain ⟨x, h⟩ := ht p hp
    obtain ⟨dd, hdd⟩ := h.rec_
    exact PySem.W.tab_of G.T KX hdd (h.tab w)
  refine LamX.law_callTs (cs := cs) KX G.T.g G.T.b G.T.builtins G.T.nolimit hg (fun p hp => (ts p hp).2) (fun p hp => by obtain ⟨x, h⟩ := ht p hp; exact h.out w) (fun p hp => (ts p hp).1) G.T.bmain hobj hints (Nat.le_trans hlen (by decide)) hr
    (fun base h1 h2 h3 => FnOk.untbs (hF base h1 h2 h3) (cs.map (·.2))) hb (fun H hH hS => ?_) fun H e s' z => z
  refine spUn_law hlen (cs.map (·.2)) [] H (fun v _ => v = V.bl true) (fun t h => .inl h) (fun t h => ?_) nd (fun t _ z => by cases z) (fun t z => by cases z) hS fun H' _ => rfl
  obtain ⟨p, hp, rfl⟩ := List.mem_map.mp h
  exact hH p hp

/-! ### a law's end with tables, some told as tables, some as they are -/
section
variable {P : Program} {w : World} {K : PySem.W.Frag} {mg : Str → Option Value} {base : Heap}
def spLawM (K : PySem.W.Frag) (as bs : List Addr) : Sp := fun vs H Q _ => ∃ (a : Addr) (ns : List Int), vs = [.ref a] ∧ SqL K H a (ns.map V.int) ∧ ns.length ≤ 63 ∧ (∀ t ∈ as, H t = some (TbO t)) ∧ (∀ t ∈ bs, H t = some (.tbl #[])) ∧ ∀ H', Xt H H' → Q (.bl true) H'
theorem spUnM_law {all bs : List Addr} {l : Addr} {ns : List Int} (l63 : ns.length ≤ 63) {E : XK} : ∀ (as done : List Addr) (H : Hp) (Q : VK), (∀ t ∈ all, t ∈ as ∨ t ∈ done) → (∀ t ∈ as, H t = some (.tbl #[])) → as.Nodup → (∀ t ∈ as, t ∉ done) → (∀ t ∈ done, H t = some (TbO t)) → (∀ t ∈ bs, H t = some (.tbl #[])) → (∀ t ∈ bs, t ∉ as) →
    SqL K H l (ns.map V.int) → (∀ H' : Hp, (∀ t ∈ done, H' t = some (TbO t)) → Q (.bl true) H') → spUn as (spLawM K all bs) [.ref l] H Q E
  | [], done, H, Q, hall, _, _, _, hd, hb, _, hS, q => ⟨l, ns, rfl, hS, l63, fun t ht => hd t ((hall t ht).resolve_left (by intro z; cases z)), hb, fun H' x => q H' fun t ht => x.tb (hd t ht)⟩
  | a :: as, done, H, Q, hall, hT, nd, nn, hd, hb, nb, hS, q => by
    have ha := hT a List.mem_cons_self
    obtain ⟨n1, n2⟩ := List.nodup_cons.mp nd
    have nad : a ∉ done := nn a List.mem_cons_self
    refine ⟨ha, spUnM_law l63 as (a :: done) _ _ (fun t ht => ?_) (fun t ht => ?_) n2 (fun t ht => ?_) (fun t ht => ?_) (fun t ht => ?_) (fun t ht z => nb t ht (List.mem_cons_of_mem _ z)) (sqL_updT hS ha) fun H' h' => ⟨h' a List.mem_cons_self, fun tb' => q _ fun t ht => ?_⟩⟩
    · rcases hall t ht with z | z
      · rcases List.mem_cons.mp z with e | z
        · exact .inr (by rw [e]; exact List.mem_cons_self)
        · exact .inl z
      · exact .inr (List.mem_cons_of_mem _ z)
    · rw [upd_ne fun z => n1 (by rw [← z]; exact ht)]
      exact hT t (List.mem_cons_of_mem _ ht)
    · intro z
      rcases List.mem_cons.mp z with e | z
      · exact n1 (by rw [← e]; exact ht)
      · exact nn t (List.mem_cons_of_mem _ ht) z
    · rcases List.mem_cons.mp ht with e | ht
      · rw [e]
        exact upd_same
      · rw [upd_ne fun z => nad (by rw [← z]; exact ht)]
        exact hd t ht
    · rw [upd_ne fun z => nb t ht (by rw [z]; exact List.mem_cons_self)]
      exact hb t ht
    · rw [upd_ne fun z => nad (by rw [← z]; exact ht)]
      exact h' t (List.mem_cons_of_mem _ ht)
end
theorem walkM {l : PySem.W.OpenLaw} {k : Nat} {q : Program} {loose : List Str} {XP : (Str → Option Value) → Heap → Prop} {YP : World → Heap → Prop} {d : DefRec} {K : Params → PySem.W.Frag} {cs ds : List (Addr × Addr)} (hn : l.most = some 63) (hdf : d.params.defaults = []) (hr : Room k callerA)
    (hY : ∀ (w : World) (h : Heap), YP w h → (K w.params).In h) (nd : ((cs ++ ds).map (·.2)).Nodup) (ht : ∀ p ∈ cs ++ ds, ∃ x, TabH q K x p.1 p.2)
    (F : ∀ (w : World) (mg : Str → Option Value) (fa : Addr) (h : Heap), (K w.params).In h → h.Ns mainGlobals mg → mg d.name = some (.ref fa) →
      ∃ fd : FuncData, (∀ (s : Shared) (u : Value), BindsTo s fd ⟨[u], []⟩ [("script", u)]) ∧ ∀ base : Heap, (K w.params).In base → base.Ns mainGlobals mg → (∀ p ∈ cs ++ ds, LamX.TabB base mg p.1 p.2) → FnOk l.prog w (K w.params) mg base CX0 k fa fd ["script"] (spLawM (K w.params) (cs.map (·.2)) (ds.map (·.2)))) :
    PySem.W.WalkO q loose XP YP l.row.toRowW d [] (fun f vs => PySem.call f vs) := by
  refine Att.attach_callB hn hdf fun w s₀ s₁ mg mb fa o pm cd doc a vs ns G Y ho hd hcd hmg hobj hints hlen hbits hg => ?_
  have KX := hY w _ Y
  obtain ⟨fd, hb, hF⟩ := F w mg fa _ KX G.T.g hmg
  have tabs : ∀ p ∈ cs ++ ds, PySem.W.CodeHd s₁.heap p.1 p.2 ∧ s₁.heap.get? p.2 = some { cls := .none, data := .fields #[] } := fun p hp => by
    obtain ⟨x, h⟩ := ht p hp
    obtain ⟨rc, hrc⟩ := h.rec_
    exact PySem.W.tab_of G.T KX hrc (h.tab w)
  rw [List.map_append] at nd
  obtain ⟨nd1, _, nd3⟩ := List.nodup_append.mp nd
  refine LamX.law_callTs (cs := cs ++ ds) KX G.T.g G.T.b G.T.builtins G.T.nolimit hg (fun p hp => (tabs p hp).2) (fun p hp => by obtain ⟨x, h⟩ := ht p hp; exact h.out w) (fun p hp => (tabs p hp).1) G.T.bmain hobj hints (Nat.le_trans hlen (by decide)) hr
    (fun base h1 h2 h3 => FnOk.untbs (hF base h1 h2 h3) (cs.map (·.2))) hb (fun H hH hS => ?_) fun H e s' z => z
  refine spUnM_law hlen (cs.map (·.2)) [] H (fun v _ => v = V.bl true) (fun t h => .inl h) (fun t h => ?_) nd1 (fun t _ z => by cases z) (fun t z => by cases z) (fun t h => ?_) (fun t h z => nd3 t z t h rfl) hS fun H' _ => rfl
  · obtain ⟨p, hp, rfl⟩ := List.mem_map.mp h
    exact hH p (List.mem_append_left _ hp)
  · obtain ⟨p, hp, rfl⟩ := List.mem_map.mp h
    exact hH p (List.mem_append_right _ hp)
/-- two tables of nested defs -/
theorem tabs2 {t1 t2 : Addr} {n1 n2 : Nat → Nat → Str} {H : Hp} (h1 : H t1 = some (.tbl #[])) (h2 : H t2 = some (.tbl #[])) : NdefX.TabsN [(t1, n1), (t2, n2)] H := fun p hp => by
  rcases List.mem_cons.mp hp with e | hp
  · rw [e]
    exact NdefX.TabN.nil h1
  · rw [List.mem_singleton.mp hp]
    exact NdefX.TabN.nil h2
theorem hu21 {t1 t2 : Addr} {n1 n2 : Nat → Nat → Str} (ne : t1 ≠ t2) : ∀ p ∈ [(t1, n1), (t2, n2)], p.1 = t1 → p.2 = n1 := fun p hp e => by
  rcases List.mem_cons.mp hp with z | hp
  · rw [z]
  · rw [List.mem_singleton.mp hp] at e
    exact absurd e.symm ne
theorem hu22 {t1 t2 : Addr} {n1 n2 : Nat → Nat → Str} (ne : t1 ≠ t2) : ∀ p ∈ [(t1, n1), (t2, n2)], p.1 = t2 → p.2 = n2 := fun p hp e => by
  rcases List.mem_cons.mp hp with z | hp
  · rw [z] at e
    exact absurd e ne
  · rw [List.mem_singleton.mp hp]

/-! ### the blocks of a form: the theory -/
def preF : Nat → List Blk → List Blk
  | 0, _ => []
  | n + 1, bs => bs.flatMap fun b => b :: preF n b.i
theorem preF_nil : ∀ n, preF n [] = []
  | 0 => rfl
  | _ + 1 => rfl
theorem preF_one (n : Nat) (b : Blk) : preF (n + 1) [b] = b :: preF n b.i := by
  show [b].flatMap _ = _
  rw [List.flatMap_cons, List.flatMap_nil, List.append_nil]
/-- the rooms of a block, in the order of its blocks -/
def rmsB (b : Blk) : List Int := (preF 13 [b]).flatMap Blk.t
theorem rmsB_eq (b : Blk) : rmsB b = b.t ++ (preF 12 b.i).flatMap Blk.t := by
  unfold rmsB
  rw [preF_one, List.flatMap_cons]
theorem blkP_none {D : List Pr} {L : List Cl} {k : Nat} {P : List Int} (e : wordP L P = none) : blkP D L k P = .mk none P [] := by
  unfold blkP
  rw [e]
theorem blkP_some {D : List Pr} {L : List Cl} {k : Nat} {P : List Int} {w : Str} (e : wordP L P = some w) : blkP D L k P = .mk (some w) (upF (keepL D L 12 P)) (blkF D L k (P.filter fun x => decide (x ∉ keepL D L 12 P))) := by
  unfold blkP
  rw [e]
theorem blkP_w {D : List Pr} {L : List Cl} {k : Nat} {P : List Int} : (blkP D L k P).w = wordP L P := by
  cases e : wordP L P with
  | none => rw [blkP_none e]; rfl
  | some w => rw [blkP_some e]; rfl
theorem pre_sub {D : List Pr} {L : List Cl} : ∀ (m k : Nat) (R : List Int), ∀ x ∈ (preF m (blkF D L k R)).flatMap Blk.t, x ∈ R
  | 0, _, _, _, h => by cases h
  | _ + 1, 0, _, _, h => by cases h
  | m + 1, k + 1, R, x, h => by
    rw [blkF_succ] at h
    obtain ⟨b, hb, hx⟩ := List.mem_flatMap.mp h
    obtain ⟨c, hc, hb⟩ := List.mem_flatMap.mp hb
    obtain ⟨P, hP, rfl⟩ := List.mem_map.mp hc
    refine (pcsF_spec D R).sub_of hP _ ?_
    cases e : wordP L P with
    | none =>
      rw [blkP_none e] at hb
      rcases List.mem_cons.mp hb with z | z
      · rw [z] at hx
        exact hx
      · rw [show (Blk.mk none P []).i = [] from rfl, preF_nil] at z
        cases z
    | some w =>
      rw [blkP_some e] at hb
      rcases List.mem_cons.mp hb with z | z
      · rw [z] at hx
        exact keepL_sub _ _ _ ((upF_mem _ _).mp hx)
      · exact (List.mem_filter.mp (pre_sub m k _ x (List.mem_flatMap.mpr ⟨b, z, hx⟩))).1
theorem pre_all {D : List Pr} {L : List Cl} : ∀ (n m k : Nat) (R : List Int), R.length ≤ n → n ≤ m → n ≤ k → ∀ x ∈ R, x ∈ (preF m (blkF D L k R)).flatMap Blk.t
  | 0, _, _, R, hR, _, _, x, hx => by
    rw [List.length_eq_zero_iff.mp (Nat.le_zero.mp hR)] at hx
    cases hx
  | n + 1, 0, _, _, _, h, _, _, _ => by cases h
  | n + 1, _ + 1, 0, _, _, _, h, _, _ => by cases h
  | n + 1, m + 1, k + 1, R, hR, hm, hk, x, hx => by
    have hs := pcsF_spec D R
    obtain ⟨P, hP, xP⟩ := hs.cov x hx
    have pl : P.length ≤ R.length := int_sub_len2 (up_nd (hs.part hP).1) (hs.sub_of hP)
    rw [blkF_succ]
    have key : ∃ b ∈ blkP D L k P :: preF m (blkP D L k P).i, x ∈ b.t := by
      cases e : wordP L P with
      | none =>
        rw [blkP_none e]
        exact ⟨_, List.mem_cons_self, xP⟩
      | some w =>
        rw [blkP_some e]
        by_cases c : x ∈ keepL D L 12 P
        · exact ⟨_, List.mem_cons_self, (upF_mem _ _).mpr c⟩
        · obtain ⟨y, yP, yk⟩ := keepL_ne (D := D) (n := 11) e
          have lt : (P.filter fun x => decide (x ∉ keepL D L 12 P)).length < P.length := filter_lt yP (by simpa using yk)
          have := pre_all (D := D) (L := L) n m k (P.filter fun x => decide (x ∉ keepL D L 12 P)) (by omega) (Nat.le_of_succ_le_succ hm) (Nat.le_of_succ_le_succ hk) x (List.mem_filter.mpr ⟨xP, decide_eq_true c⟩)
          obtain ⟨b, hb, hx⟩ := List.mem_flatMap.mp this
          exact ⟨b, List.mem_cons_of_mem _ hb, hx⟩
    obtain ⟨b, hb, hx⟩ := key
    exact List.mem_flatMap.mpr ⟨b, List.mem_flatMap.mpr ⟨_, List.mem_map.mpr ⟨P, hP, rfl⟩, hb⟩, hx⟩
theorem pre_of {D : List Pr} {L : List Cl} : ∀ (m k : Nat) (R : List Int), ∀ b ∈ preF m (blkF D L k R), ∃ k' P, b = blkP D L k' P ∧ P.Nodup ∧ ∀ x ∈ P, x ∈ R
  | 0, _, _, _, h => by cases h
  | _ + 1, 0, _, _, h => by cases h
  | m + 1, k + 1, R, b, h => by
    rw [blkF_succ] at h
    obtain ⟨c, hc, hb⟩ := List.mem_flatMap.mp h
    obtain ⟨P, hP, rfl⟩ := List.mem_map.mp hc
    have hs := pcsF_spec D R
    rcases List.mem_cons.mp hb with z | z
    · exact ⟨k, P, z, up_nd (hs.part hP).1, hs.sub_of hP⟩
    · cases e : wordP L P with
      | none =>
        rw [blkP_none e, show (Blk.mk none P []).i = [] from rfl, preF_nil] at z
        cases z
      | some w =>
        rw [blkP_some e] at z
        obtain ⟨k', P', e1, e2, e3⟩ := pre_of m k _ b z
        exact ⟨k', P', e1, e2, fun x hx => hs.sub_of hP x (List.mem_filter.mp (e3 x hx)).1⟩
theorem pre_rlen {D : List Pr} {L : List Cl} : ∀ (m k : Nat) (R : List Int), ((preF m (blkF D L k R)).flatMap Blk.t).length ≤ R.length ∧ (preF m (blkF D L k R)).length ≤ R.length
  | 0, _, _ => ⟨Nat.zero_le _, Nat.zero_le _⟩
  | _ + 1, 0, _ => ⟨Nat.zero_le _, Nat.zero_le _⟩
  | m + 1, k + 1, R => by
    have hs := pcsF_spec D R
    have key : ∀ P ∈ pcsF D R, ((blkP D L k P :: preF m (blkP D L k P).i).flatMap Blk.t).length ≤ P.length ∧ (blkP D L k P :: preF m (blkP D L k P).i).length ≤ P.length := fun P hP => by
      cases e : wordP L P with
      | none =>
        rw [blkP_none e, show (Blk.mk none P []).i = [] from rfl, preF_nil, List.flatMap_cons, List.flatMap_nil, List.append_nil]
        exact ⟨Nat.le_refl _, List.length_pos_iff.mpr (hs.ne hP)⟩
      | some w =>
        rw [blkP_some e, List.flatMap_cons, List.length_append, List.length_cons]
        obtain ⟨y, yP, yk⟩ := keepL_ne (D := D) (n := 11) e
        have h1 := keep_split P (keepL D L 12 P) (up_nd (hs.part hP).1) (keepL_sub 12 P)
        obtain ⟨h2, h3⟩ := pre_rlen (D := D) (L := L) m k (P.filter fun x => decide (x ∉ keepL D L 12 P))
        have h4 : 0 < (upF (keepL D L 12 P)).length := List.length_pos_iff.mpr fun z => by
          have := (upF_mem _ _).mpr yk
          rw [z] at this
          cases this
        exact ⟨Nat.le_trans (Nat.add_le_add_left h2 _) (by show (upF (keepL D L 12 P)).length + _ ≤ _; omega), by show (preF m (blkF D L k (P.filter fun x => decide (x ∉ keepL D L 12 P)))).length + 1 ≤ _; omega⟩
    have flat : ((pcsF D R).flatMap fun P => P).length ≤ R.length := by
      refine int_sub_len2 ?_ fun x hx => ?_
      · refine List.pairwise_flatMap.mpr ⟨fun P hP => up_nd (hs.part hP).1, List.Pairwise.imp_of_mem (fun {a b} ma mb h x hx y hy e => ?_) hs.asc⟩
        subst e
        have := hs.apart ma mb hx hy
        rw [this] at h
        omega
      · obtain ⟨P, hP, hx⟩ := List.mem_flatMap.mp hx
        exact hs.sub_of hP x hx
    have e1 : preF (m + 1) (blkF D L (k + 1) R) = (pcsF D R).flatMap fun P => blkP D L k P :: preF m (blkP D L k P).i := by
      rw [blkF_succ]
      show ((pcsF D R).map _).flatMap _ = _
      rw [List.flatMap_map]
    rw [e1, List.flatMap_assoc]
    exact ⟨Nat.le_trans (sum_flat (g := fun P => P) _ fun P hP => (key P hP).1) flat, Nat.le_trans (sum_flat (g := fun P => P) _ fun P hP => (key P hP).2) flat⟩
theorem rms_of {D : List Pr} {L : List Cl} {k : Nat} {P : List Int} (nd : P.Nodup) : (∀ x ∈ rmsB (blkP D L k P), x ∈ P) ∧ (rmsB (blkP D L k P)).length ≤ P.length := by
  rw [rmsB_eq]
  cases e : wordP L P with
  | none =>
    rw [blkP_none e, show (Blk.mk none P []).i = [] from rfl, preF_nil, List.flatMap_nil, List.append_nil]
    exact ⟨fun x hx => hx, Nat.le_refl _⟩
  | some w =>
    rw [blkP_some e]
    refine ⟨fun x hx => ?_, ?_⟩
    · rcases List.mem_append.mp hx with z | z
      · exact keepL_sub _ _ _ ((upF_mem _ _).mp z)
      · exact (List.mem_filter.mp (pre_sub 12 k _ x z)).1
    · rw [List.length_append]
      have h1 := keep_split P (keepL D L 12 P) nd (keepL_sub 12 P)
      have h2 := (pre_rlen (D := D) (L := L) 12 k (P.filter fun x => decide (x ∉ keepL D L 12 P))).1
      show (upF (keepL D L 12 P)).length + ((preF 12 (blkF D L k (P.filter fun x => decide (x ∉ keepL D L 12 P)))).flatMap Blk.t).length ≤ _
      omega
theorem rms_all {D : List Pr} {L : List Cl} {k : Nat} {P : List Int} (h12 : P.length ≤ 12) (hk : P.length ≤ k + 1) : ∀ x ∈ P, x ∈ rmsB (blkP D L k P) := fun x hx => by
  rw [rmsB_eq]
  cases e : wordP L P with
  | none =>
    rw [blkP_none e]
    exact List.mem_append_left _ hx
  | some w =>
    rw [blkP_some e]
    by_cases c : x ∈ keepL D L 12 P
    · exact List.mem_append_left _ ((upF_mem _ _).mpr c)
    · obtain ⟨y, yP, yk⟩ := keepL_ne (D := D) (n := 11) e
      have lt : (P.filter fun x => decide (x ∉ keepL D L 12 P)).length < P.length := filter_lt yP (by simpa using yk)
      exact List.mem_append_right _ (pre_all _ 12 k _ (Nat.le_refl _) (by omega) (by omega) x (List.mem_filter.mpr ⟨hx, decide_eq_true c⟩))
/-- the block holds all the rooms -/
def hldB (Q : List Int) (b : Blk) : Bool := Q.all fun x => decide (x ∈ rmsB b)
theorem hldB_iff {Q : List Int} {b : Blk} : hldB Q b = true ↔ ∀ x ∈ Q, x ∈ rmsB b := by
  unfold hldB
  rw [List.all_eq_true]
  exact ⟨fun h x hx => of_decide_eq_true (h x hx), fun h x hx => decide_eq_true (h x hx)⟩
theorem flat_last {α β : Type} {f : α → List β} : ∀ {l : List α} {a : α}, a ∈ l → (∀ b ∈ l, b ≠ a → f b = []) → (l.flatMap f).getLast? = (f a).getLast?
  | b :: l, a, m, h => by
    rw [List.flatMap_cons, List.getLast?_append]
    by_cases ml : a ∈ l
    · rw [flat_last ml fun c hc => h c (List.mem_cons_of_mem _ hc)]
      by_cases e : b = a
      · rw [e]
        cases (f a).getLast? <;> rfl
      · rw [h b List.mem_cons_self e]
        cases (f a).getLast? <;> rfl
    · rcases List.mem_cons.mp m with e | m
      · subst e
        have : l.flatMap f = [] := List.flatMap_eq_nil_iff.mpr fun c hc => h c (List.mem_cons_of_mem _ hc) fun z => ml (by rw [← z]; exact hc)
        rw [this]
        rfl
      · exact absurd m ml
/-- the last block that holds a part has its word -/
theorem small_word {D : List Pr} {L : List Cl} {Q : List Int} (hQ : Part D Q) : ∀ (n m k : Nat) (R : List Int), R.length ≤ n → n ≤ m → n ≤ k → R.length ≤ 12 → (∀ x ∈ Q, x ∈ R) → ∃ b, ((preF m (blkF D L k R)).filter (hldB Q)).getLast? = some b ∧ b.w = wordP L Q
  | 0, _, _, R, hR, _, _, _, sub => by
    obtain ⟨_, s, hs, _⟩ := hQ
    have := sub s hs
    rw [List.length_eq_zero_iff.mp (Nat.le_zero.mp hR)] at this
    cases this
  | n + 1, 0, _, _, _, h, _, _, _ => by cases h
  | n + 1, _ + 1, 0, _, _, _, h, _, _ => by cases h
  | n + 1, m + 1, k + 1, R, hR, hm, hk, h12, sub => by
    have hs := pcsF_spec D R
    obtain ⟨_, s, sQ, hr⟩ := id hQ
    obtain ⟨P, hP, sP⟩ := hs.cov s (sub s sQ)
    have QP := hs.within hQ sub hP sQ sP
    have partP := hs.part hP
    have pl : P.length ≤ R.length := int_sub_len2 (up_nd partP.1) (hs.sub_of hP)
    have e1 : preF (m + 1) (blkF D L (k + 1) R) = (pcsF D R).flatMap fun P => blkP D L k P :: preF m (blkP D L k P).i := by
      rw [blkF_succ]
      show ((pcsF D R).map _).flatMap _ = _
      rw [List.flatMap_map]
    have inP : ∀ P' : List Int, P'.Nodup → ∀ b ∈ blkP D L k P' :: preF m (blkP D L k P').i, ∀ x ∈ rmsB b, x ∈ P' := fun P' nd b hb x hx => by
      rcases List.mem_cons.mp hb with z | z
      · rw [z] at hx
        exact (rms_of nd).1 x hx
      · cases e : wordP L P' with
        | none =>
          rw [blkP_none e, show (Blk.mk none P' []).i = [] from rfl, preF_nil] at z
          cases z
        | some w =>
          rw [blkP_some e] at z
          obtain ⟨k', P2, e1, e2, e3⟩ := pre_of m k _ b z
          rw [e1] at hx
          exact (List.mem_filter.mp (e3 x ((rms_of e2).1 x hx))).1
    have none_ : ∀ P' ∈ pcsF D R, P' ≠ P → (blkP D L k P' :: preF m (blkP D L k P').i).filter (hldB Q) = [] := fun P' hP' ne => by
      rw [List.filter_eq_nil_iff]
      intro b hb h
      have := inP P' (up_nd (hs.part hP').1) b hb s (hldB_iff.mp h s sQ)
      exact ne (hs.apart hP' hP this sP)
    rw [e1, List.filter_flatMap, flat_last hP none_]
    have hold : hldB Q (blkP D L k P) = true := hldB_iff.mpr fun x hx => rms_all (by omega) (by omega) x (QP x hx)
    rw [List.filter_cons_of_pos hold]
    cases e : wordP L P with
    | none =>
      refine ⟨blkP D L k P, ?_, by rw [blkP_w, e]; exact (wordP_sub e QP).symm⟩
      rw [blkP_none e, show (Blk.mk none P []).i = [] from rfl, preF_nil]
      rfl
    | some w =>
      have ei : (blkP D L k P).i = blkF D L k (P.filter fun x => decide (x ∉ keepL D L 12 P)) := by rw [blkP_some e]; rfl
      have ki := keepL_iff 12 P w (Nat.le_trans pl h12) partP e
      by_cases hx : ∃ x ∈ Q, x ∈ keepL D L 12 P
      · obtain ⟨x, xQ, xk⟩ := hx
        refine ⟨blkP D L k P, ?_, by rw [blkP_w, e]; exact (((ki x).mp xk).2 Q hQ xQ QP).symm⟩
        have : (preF m (blkP D L k P).i).filter (hldB Q) = [] := by
          rw [ei, List.filter_eq_nil_iff]
          intro b hb h
          obtain ⟨k', P2, e1, e2, e3⟩ := pre_of m k _ b hb
          have hb2 := hldB_iff.mp h x xQ
          rw [e1] at hb2
          exact of_decide_eq_true (List.mem_filter.mp (e3 x ((rms_of e2).1 x hb2))).2 xk
        rw [this]
        rfl
      · have no : ∀ x ∈ Q, x ∉ keepL D L 12 P := fun x xQ xk => hx ⟨x, xQ, xk⟩
        obtain ⟨y, yP, yk⟩ := keepL_ne (D := D) (n := 11) e
        have lt : (P.filter fun x => decide (x ∉ keepL D L 12 P)).length < P.length := filter_lt yP (by simpa using yk)
        obtain ⟨b, h1, h2⟩ := small_word hQ n m k (P.filter fun x => decide (x ∉ keepL D L 12 P)) (by omega) (Nat.le_of_succ_le_succ hm) (Nat.le_of_succ_le_succ hk) (by omega) fun x hx => List.mem_filter.mpr ⟨QP x hx, decide_eq_true (no x hx)⟩
        refine ⟨b, ?_, h2⟩
        rw [ei, List.getLast?_cons, h1]
        rfl

/-! ### blocks, block_rooms, smallest_block, word_by_form, silent_form -/
abbrev sBlc : Stmt := topS 25
abbrev sBrm : Stmt := topS 24
theorem BlksAt.up1 {H : Hp} : ∀ {n : Nat} {xs : List V} {bs : List Blk}, BlksAt H n xs bs → BlksAt H (n + 1) xs bs
  | 0, xs, bs, h => by
    rw [h.1, h.2]
    exact ⟨Nat.zero_le _, .nil⟩
  | n + 1, xs, bs, h => ⟨h.1, Paired.mapP h.2 fun v b q => by
    obtain ⟨a, t, i, ys, e, h1, h2, h3, h4, h5⟩ := q.ex
    exact ⟨a, t, i, ys, e, h1, h2, h3, h4, BlksAt.up1 h5⟩⟩
theorem BlksAt.up {H : Hp} {n : Nat} {xs : List V} {bs : List Blk} (h : BlksAt H n xs bs) : ∀ {m : Nat}, n ≤ m → BlksAt H m xs bs
  | 0, l => by rw [Nat.le_zero.mp l] at h; exact h
  | m + 1, l => by
    by_cases e : n = m + 1
    · rw [← e]
      exact h
    · exact (BlksAt.up h (Nat.lt_succ_iff.mp (Nat.lt_of_le_of_ne l e))).up1
/-- a block of a form -/
def IsB (H : Hp) (v : V) (b : Blk) : Prop := BlkV H (BlksAt H 12) v b
theorem IsB.kt {H H' : Hp} {v : V} {b : Blk} (h : IsB H v b) (k : KT H H') : IsB H' v b := by
  obtain ⟨a, t, i, ys, e, h1, h2, h3, h4, h5⟩ := h.ex
  exact ⟨a, t, i, ys, e, k _ _ h1, k _ _ h2, h3, k _ _ h4, h5.kt k⟩
theorem BlkV.isB {H : Hp} {n : Nat} {v : V} {b : Blk} (h : BlkV H (BlksAt H n) v b) (l : n ≤ 12) : IsB H v b := by
  obtain ⟨a, t, i, ys, e, h1, h2, h3, h4, h5⟩ := h.ex
  exact ⟨a, t, i, ys, e, h1, h2, h3, h4, h5.up l⟩
theorem lc2W {wi : TI} {g : TG} {tt : TT} {wi1 : TI} {g1 : TG} {tt1 : TT} {te : TE} {vs vs1 : List Nat} {σ : L2.St} {H : Hp} {Q : VK} (h : wi σ H fun J H1 => tLc2 (fun _ H R => R J H) g tt wi1 g1 tt1 te vs vs1 σ H1 Q) : tLc2 wi g tt wi1 g1 tt1 te vs vs1 σ H Q := h
theorem lc2_blk {K : PySem.W.Frag} {a : Addr} {ws : List V} {bs : List Blk} {v : V} {H1 : Hp} {Q : VK} (ha : H1 a = some (.lst ws)) (pb : Paired (IsB H1) ws bs) (len : (bs.flatMap Blk.t).length ≤ 1000)
    (q : ∀ o H', Same H1 H' → H1 o = none → H' o = some (.lst ((bs.flatMap Blk.t).map V.int)) → Q (.ref o) H') :
    tLc2 (fun _ H R => R (Itl K a) H) (gTup K 3 (gCons (gName 1) (gCons (gName 2) (gCons (gName 1) gNil)))) tYes (iTup K (tVar 2)) (gName 3) tYes (tVar 3) [1, 2, 1, 3] [3] [some v, none, none, none] H1 Q := by
  intro D nD
  have wl := Paired.length pb
  refine ⟨fun j m Hx => m = ws.length - j ∧ j ≤ ws.length ∧ Same H1 Hx ∧ Hx D = some (.lst (((bs.take j).flatMap Blk.t).map V.int)), ⟨_, rfl, Nat.zero_le _, same_upd nD, upd_same⟩, ?_⟩
  rintro j mm Hx ⟨rfl, hj, sx, hD⟩
  by_cases lt : j < ws.length
  · refine .inr ⟨⟨ws, ws[j], SqL.of (sx _ _ ha), List.getElem?_eq_getElem lt⟩, fun H' => Same H1 H' ∧ H' D = some (.lst (((bs.take (j + 1)).flatMap Blk.t).map V.int)), fun H' q => ⟨_, by omega, rfl, lt, q.1, q.2⟩, ?_⟩
    rintro v' H' ⟨rfl, ev⟩
    have e2 := ev _ (SqL.of (sx _ _ ha))
    obtain ⟨b, gb, bv⟩ := lget pb e2
    obtain ⟨tb, tt, ti, us, rfl, h1, h2, h3, h4, h5⟩ := bv.ex
    have tk : bs.take (j + 1) = bs.take j ++ [b] := by rw [List.take_add_one, gb]; rfl
    have tl : ((bs.take j).flatMap Blk.t).length + b.t.length ≤ 1000 := by
      have e : (bs.flatMap Blk.t).length = ((bs.take (j + 1)).flatMap Blk.t).length + ((bs.drop (j + 1)).flatMap Blk.t).length := by
        rw [← List.length_append, ← List.flatMap_append, List.take_append_drop]
      rw [tk, List.flatMap_append, List.flatMap_cons, List.flatMap_nil, List.append_nil, List.length_append] at e
      omega
    rw [tk, List.flatMap_append, List.flatMap_cons, List.flatMap_nil, List.append_nil]
    refine ⟨tb, _, rfl, SqT.of (sx _ _ h1), rfl, _, _, rfl, _, _, rfl, _, _, rfl, rfl, rfl, iteT (B := True) ?_⟩
    have h2x := sx _ _ h2
    refine ⟨.ref tt, rfl, tt, rfl, ⟨_, SqT.of h2x⟩, ?_⟩
    refine ⟨fun k m Hy => m = b.t.length - k ∧ k ≤ b.t.length ∧ Same H1 Hy ∧ Hy D = some (.lst (((bs.take j).flatMap Blk.t ++ b.t.take k).map V.int)), ⟨_, rfl, Nat.zero_le _, sx, by rw [List.take_zero, List.append_nil]; exact hD⟩, ?_⟩
    rintro k mk Hy ⟨rfl, hk, sy, hDy⟩
    have h2y := sy _ _ h2
    by_cases lk : k < b.t.length
    · refine .inr ⟨⟨_, .int b.t[k], SqT.of h2y, by rw [List.getElem?_map, List.getElem?_eq_getElem lk]; rfl⟩, fun H' => Same H1 H' ∧ H' D = some (.lst (((bs.take j).flatMap Blk.t ++ b.t.take (k + 1)).map V.int)), fun H' q => ⟨_, by omega, rfl, lk, q.1, q.2⟩, ?_⟩
      rintro x H2 ⟨rfl, ev2⟩
      have e3 := ev2 _ (SqT.of h2y)
      rw [List.getElem?_map, List.getElem?_eq_getElem lk] at e3
      have e4 := Option.some.inj e3
      subst e4
      refine ⟨rfl, iteT (B := True) ?_⟩
      refine ⟨_, rfl, _, hDy, len_big (by rw [List.length_map, List.length_append, List.length_take]; omega), same_ch sy nD, ?_⟩
      rw [upd_same, List.take_add_one, List.getElem?_eq_getElem lk, ← List.append_assoc, List.map_append, List.map_append, List.map_append]
      rfl
    · refine .inl ⟨⟨_, SqT.of h2y, by rw [List.length_map]; omega⟩, sy, ?_⟩
      have et : b.t.take k = b.t := List.take_of_length_le (by omega)
      rw [et] at hDy
      exact hDy
  · refine .inl ⟨⟨ws, SqL.of (sx _ _ ha), by omega⟩, q D Hx sx nD ?_⟩
    rw [List.take_of_length_le (by omega)] at hD
    exact hD
section
variable {P : Program} {w : World} {K : PySem.W.Frag} {mg : Str → Option Value} {base : Heap}
theorem scBlc : FnScope ["form", "found", "block"] ["form"] (defScope sBlc) := ⟨rfl, rfl, rfl, by decide +kernel, rfl, by decide +kernel, by decide +kernel⟩
def spBlc (n : Nat) : Sp := fun vs H Q _ => ∃ (v : V) (bs : List Blk), vs = [v] ∧ FormAt H n v bs ∧ n ≤ 13 ∧ (preF n bs).length ≤ 1000 ∧ ∀ ws t H', Same H H' → H t = none → H' t = some (.lst ws) → Paired (IsB H') ws (preF n bs) → Q (.ref t) H'
theorem ok_blc {f : Addr} {fd : FuncData} (F : Fun K "blocks" "blocks" sBlc f fd) (T : Bi mg) (bd : Binds K fd ["form"] []) (hmg : mg "blocks" = some (.ref f)) : ∀ n, FnOk P w K mg base CX0 (n + 2) f fd ["form"] (spBlc n) := by
  intro n
  induction n with
  | zero =>
    refine F.ok scBlc (fun vs H Q E h => ?_) (fun cdv A0 outer s H vs Q E hr h => ?_)
    · obtain ⟨v, bs, rfl, _⟩ := h
      rfl
    · obtain ⟨v, bs, rfl, ⟨a, xs, rfl, ha, hx, hb⟩, _, _, ret⟩ := h
      subst hx
      subst hb
      refine ⟨_, (pss_cons (ps_set (i := 1) scBlc.nd rfl (Or.inl rfl) (pe_lst pa_nil))
      (pss_cons (ps_for PassesOwn.never rfl (pi_tup (pv 0)) (pg_name (i := 2) scBlc.nd rfl (Or.inl rfl))
      (pss_cons (ps_expr (pe_bm PySem.F.plainAttrs_list PySem.F.slot_list_append PySem.F.type_list_append mt_append (pv 1) (pa_cons (pv 2) pa_nil)))
        (pss_one (ps_never))))
      (pss_one (ps_ret (pv 1))))), ?_⟩
      walk_at "rd"
      refine ⟨Nat.zero_le _, fun cn ncn => ?_⟩
      have s1 := same_upd (o := HO.lst []) ncn
      have hcn := upd_same (H := H) (a := cn) (o := HO.lst [])
      generalize upd H cn (HO.lst []) = H1 at s1 hcn ⊢
      refine for_iterW ?_
      unfold iTup
      walk_at "rd"
      refine ⟨⟨_, SqT.of (s1 _ _ ha)⟩, for_tup (K := K) (a := a) (xs := []) (fun _ σ Hx => σ = [some (.ref a), some (.ref cn), none] ∧ Hx = H1) ⟨rfl, rfl⟩ (fun i σ Hx _ pv => by rw [pv.2]; exact SqT.of (s1 _ _ ha)) (fun i v σ Hx gv pv => by cases gv) (fun σ Hx pv => ?_)⟩
      obtain ⟨rfl, rfl⟩ := pv
      walk_at "rd"
      exact ret [] cn Hx s1 ncn hcn .nil
  | succ n ih =>
    refine F.ok scBlc (fun vs H Q E h => ?_) (fun cdv A0 outer s H vs Q E hr h => ?_)
    · obtain ⟨v, bs, rfl, _⟩ := h
      rfl
    · obtain ⟨v, bs, rfl, ⟨a, xs, rfl, ha, xl, pb⟩, n13, pl, ret⟩ := h
      refine ⟨_, (pss_cons (ps_set (i := 1) scBlc.nd rfl (Or.inl rfl) (pe_lst pa_nil))
      (pss_cons (ps_for PassesOwn.never rfl (pi_tup (pv 0)) (pg_name (i := 2) scBlc.nd rfl (Or.inl rfl))
      (pss_cons (ps_expr (pe_bm PySem.F.plainAttrs_list PySem.F.slot_list_append PySem.F.type_list_append mt_append (pv 1) (pa_cons (pv 2) pa_nil)))
        (pss_one (ps_expr (pe_bm PySem.F.plainAttrs_list PySem.F.slot_list_extend PySem.F.type_list_extend mt_extend (pv 1) (pa_cons (pe_call ih hr (by rfl) hmg F.kp bd .nil pass0 (pa_cons (pe_ix ix_tup (pv 2) pe_int (fun _ _ => rfl)) pa_nil)) pa_nil))))))
      (pss_one (ps_ret (pv 1))))), ?_⟩
      walk_at "rd"
      refine ⟨Nat.zero_le _, fun cn ncn => ?_⟩
      have s1 := same_upd (o := HO.lst []) ncn
      have hcn := upd_same (H := H) (a := cn) (o := HO.lst [])
      generalize upd H cn (HO.lst []) = H1 at s1 hcn ⊢
      have ha1 := s1 _ _ ha
      have bl1 : BL H1 n xs bs := BL.kt pb (KT.same s1)
      refine for_iterW ?_
      unfold iTup
      walk_at "rd"
      obtain ⟨gB, hgB⟩ : ∃ gB : Blk → List Blk, gB = fun b => b :: preF n b.i := ⟨_, rfl⟩
      have eP : preF (n + 1) bs = bs.flatMap gB := by rw [hgB]; rfl
      rw [eP] at pl ret
      obtain ⟨Pv, hPv⟩ : ∃ Pv : Nat → L2.St → Hp → Prop, Pv = (fun i σ Hx => ∃ (ws : List V) (v2 : Option V), σ = [some (.ref a), some (.ref cn), v2] ∧ Same H Hx ∧ Hx cn = some (.lst ws) ∧ Paired (IsB Hx) ws ((bs.take i).flatMap gB) ∧ Hx a = some (.tup xs) ∧ BL Hx n xs bs) := ⟨_, rfl⟩
      refine ⟨⟨_, SqT.of ha1⟩, for_tup (K := K) (a := a) (xs := xs) Pv (by rw [hPv]; exact ⟨[], none, rfl, s1, hcn, .nil, ha1, bl1⟩) (fun i σ Hx _ pv => by rw [hPv] at pv; obtain ⟨_, _, _, _, _, _, h, _⟩ := pv; exact SqT.of h) (fun i v σ Hx gv pv => ?_) (fun σ Hx pv => ?_)⟩
      rotate_left
      · rw [hPv] at pv
        obtain ⟨ws, v2, rfl, sx, hc, lg, _, _⟩ := pv
        rw [Paired.length pb, List.take_length] at lg
        walk_at "rd"
        exact ret ws cn Hx sx ncn hc lg
      rw [hPv] at pv
      obtain ⟨ws, v2, rfl, sx, hc, lg, hax, blx⟩ := pv
      obtain ⟨b, gb, bv⟩ := lget blx gv
      have ib : IsB Hx v b := BlkV.isB bv (by omega)
      obtain ⟨tb, tt, ti, us, rfl, h1, h2, h3, h4, h5⟩ := bv.ex
      have tk : bs.take (i + 1) = bs.take i ++ [b] := by rw [List.take_add_one, gb]; rfl
      have tot : ((bs.take (i + 1)).flatMap gB).length ≤ 1000 := by
        have e : (bs.flatMap gB).length = ((bs.take (i + 1)).flatMap gB).length + ((bs.drop (i + 1)).flatMap gB).length := by
          rw [← List.length_append, ← List.flatMap_append, List.take_append_drop]
        omega
      rw [tk, List.flatMap_append, List.flatMap_cons, List.flatMap_nil, List.append_nil, List.length_append] at tot
      have egB : gB b = b :: preF n b.i := by rw [hgB]
      rw [egB, List.length_cons] at tot
      have wl := Paired.length lg
      walk_at "rd"
      refine ⟨.inl ⟨rfl, _, SqL.of hc⟩, ws, hc, len_big (by omega), ?_⟩
      have kt1 : KT Hx (upd Hx cn (HO.lst (ws ++ [V.ref tb]))) := KT.lst hc
      have sc1 := same_ch (o := HO.lst (ws ++ [V.ref tb])) sx ncn
      have hc1 := upd_same (H := Hx) (a := cn) (o := HO.lst (ws ++ [V.ref tb]))
      have lg1 : Paired (IsB (upd Hx cn (HO.lst (ws ++ [V.ref tb])))) (ws ++ [V.ref tb]) ((bs.take i).flatMap gB ++ [b]) := Paired.snoc (Paired.mapP lg fun v b h => h.kt kt1) (ib.kt kt1)
      have hax1 := kt1 _ _ hax
      have blx1 := blx.kt kt1
      have h11 := kt1 _ _ h1
      have h41 := kt1 _ _ h4
      have h51 := h5.kt kt1
      generalize upd Hx cn (HO.lst (ws ++ [V.ref tb])) = H2 at sc1 hc1 lg1 hax1 blx1 h11 h41 h51 ⊢
      refine ⟨.inl ⟨rfl, _, SqL.of hc1⟩, ?_⟩
      refine ⟨_, SqT.of h11, _, atI_nat (j := 2) rfl, .ref ti, b.i, rfl, ⟨ti, us, rfl, h41, h51⟩, by omega, by omega, fun w2 t2 H3 s3 nt2 ht2 lg2 => ?_⟩
      have hc3 := s3 _ _ hc1
      have wl2 := Paired.length lg2
      refine ⟨_, rfl, _, hc3, _, ht2, Nat.le_of_lt (len_big (by rw [List.length_append, List.length_singleton]; omega)), ?_⟩
      have kt3 : KT H3 (upd H3 cn (HO.lst (ws ++ [V.ref tb] ++ w2))) := KT.lst hc3
      rw [hPv]
      refine ⟨ws ++ [V.ref tb] ++ w2, _, rfl, same_ch (sc1.trans s3) ncn, upd_same, ?_, kt3 _ _ (s3 _ _ hax1), (blx1.kt (KT.same s3)).kt kt3⟩
      rw [tk, List.flatMap_append, List.flatMap_cons, List.flatMap_nil, List.append_nil, egB]
      have e : (bs.take i).flatMap gB ++ b :: preF n b.i = (bs.take i).flatMap gB ++ [b] ++ preF n b.i := by rw [List.append_assoc]; rfl
      rw [e]
      exact paired_append (Paired.mapP lg1 fun v b h => (h.kt (KT.same s3)).kt kt3) (Paired.mapP lg2 fun v b h => h.kt kt3)
theorem scBrm : FnScope ["block", "_", "tops", "room"] ["block"] (defScope sBrm) := ⟨rfl, rfl, rfl, by decide +kernel, rfl, by decide +kernel, by decide +kernel⟩
def spBrm : Sp := fun vs H Q _ => ∃ (v : V) (b : Blk), vs = [v] ∧ IsB H v b ∧ (preF 13 [b]).length ≤ 1000 ∧ (rmsB b).length ≤ 60 ∧ ∀ (ys : List Int) t H', ys.Perm (rmsB b) → ys.Pairwise (· ≤ ·) → Same H H' → H t = none → H' t = some (.tup (ys.map V.int)) → Q (.ref t) H'
theorem ok_brm {f f1 : Addr} {fd fd1 : FuncData} (F : Fun K "block_rooms" "block_rooms" sBrm f fd) (T : Bi mg) (d_blocks : Df P w K mg base "blocks" ["form"] 15 (spBlc 13) f1 fd1) : FnOk P w K mg base CX0 16 f fd ["block"] spBrm := by
  refine F.ok scBrm (fun vs H Q E h => ?_) (fun cdv A0 outer s H vs Q E hr h => ?_)
  · obtain ⟨v, b, rfl, _⟩ := h
    rfl
  · obtain ⟨v, b, rfl, ib, pl, rl, ret⟩ := h
    refine ⟨_, (pss_one (ps_ret (pe_callTy call_tuple_of (by rfl) T.tuple (by decide +kernel) (pa_cons (pe_callB cr_sorted (by rfl) T.sorted (by decide +kernel) (pa_cons (pe_lc2 (own := [("_", 1), ("tops", 2), ("_", 1), ("room", 3)]) (vs1 := [3]) (g := gTup K 3 (gCons (gName 1) (gCons (gName 2) (gCons (gName 1) gNil)))) (g1 := gName 3) (wi1 := iTup K (tVar 2)) (te := tVar 3) (by rfl) scBrm.nd (pi_list (pe_call d_blocks.ok (hr.mono (by decide)) (by rfl) d_blocks.at_ d_blocks.kp d_blocks.b .nil pass0 (pa_cons (pe_tup (pa_cons (pv 0) pa_nil)) pa_nil))) (blkOk_by (N := ["block", "_", "tops", "room"]) (sc := defScope sBrm) (by decide +kernel)) (by decide) (fun _ _ _ _ _ => pg_tup rfl (pgs_cons (pg_name (i := 1) scBrm.nd rfl (Or.inl rfl)) (pgs_cons (pg_name (i := 2) scBrm.nd rfl (Or.inl rfl)) (pgs_cons (pg_name (i := 1) scBrm.nd rfl (Or.inl rfl)) pgs_nil)))) (fun _ _ _ _ _ => pts_nil) (fun _ _ _ _ _ => (pi_tup (pv 2))) (fun _ _ _ _ _ => pg_name (i := 3) scBrm.nd rfl (Or.inl rfl)) (fun _ _ _ _ _ => pts_nil) (fun _ _ _ _ _ => (pv 3))) pa_nil)) pa_nil)))), ?_⟩
    walk_at "rd"
    refine lc2W ?_
    walk_at "rd"
    refine ⟨by decide, fun p np => ?_⟩
    have s1 := same_upd (o := HO.tup [v]) np
    have hp := upd_same (H := H) (a := p) (o := HO.tup [v])
    generalize upd H p (HO.tup [v]) = H1 at s1 hp ⊢
    refine ⟨.ref p, [b], rfl, ⟨p, [v], rfl, hp, by show 1 ≤ 1000; decide, .cons (ib.kt (KT.same s1)) .nil⟩, Nat.le_refl _, pl, fun ws t H2 s2 nt ht pw => ?_⟩
    refine ⟨t, rfl, ⟨_, SqL.of ht⟩, lc2_blk ht pw (by show (rmsB b).length ≤ 1000; omega) fun o H3 s3 no ho => ?_⟩
    have ho : H3 o = some (.lst ((rmsB b).map V.int)) := ho
    refine ⟨o, _, rfl, SqL.of ho, by omega, fun ys t2 pm so nt2 => ?_⟩
    have s4 := same_upd (o := HO.lst (ys.map V.int)) nt2
    have ht2 := upd_same (H := H3) (a := t2) (o := HO.lst (ys.map V.int))
    generalize upd H3 t2 (HO.lst (ys.map V.int)) = H4 at s4 ht2 ⊢
    refine ⟨t2, rfl, _, .inl ⟨SqL.of ht2, fun t3 nt3 => ?_⟩⟩
    have s14 := ((s1.trans s2).trans s3).trans s4
    exact ret ys t3 _ pm so (s14.trans (same_upd nt3)) (s14.free nt3) upd_same
end

/-! ### forced pairs -/
abbrev sIb : Stmt := topS 31
abbrev sPb : Stmt := topS 30
abbrev sFrp : Stmt := topS 29
theorem bl_map {H : Hp} : ∀ {vs : List V} {bs : List Bool}, Paired (fun v b => v = V.bl b) vs bs → vs = bs.map V.bl
  | _, _, .nil => rfl
  | _, _, .cons r t => by rw [bl_map (H := H) t, List.map_cons, r]
section
variable {P : Program} {w : World} {K : PySem.W.Frag} {mg : Str → Option Value} {base : Heap}
theorem scIb : FnScope ["house", "room", "rooms", "other"] ["house", "room", "rooms"] (defScope sIb) := ⟨rfl, rfl, rfl, by decide +kernel, rfl, by decide +kernel, by decide +kernel⟩
def besB (D : List Pr) (Rs : List Int) (x : Int) : Bool := (nearF x D).any fun y => decide (y ∈ Rs)
def spIb (C : Addr) : Sp := fun vs H Q _ => ∃ (p t : Addr) (x : Int) (r : Nat) (D : List Pr) (own : List Addr) (Rs : List Int), vs = [.ref p, .int x, .ref t] ∧ HouseAt C H p r D own ∧ 0 ≤ x ∧ x < r ∧ H t = some (.tup (Rs.map V.int)) ∧ ∀ H', Same H H' → Q (.bl (besB D Rs x)) H'
theorem ok_ib {f C fn : Addr} {fd fdn : FuncData} (F : Fun K "is_beside" "is_beside" sIb f fd) (T : Bi mg) (U : Hs K mg C) (am : mg "any" = none) (m_neighbours : Md P w K mg base C "neighbours" ["self", "room"] 1 (spHnear C) fn fdn) : FnOk P w K mg base CX0 2 f fd ["house", "room", "rooms"] (spIb C) := by
  refine F.ok scIb (fun vs H Q E h => ?_) (fun cdv A0 outer s H vs Q E hr h => ?_)
  · obtain ⟨p, t, x, r, D, own, Rs, rfl, _⟩ := h
    rfl
  · obtain ⟨p, t, x, r, D, own, Rs, rfl, hh, x0, xr, ht, ret⟩ := h
    refine ⟨_, (pss_one (ps_ret (pe_callB (cr_any rfl) (by rfl) am (by decide +kernel) (pa_cons (pe_lc (own := [("other", 3)]) (te := (tOp (rIn K false) (tVar 3) (tVar 2))) (by rfl) scIb.nd (pi_list (pe_meth (pv 0) U.cl m_neighbours.m m_neighbours.ok (hr.mono (by decide)) m_neighbours.b .nil pass0 (pa_cons (pv 1) pa_nil))) (blkOk_by (N := ["house", "room", "rooms", "other"]) (sc := defScope sIb) (by decide +kernel)) (fun _ _ _ _ _ => pg_name (i := 3) scIb.nd rfl (Or.inl rfl)) (fun _ _ _ _ _ => pts_nil) (fun _ _ _ _ _ => (pe_cmpR op_in_seq (pv 3) (pv 2) (by rfl)))) pa_nil)))), ?_⟩
    walk_at "rd"
    refine lcW ?_
    walk_at "rd"
    obtain ⟨xn, rfl⟩ : ∃ xn : Nat, x = xn := ⟨x.toNat, by omega⟩
    obtain ⟨dh, lh, mh, lsh, nsh, hhp, _⟩ := id hh.ex
    have nl : (nearF ((xn : Nat) : Int) D).length ≤ 66 := by
      have h1 : (nearF ((xn : Nat) : Int) D).length ≤ D.length := List.length_filterMap_le _ _
      have h2 := hh.ok.len hh.r12
      omega
    refine ⟨dh, _, hhp, hf_no _ _ _ (by decide +kernel) (by decide +kernel) (by decide +kernel), p, r, D, own, xn, rfl, hh, by omega, fun q nq => ⟨q, rfl, ?_⟩⟩
    have s1 := same_upd (o := HO.lst ((nearF ((xn : Nat) : Int) D).map V.int)) nq
    have hq := upd_same (H := H) (a := q) (o := HO.lst ((nearF ((xn : Nat) : Int) D).map V.int))
    generalize upd H q (HO.lst ((nearF ((xn : Nat) : Int) D).map V.int)) = H1 at s1 hq ⊢
    obtain ⟨ns, ens⟩ : ∃ ns, ns = nearF ((xn : Nat) : Int) D := ⟨_, rfl⟩
    have eb : besB D Rs ((xn : Nat) : Int) = ns.any fun y => decide (y ∈ Rs) := by rw [ens]; rfl
    rw [← ens] at nl hq
    rw [eb] at ret
    refine ⟨⟨_, SqL.of hq⟩, gc_list (fun _ v (b : Bool) => v = V.bl b) (fun _ _ _ _ h _ => h) (fun j => ns[j]?.bind fun y => some (decide (y ∈ Rs))) hq (by rw [List.length_map]; omega) (fun j x Hx A B gx sx hA hB => ?_) fun o ys H2 s2 no ho pr => ?_⟩
    · rw [List.getElem?_map] at gx
      cases e : ns[j]? with
      | none => rw [e] at gx; cases gx
      | some y =>
        rw [e] at gx hA
        have ex : V.int y = x := Option.some.inj gx
        subst ex
        walk_at "rd"
        rw [if_pos trivial]
        refine ⟨t, Rs.map V.int, rfl, .inr (SqT.of (sx _ _ (s1 _ _ ht))), rfl, flI _, ?_⟩
        rw [inI, if_neg (by decide)]
        exact hA _ _ Hx rfl (Same.refl _) rfl
    · rw [List.length_map, fm_range (L := ns) (fun y => some (decide (y ∈ Rs))), List.filterMap_eq_map'] at pr
      have ey := bl_map (H := H2) pr
      subst ey
      refine ⟨o, _, rfl, SqL.of ho, ?_⟩
      have e2 : (ns.map fun y => decide (y ∈ Rs)).any id = ns.any fun y => decide (y ∈ Rs) := by rw [List.any_map]; rfl
      rw [e2]
      exact ret H2 (s1.trans s2)
theorem scPb : FnScope ["house", "inside", "outer", "word", "tops", "_", "rooms", "x", "z"] ["house", "inside", "outer"] (defScope sPb) := ⟨rfl, rfl, rfl, by decide +kernel, rfl, by decide +kernel, by decide +kernel⟩
def pairB (D : List Pr) (bi bo : Blk) : List Pr := match bi.w with
  | none => []
  | some w => if bo.w = some w then [] else bo.t.flatMap fun x => if besB D (rmsB bi) x = true then bi.t.map fun z => ((z, x) : Pr) else []
def spPb (C : Addr) : Sp := fun vs H Q _ => ∃ (p : Addr) (vi vo : V) (r : Nat) (D : List Pr) (own : List Addr) (bi bo : Blk), vs = [.ref p, vi, vo] ∧ HouseAt C H p r D own ∧ IsB H vi bi ∧ IsB H vo bo ∧ (preF 13 [bi]).length ≤ 1000 ∧ (rmsB bi).length ≤ 60 ∧ bi.t.length ≤ 12 ∧ bo.t.length ≤ 12 ∧ (∀ x ∈ bo.t, 0 ≤ x ∧ x < (r : Int)) ∧
  ∀ ws t H', Same H H' → H t = none → H' t = some (.lst ws) → PL H' ws (pairB D bi bo) → Q (.ref t) H'
theorem ok_pb {f C f1 f2 : Addr} {fd fd1 fd2 : FuncData} (F : Fun K "pairs_between" "pairs_between" sPb f fd) (T : Bi mg) (d_block_rooms : Df P w K mg base "block_rooms" ["block"] 16 spBrm f1 fd1) (d_is_beside : Df P w K mg base "is_beside" ["house", "room", "rooms"] 2 (spIb C) f2 fd2) : FnOk P w K mg base CX0 17 f fd ["house", "inside", "outer"] (spPb C) := by
  refine F.ok scPb (fun vs H Q E h => ?_) (fun cdv A0 outer s H vs Q E hr h => ?_)
  · obtain ⟨p, vi, vo, r, D, own, bi, bo, rfl, _⟩ := h
    rfl
  · obtain ⟨p, vi, vo, r, D, own, bi, bo, rfl, hh, ii, io, pl, rl, il, ol, ob, ret⟩ := h
    refine ⟨_, (pss_cons (ps_asg (pv 1) (pg_tup rfl (pgs_cons (pg_name (i := 3) scPb.nd rfl (Or.inl rfl)) (pgs_cons (pg_name (i := 4) scPb.nd rfl (Or.inr rfl)) (pgs_cons (pg_name (i := 5) scPb.nd rfl (Or.inl rfl)) pgs_nil)))))
      (pss_cons (ps_if (PW.pt (pw_or (pt_cmpR op_isN (pv 3) pe_non (nomark _)) (pw_or1 (pt_cmpR op_eq (pv 3) (pe_ix ix_tup (pv 2) pe_int (fun _ _ => rfl)) (nomark _)))))
      (pss_one (ps_ret (pe_lst pa_nil)))
      pss_nil)
      (pss_cons (ps_set (i := 6) scPb.nd rfl (Or.inr rfl) (pe_call d_block_rooms.ok (hr.mono (by decide)) (by rfl) d_block_rooms.at_ d_block_rooms.kp d_block_rooms.b .nil pass0 (pa_cons (pv 1) pa_nil)))
      (pss_one (ps_ret (pe_lc2 (own := [("x", 7), ("z", 8)]) (vs1 := [8]) (g := gName 7) (g1 := gName 8) (wi1 := iTup K (tVar 4)) (te := tTup (tCons (tVar 8) (tCons (tVar 7) tNil))) (by rfl) scPb.nd (pi_tup (pe_ix ix_tup (pv 2) pe_int (fun _ _ => rfl))) (blkOk_by (N := ["house", "inside", "outer", "word", "tops", "_", "rooms", "x", "z"]) (sc := defScope sPb) (by decide +kernel)) (by decide) (fun _ _ _ _ _ => pg_name (i := 7) scPb.nd rfl (Or.inl rfl)) (fun _ _ _ _ _ => (pts_one (pt_val (pe_call d_is_beside.ok (hr.mono (by decide)) (by rfl) d_is_beside.at_ d_is_beside.kp d_is_beside.b .nil pass0 (pa_cons (pv 0) (pa_cons (pv 7) (pa_cons (pv 6) pa_nil))))))) (fun _ _ _ _ _ => (pi_tup (pv 4))) (fun _ _ _ _ _ => pg_name (i := 8) scPb.nd rfl (Or.inl rfl)) (fun _ _ _ _ _ => pts_nil) (fun _ _ _ _ _ => (pe_tup (pa_cons (pv 8) (pa_cons (pv 7) pa_nil)))))))))), ?_⟩
    obtain ⟨ta, tt, ti, us, rfl, k1, k2, k3, k4, k5⟩ := id ii.ex
    obtain ⟨oa, ot, oi, os, rfl, o1, o2, o3, o4, o5⟩ := id io.ex
    walk_at "rd"
    refine ⟨_, SqT.of k1, rfl, _, _, rfl, _, _, rfl, _, _, rfl, rfl, ?_⟩
    have nothing : pairB D bi bo = [] → 0 ≤ sizeLine ∧ ∀ q : Addr, H q = none → Q (V.ref q) (upd H q (HO.lst [])) := fun e => ⟨Nat.zero_le _, fun q nq => ret [] q _ (same_upd nq) nq upd_same (by rw [e]; exact .nil)⟩
    cases hw : bi.w with
    | none =>
      rw [if_pos (show optS none = V.non from rfl), if_pos True.intro]
      exact nothing (by unfold pairB; rw [hw])
    | some z =>
      rw [if_neg (show ¬ optS (some z) = V.non from fun q => by cases q)]
      refine ⟨_, SqT.of o1, _, atI_nat (j := 0) rfl, optS_scal (some z) bo.w, _, rfl, ?_⟩
      by_cases c1 : bo.w = some z
      · rw [show decide (optS (some z) = optS bo.w) = true from decide_eq_true (by rw [c1])]
        refine iteT ?_
        exact nothing (by unfold pairB; rw [hw]; exact if_pos c1)
      · rw [show decide (optS (some z) = optS bo.w) = false from decide_eq_false fun q => c1 (optS_inj q).symm]
        refine iteF ?_
        obtain ⟨G, hG⟩ : ∃ G : Int → List Pr, G = fun x => if besB D (rmsB bi) x = true then bi.t.map fun z => ((z, x) : Pr) else [] := ⟨_, rfl⟩
        have eP : pairB D bi bo = bo.t.flatMap G := by
          unfold pairB
          rw [hw, hG]
          exact if_neg c1
        rw [eP] at ret
        refine ⟨.ref ta, bi, rfl, ii, pl, rl, fun ys tr H1 pm _ s1 ntr htr => ?_⟩
        refine lc2W ?_
        walk_at "rd"
        have o1x := s1 _ _ o1
        have o2x := s1 _ _ o2
        refine ⟨.ref oa, rfl, oa, _, 1, .ref ot, rfl, rfl, SqT.of o1x, rfl, ot, rfl, ⟨_, SqT.of o2x⟩, ?_⟩
        intro D0 nD
        have Gl : ∀ x, (G x).length ≤ 12 := fun x => by
          rw [hG]
          show (if _ then _ else _ : List Pr).length ≤ 12
          split
          · rw [List.length_map]
            exact il
          · exact Nat.zero_le _
        have GL : ∀ l : List Int, (l.flatMap G).length ≤ 12 * l.length := fun l => by
          induction l with
          | nil => exact Nat.zero_le _
          | cons x l ih =>
            rw [List.flatMap_cons, List.length_append, List.length_cons]
            have := Gl x
            omega
        refine ⟨fun j m Hx => m = bo.t.length - j ∧ j ≤ bo.t.length ∧ Same H1 Hx ∧ ∃ ws, Hx D0 = some (.lst ws) ∧ PL Hx ws ((bo.t.take j).flatMap G), ⟨_, rfl, Nat.zero_le _, same_upd nD, [], upd_same, .nil⟩, ?_⟩
        rintro j mm Hx ⟨rfl, hj, sx, ws, hD, pw⟩
        have o2y := sx _ _ o2x
        by_cases lt : j < bo.t.length
        · obtain ⟨x, ex⟩ : ∃ x, bo.t[j]? = some x := ⟨_, List.getElem?_eq_getElem lt⟩
          have xm : x ∈ bo.t := List.mem_of_getElem? ex
          have tk : bo.t.take (j + 1) = bo.t.take j ++ [x] := by rw [List.take_add_one, ex]; rfl
          have wl := pw.len
          have wl2 := GL (bo.t.take j)
          have tl2 : (bo.t.take j).length ≤ 12 := by rw [List.length_take]; omega
          refine .inr ⟨⟨_, .int x, SqT.of o2y, by rw [List.getElem?_map, ex]; rfl⟩, fun H' => Same H1 H' ∧ ∃ ws, H' D0 = some (.lst ws) ∧ PL H' ws ((bo.t.take (j + 1)).flatMap G), fun H' q => ⟨_, by omega, rfl, lt, q.1, q.2⟩, ?_⟩
          rintro v' H' ⟨rfl, ev⟩
          have e2 := ev _ (SqT.of o2y)
          rw [List.getElem?_map, ex] at e2
          have e3 : V.int x = v' := Option.some.inj e2
          subst e3
          rw [tk, List.flatMap_append, List.flatMap_cons, List.flatMap_nil, List.append_nil]
          obtain ⟨x0, xr⟩ := ob x xm
          refine ⟨rfl, ?_⟩
          simp only [wipe]
          walk_at "rd"
          refine ⟨p, tr, x, r, D, own, ys, rfl, hh.same (s1.trans sx), x0, xr, sx _ _ htr, fun H2 s2 => ⟨_, rfl, ?_⟩⟩
          have eb : besB D ys x = besB D (rmsB bi) x := by
            unfold besB
            congr 1
            funext y
            rw [decide_eq_decide]
            exact pm.mem_iff
          rw [eb]
          have hD2 := s2 _ _ hD
          have pw2 := pw.kt (KT.same s2)
          have s02 := sx.trans s2
          by_cases cb : besB D (rmsB bi) x = true
          · have eG : G x = bi.t.map fun z => ((z, x) : Pr) := by rw [hG]; exact if_pos cb
            rw [if_pos cb, eG]
            have k2x := s2 _ _ (sx _ _ (s1 _ _ k2))
            obtain ⟨A0, eA0⟩ : ∃ A0, A0 = (bo.t.take j).flatMap G := ⟨_, rfl⟩
            rw [← eA0] at pw2 wl2 wl ⊢
            have k2H := s1 _ _ k2
            refine ⟨.ref tt, rfl, tt, rfl, ⟨_, SqT.of k2x⟩, ?_⟩
            refine ⟨fun k m Hy => m = bi.t.length - k ∧ k ≤ bi.t.length ∧ Same H1 Hy ∧ ∃ ws, Hy D0 = some (.lst ws) ∧ PL Hy ws (A0 ++ (bi.t.take k).map fun z => ((z, x) : Pr)), ⟨_, rfl, Nat.zero_le _, s02, ws, hD2, by rw [List.take_zero, List.map_nil, List.append_nil]; exact pw2⟩, ?_⟩
            rintro k mk Hy ⟨rfl, hk, sy, ws2, hDy, pwy⟩
            have k2y := sy _ _ k2H
            by_cases lk : k < bi.t.length
            · obtain ⟨u, eu⟩ : ∃ u, bi.t[k]? = some u := ⟨_, List.getElem?_eq_getElem lk⟩
              have tk2 : bi.t.take (k + 1) = bi.t.take k ++ [u] := by rw [List.take_add_one, eu]; rfl
              refine .inr ⟨⟨_, .int u, SqT.of k2y, by rw [List.getElem?_map, eu]; rfl⟩, fun H' => Same H1 H' ∧ ∃ ws, H' D0 = some (.lst ws) ∧ PL H' ws (A0 ++ (bi.t.take (k + 1)).map fun z => ((z, x) : Pr)), fun H' q => ⟨_, by omega, rfl, lk, q.1, q.2⟩, ?_⟩
              rintro x2 H3 ⟨rfl, ev2⟩
              have e3 := ev2 _ (SqT.of k2y)
              rw [List.getElem?_map, eu] at e3
              have e4 : V.int u = x2 := Option.some.inj e3
              subst e4
              rw [if_pos trivial]
              refine ⟨by decide, fun q nq => ?_⟩
              have s5 := same_upd (o := HO.tup [V.int u, V.int x]) nq
              have hq := upd_same (H := H3) (a := q) (o := HO.tup [V.int u, V.int x])
              generalize upd H3 q (HO.tup [V.int u, V.int x]) = H5 at s5 hq ⊢
              have hD5 := s5 _ _ hDy
              have l2 := pwy.len
              have l3 : (bi.t.take k).length ≤ 12 := by rw [List.length_take]; omega
              refine ⟨ws2, hD5, len_big (by rw [l2, List.length_append, List.length_map]; omega), same_ch (sy.trans s5) nD, ws2 ++ [.ref q], upd_same, ?_⟩
              have kt : KT H5 (upd H5 D0 (HO.lst (ws2 ++ [.ref q]))) := KT.lst hD5
              rw [tk2, List.map_append, ← List.append_assoc]
              exact PL.snoc ((pwy.kt (KT.same s5)).kt kt) ⟨q, rfl, kt _ _ hq⟩
            · refine .inl ⟨⟨_, SqT.of k2y, by rw [List.length_map]; omega⟩, sy, ws2, hDy, ?_⟩
              have et : bi.t.take k = bi.t := List.take_of_length_le (by omega)
              rw [et] at pwy
              exact pwy
          · have eG : G x = [] := by rw [hG]; exact if_neg cb
            rw [if_neg cb, eG, List.append_nil]
            exact ⟨s02, ws, hD2, pw2⟩
        · refine .inl ⟨⟨_, SqT.of o2y, by rw [List.length_map]; omega⟩, ?_⟩
          have et : bo.t.take j = bo.t := List.take_of_length_le (by omega)
          rw [et] at pw
          exact ret ws D0 Hx (s1.trans sx) (s1.free nD) hD pw
theorem blk_facts {D : List Pr} {L : List Cl} {k r : Nat} {P : List Int} (r12 : r ≤ 12) (nd : P.Nodup) (sub : ∀ x ∈ P, x ∈ rg r) : (preF 13 [blkP D L k P]).length ≤ 1000 ∧ (rmsB (blkP D L k P)).length ≤ 12 ∧ (blkP D L k P).t.length ≤ 12 ∧ (∀ x ∈ (blkP D L k P).t, 0 ≤ x ∧ x < (r : Int)) ∧ (preF 13 (blkP D L k P).i).length ≤ 12 ∧ ∀ b ∈ preF 13 (blkP D L k P).i, ∃ k' P', b = blkP D L k' P' ∧ P'.Nodup ∧ ∀ x ∈ P', x ∈ rg r := by
  have pl : P.length ≤ r := by
    have := int_sub_len2 nd sub
    rw [rg_len] at this
    exact this
  obtain ⟨h1, h2⟩ := rms_of (D := D) (L := L) (k := k) nd
  have tsub : ∀ x ∈ (blkP D L k P).t, x ∈ rmsB (blkP D L k P) := fun x hx => by
    rw [rmsB_eq]
    exact List.mem_append_left _ hx
  have tl : (blkP D L k P).t.length ≤ (rmsB (blkP D L k P)).length := by
    rw [rmsB_eq, List.length_append]
    omega
  have inner : (preF 13 (blkP D L k P).i).length ≤ 12 ∧ (preF 12 (blkP D L k P).i).length ≤ 12 ∧ ∀ b ∈ preF 13 (blkP D L k P).i, ∃ k' P', b = blkP D L k' P' ∧ P'.Nodup ∧ ∀ x ∈ P', x ∈ rg r := by
    cases e : wordP L P with
    | none =>
      rw [blkP_none e, show (Blk.mk none P []).i = [] from rfl, preF_nil, preF_nil]
      exact ⟨Nat.zero_le _, Nat.zero_le _, fun b hb => by cases hb⟩
    | some w =>
      have ei : (blkP D L k P).i = blkF D L k (P.filter fun x => decide (x ∉ keepL D L 12 P)) := by rw [blkP_some e]; rfl
      rw [ei]
      have h3 := List.length_filter_le (fun x => decide (x ∉ keepL D L 12 P)) P
      have h4 := (pre_rlen (D := D) (L := L) 13 k (P.filter fun x => decide (x ∉ keepL D L 12 P))).2
      have h5 := (pre_rlen (D := D) (L := L) 12 k (P.filter fun x => decide (x ∉ keepL D L 12 P))).2
      refine ⟨by omega, by omega, fun b hb => ?_⟩
      obtain ⟨k', P', e1, e2, e3⟩ := pre_of 13 k _ b hb
      exact ⟨k', P', e1, e2, fun x hx => sub x (List.mem_filter.mp (e3 x hx)).1⟩
  refine ⟨?_, by omega, by omega, fun x hx => rg_bd x (sub x (h1 x (tsub x hx))), inner.1, inner.2.2⟩
  rw [preF_one, List.length_cons]
  have := inner.2.1
  omega
theorem pairB_len {D : List Pr} {bi bo : Blk} (h1 : bi.t.length ≤ 12) (h2 : bo.t.length ≤ 12) : (pairB D bi bo).length ≤ 144 := by
  unfold pairB
  cases bi.w with
  | none => exact Nat.zero_le _
  | some w =>
    show (if _ then _ else _ : List Pr).length ≤ 144
    split
    · exact Nat.zero_le _
    · have : ∀ l : List Int, (l.flatMap fun x => if besB D (rmsB bi) x = true then bi.t.map fun z => ((z, x) : Pr) else []).length ≤ 12 * l.length := fun l => by
        induction l with
        | nil => exact Nat.zero_le _
        | cons x l ih =>
          rw [List.flatMap_cons, List.length_append, List.length_cons]
          have : (if besB D (rmsB bi) x = true then bi.t.map fun z => ((z, x) : Pr) else []).length ≤ 12 := by
            split
            · rw [List.length_map]
              exact h1
            · exact Nat.zero_le _
          omega
      have := this bo.t
      omega
theorem scFrp : FnScope ["house", "form", "pairs", "outer", "inside"] ["house", "form"] (defScope sFrp) := ⟨rfl, rfl, rfl, by decide +kernel, rfl, by decide +kernel, by decide +kernel⟩
def pairsF (D : List Pr) (bs : List Blk) : List Pr := (preF 13 bs).flatMap fun bo => (preF 13 bo.i).flatMap fun bi => pairB D bi bo
def spFrp (C : Addr) : Sp := fun vs H Q _ => ∃ (p : Addr) (v : V) (r : Nat) (D : List Pr) (own : List Addr) (L : List Cl), vs = [.ref p, v] ∧ HouseAt C H p r D own ∧ FormAt H 12 v (formF D r L) ∧
  ∀ ws E t H', Same H H' → H t = none → H' t = some (.lst ws) → PL H' ws E → E.Perm (pairsF D (formF D r L)) → E.Pairwise (fun a b => SrtO.lexB b a = false) → Q (.ref t) H'
theorem ok_frp {f C f1 f2 : Addr} {fd fd1 fd2 : FuncData} (F : Fun K "forced_pairs" "forced_pairs" sFrp f fd) (T : Bi mg) (d_blocks : Df P w K mg base "blocks" ["form"] 15 (spBlc 13) f1 fd1) (d_pairs_between : Df P w K mg base "pairs_between" ["house", "inside", "outer"] 17 (spPb C) f2 fd2) : FnOk P w K mg base CX0 18 f fd ["house", "form"] (spFrp C) := by
  refine F.ok scFrp (fun vs H Q E h => ?_) (fun cdv A0 outer s H vs Q E hr h => ?_)
  · obtain ⟨p, v, r, D, own, L, rfl, _⟩ := h
    rfl
  · obtain ⟨p, v, r, D, own, L, rfl, hh, fm, ret⟩ := h
    refine ⟨_, (pss_cons (ps_set (i := 2) scFrp.nd rfl (Or.inl rfl) (pe_lst pa_nil))
      (pss_cons (ps_for PassesOwn.never rfl (pi_list (pe_call d_blocks.ok (hr.mono (by decide)) (by rfl) d_blocks.at_ d_blocks.kp d_blocks.b .nil pass0 (pa_cons (pv 1) pa_nil))) (pg_name (i := 3) scFrp.nd rfl (Or.inl rfl))
      (pss_one (ps_for PassesOwn.never rfl (pi_list (pe_call d_blocks.ok (hr.mono (by decide)) (by rfl) d_blocks.at_ d_blocks.kp d_blocks.b .nil pass0 (pa_cons (pe_ix ix_tup (pv 3) pe_int (fun _ _ => rfl)) pa_nil))) (pg_name (i := 4) scFrp.nd rfl (Or.inl rfl))
        (pss_one (ps_expr (pe_bm PySem.F.plainAttrs_list PySem.F.slot_list_extend PySem.F.type_list_extend mt_extend (pv 2) (pa_cons (pe_call d_pairs_between.ok (hr.mono (by decide)) (by rfl) d_pairs_between.at_ d_pairs_between.kp d_pairs_between.b .nil pass0 (pa_cons (pv 0) (pa_cons (pv 4) (pa_cons (pv 3) pa_nil)))) pa_nil)))))))
      (pss_one (ps_ret (pe_callB cr_sortedPO (by rfl) T.sorted (by decide +kernel) (pa_cons (pv 2) pa_nil)))))), ?_⟩
    walk_at "rd"
    refine ⟨Nat.zero_le _, fun cn ncn => ?_⟩
    have s1 := same_upd (o := HO.lst []) ncn
    have hcn := upd_same (H := H) (a := cn) (o := HO.lst [])
    generalize upd H cn (HO.lst []) = H1 at s1 hcn ⊢
    refine for_iterW ?_
    walk_at "rd"
    have r12 := hh.r12
    obtain ⟨bs, ebs⟩ : ∃ bs, bs = formF D r L := ⟨_, rfl⟩
    have fm13 : FormAt H1 13 v bs := by
      rw [ebs]
      obtain ⟨a, xs, e, h1, h2⟩ := fm.kt (KT.same s1)
      exact ⟨a, xs, e, h1, h2.up (by decide)⟩
    have bok : ∀ b ∈ preF 13 bs, ∃ k' P', b = blkP D L k' P' ∧ P'.Nodup ∧ ∀ x ∈ P', x ∈ rg r := fun b hb => by
      rw [ebs] at hb
      exact pre_of 13 12 _ b hb
    have bl12 : (preF 13 bs).length ≤ 12 := by
      have := (pre_rlen (D := D) (L := L) 13 12 (rg r)).2
      rw [rg_len] at this
      rw [ebs]
      unfold formF
      omega
    rw [← ebs] at ret
    refine ⟨v, bs, rfl, fm13, Nat.le_refl _, by omega, fun bw bt H2 s2 nbt hbt pb => ?_⟩
    obtain ⟨B, eB⟩ : ∃ B, B = preF 13 bs := ⟨_, rfl⟩
    have eAll : pairsF D bs = B.flatMap fun bo => (preF 13 bo.i).flatMap fun bi => pairB D bi bo := by rw [eB]; rfl
    rw [← eB] at pb bok bl12
    rw [eAll] at ret
    obtain ⟨G, hG⟩ : ∃ G : Blk → List Pr, G = fun bo => (preF 13 bo.i).flatMap fun bi => pairB D bi bo := ⟨_, rfl⟩
    rw [← hG] at ret
    have s12 := s1.trans s2
    have ntc : bt ≠ cn := (ne_of_none hcn nbt).symm
    obtain ⟨Pv, hPv⟩ : ∃ Pv : Nat → L2.St → Hp → Prop, Pv = (fun i σ Hx => ∃ (ws : List V) (v3 v4 : Option V), σ = [some (.ref p), some v, some (.ref cn), v3, v4] ∧ Same H Hx ∧ Hx cn = some (.lst ws) ∧ PL Hx ws ((B.take i).flatMap G) ∧ ws.length ≤ 1728 * i ∧ Hx bt = some (.lst bw) ∧ Paired (IsB Hx) bw B) := ⟨_, rfl⟩
    refine ⟨bt, rfl, ⟨_, SqL.of hbt⟩, for_list (K := K) (a := bt) (xs := bw) Pv (by rw [hPv]; exact ⟨[], none, none, rfl, s12, s2 _ _ hcn, .nil, Nat.le_refl _, hbt, pb⟩) (fun i σ Hx _ pv => by rw [hPv] at pv; obtain ⟨_, _, _, _, _, _, _, _, h, _⟩ := pv; exact SqL.of h) (fun i x σ Hx gv pv => ?_) (fun σ Hx pv => ?_)⟩
    rotate_left
    · rw [hPv] at pv
      obtain ⟨ws, v3, v4, rfl, sx, hc, pw, wl, _, _⟩ := pv
      have bwl := Paired.length pb
      rw [bwl, List.take_length] at pw
      walk_at "rd"
      obtain ⟨k1, k2⟩ := pw.toK
      refine ⟨cn, ws, kH Hx, rfl, SqL.of hc, k2, fun ys t so st nt => ?_⟩
      have pmy := st.perm
      have hy : ∀ v ∈ ys, IsP Hx v (kH Hx v) := fun v hv => k2 v (pmy.mem_iff.mp hv)
      refine ret ys (ys.map (kH Hx)) t _ (sx.trans (same_upd nt)) (sx.free nt) upd_same ((PL.ofK hy).kt (KT.new nt)) ?_ (List.pairwise_map.mpr (List.Pairwise.imp (fun {x y} h => h) so))
      rw [k1]
      exact pmy.map _
    rw [hPv] at pv
    obtain ⟨ws, v3, v4, rfl, sx, hc, pw, wl, hbx, pbx⟩ := pv
    obtain ⟨bo, gbo, ibo⟩ := lget pbx gv
    have il := (List.getElem?_eq_some_iff.mp gbo).1
    obtain ⟨k0, P0, e0, nd0, sub0⟩ := bok bo (List.mem_of_getElem? gbo)
    have fo := blk_facts (D := D) (L := L) (k := k0) r12 nd0 sub0
    rw [← e0] at fo
    obtain ⟨oa, ot, oi, os, rfl, o1, o2, o3, o4, o5⟩ := id ibo.ex
    have tk : B.take (i + 1) = B.take i ++ [bo] := by rw [List.take_add_one, gbo]; rfl
    refine for_iterW ?_
    walk_at "rd"
    have fi13 : FormAt Hx 13 (.ref oi) bo.i := ⟨oi, os, rfl, o4, o5.up (by decide)⟩
    refine ⟨_, SqT.of o1, _, atI_nat (j := 2) rfl, .ref oi, bo.i, rfl, fi13, Nat.le_refl _, by have := fo.2.2.2.2.1; omega, fun iw it H3 s3 nit hit pbi => ?_⟩
    obtain ⟨J, eJ⟩ : ∃ J, J = preF 13 bo.i := ⟨_, rfl⟩
    have eG : G bo = J.flatMap fun bi => pairB D bi bo := by rw [hG, eJ]
    have foi := fo.2.2.2.2
    rw [← eJ] at pbi foi
    have iwl := Paired.length pbi
    have wl0 : ws.length ≤ 1728 * 12 := by omega
    have hc3 := s3 _ _ hc
    have nic : it ≠ cn := (ne_of_none hc nit).symm
    have pw3 := pw.kt (KT.same s3)
    have ibo3 := ibo.kt (KT.same s3)
    have hbx3 := s3 _ _ hbx
    have pbx3 : Paired (IsB H3) bw B := Paired.mapP pbx fun v b h => h.kt (KT.same s3)
    have sx3 := sx.trans s3
    obtain ⟨Pw, hPw⟩ : ∃ Pw : Nat → L2.St → Hp → Prop, Pw = (fun k σ Hy => ∃ (ws2 : List V) (v4 : Option V), σ = [some (.ref p), some v, some (.ref cn), some (.ref oa), v4] ∧ Same H Hy ∧ Hy cn = some (.lst ws2) ∧ PL Hy ws2 ((B.take i).flatMap G ++ (J.take k).flatMap fun bi => pairB D bi bo) ∧ ws2.length ≤ ws.length + 144 * k ∧ Hy bt = some (.lst bw) ∧ Paired (IsB Hy) bw B ∧ Hy it = some (.lst iw) ∧ Paired (IsB Hy) iw J ∧ IsB Hy (.ref oa) bo) := ⟨_, rfl⟩
    refine ⟨it, rfl, ⟨_, SqL.of hit⟩, for_list (K := K) (a := it) (xs := iw) Pw (by rw [hPw]; exact ⟨ws, v4, rfl, sx3, hc3, by rw [List.take_zero, List.flatMap_nil, List.append_nil]; exact pw3, Nat.le_refl _, hbx3, pbx3, hit, pbi, ibo3⟩) (fun k σ Hy _ pv => by rw [hPw] at pv; obtain ⟨_, _, _, _, _, _, _, _, _, h, _⟩ := pv; exact SqL.of h) (fun k y σ Hy gy pv => ?_) (fun σ Hy pv => ?_)⟩
    rotate_left
    · rw [hPw] at pv
      obtain ⟨ws2, v4', rfl, sy, hcy, pwy, wly, hby, pby, _, _, _⟩ := pv
      rw [iwl, List.take_length, ← eG] at pwy
      rw [hPv]
      refine ⟨ws2, _, _, rfl, sy, hcy, ?_, by have := foi.1; omega, hby, pby⟩
      rw [tk, List.flatMap_append, List.flatMap_cons, List.flatMap_nil, List.append_nil]
      exact pwy
    rw [hPw] at pv
    obtain ⟨ws2, v4', rfl, sy, hcy, pwy, wly, hby, pby, hiy, pjy, iboy⟩ := pv
    obtain ⟨bi, gbi, ibi⟩ := lget pjy gy
    have kl := (List.getElem?_eq_some_iff.mp gy).1
    obtain ⟨k1, P1, e1, nd1, sub1⟩ := foi.2 bi (List.mem_of_getElem? gbi)
    have fi := blk_facts (D := D) (L := L) (k := k1) r12 nd1 sub1
    rw [← e1] at fi
    have tkj : J.take (k + 1) = J.take k ++ [bi] := by rw [List.take_add_one, gbi]; rfl
    walk_at "rd"
    refine ⟨.inl ⟨rfl, _, SqL.of hcy⟩, p, y, .ref oa, r, D, own, bi, bo, rfl, hh.same sy, ibi, iboy, fi.1, by have := fi.2.1; omega, fi.2.2.1, fo.2.2.1, fo.2.2.2.1, fun w3 t3 H4 s4 nt3 ht3 p3 => ?_⟩
    have hc4 := s4 _ _ hcy
    have w3l : w3.length ≤ 144 := by rw [p3.len]; exact pairB_len fi.2.2.1 fo.2.2.1
    refine ⟨_, rfl, _, hc4, _, ht3, Nat.le_of_lt (len_big (by have := foi.1; omega)), ?_⟩
    have kt : KT H4 (upd H4 cn (HO.lst (ws2 ++ w3))) := KT.lst hc4
    have ktl : ∀ b : Addr, b ≠ cn → ∀ o, H4 b = some o → upd H4 cn (HO.lst (ws2 ++ w3)) b = some o := fun b nb o h => by rw [upd_ne nb]; exact h
    rw [hPw]
    refine ⟨ws2 ++ w3, _, rfl, same_ch (sy.trans s4) ncn, upd_same, ?_, by rw [List.length_append]; omega, ktl _ ntc _ (s4 _ _ hby), Paired.mapP pby fun v b h => (h.kt (KT.same s4)).kt kt, ktl _ nic _ (s4 _ _ hiy), Paired.mapP pjy fun v b h => (h.kt (KT.same s4)).kt kt, (iboy.kt (KT.same s4)).kt kt⟩
    rw [tkj, List.flatMap_append, List.flatMap_cons, List.flatMap_nil, List.append_nil, ← List.append_assoc]
    exact paired_append ((pwy.kt (KT.same s4)).kt kt) (p3.kt kt)
end

/-! ### _law_pool (six numbers a word), _law_choice -/
abbrev sPo6 : Stmt := topS 51
abbrev sCho : Stmt := topS 52
theorem cut_mid (xs : List V) (a b : Nat) (h : b ≤ xs.length) : cutV xs (some ((a : Nat) : Int)) (some ((b : Nat) : Int)) = (xs.drop a).take (b - a) := by
  unfold cutV
  rw [show HT.sIx xs.length xs.length (some ((b : Nat) : Int)) = min b xs.length from HT.sIx_nat xs.length xs.length b, show HT.sIx xs.length 0 (some ((a : Nat) : Int)) = min a xs.length from HT.sIx_nat xs.length 0 a, Nat.min_eq_left h]
  by_cases c : a ≤ xs.length
  · rw [Nat.min_eq_left c]
  · rw [Nat.min_eq_right (by omega), List.drop_of_length_le (by omega), List.drop_of_length_le (by omega), List.take_nil, List.take_nil]
theorem cutS_len (z : Str) (k : Nat) : (cutS z none (some ((k : Nat) : Int))).length = min k z.length := by
  unfold cutS
  rw [show HT.sIx z.length z.length (some ((k : Nat) : Int)) = min k z.length from HT.sIx_nat z.length z.length k, HT.sIx_none, List.drop_zero, Nat.sub_zero]
  show (List.toArray _).size = _
  rw [List.size_toArray, List.length_take]
  have : z.cps.toList.length = z.length := by rw [Array.length_toList]; rfl
  rw [this]
  omega
theorem wk_len {n : Nat} {z : Str} (h : wk n z) (k : Nat) : wk k (cutS z none (some ((k : Nat) : Int))) := ⟨by rw [cutS_len]; omega, (wk_cut h _ _).2⟩
section
variable {P : Program} {w : World} {K : PySem.W.Frag} {mg : Str → Option Value} {base : Heap}
theorem scPo6 : FnScope ["numbers", "at", "many", "letters", "pool", "k", "here", "word", "number", "place"] ["numbers", "at", "many"] (defScope sPo6) := ⟨rfl, rfl, rfl, by decide +kernel, rfl, by decide +kernel, by decide +kernel⟩
/-- words that are not empty -/
def Wds (n : Nat) (Z : List Str) : Prop := Z.length = n ∧ ∀ z ∈ Z, wk 17 z ∧ 1 ≤ z.length
def spPo6 (K : PySem.W.Frag) : Sp := fun vs H Q _ => ∃ (a : Addr) (ns : List Int) (at_ m : Nat), vs = [.ref a, .int at_, .int m] ∧ SqL K H a (ns.map V.int) ∧ at_ + 6 * m ≤ ns.length ∧ m ≤ 100 ∧ ∀ Z p H', Wds m Z → Same H H' → H p = none → H' p = some (.lst (Z.map V.str)) → Q (.ref p) H'
theorem ok_po6 {f : Addr} {fd : FuncData} (F : Fun K "_law_pool" "_law_pool" sPo6 f fd) (T : Bi mg) : FnOk P w K mg base CX0 1 f fd ["numbers", "at", "many"] (spPo6 K) := by
  refine F.ok scPo6 (fun vs H Q E h => ?_) (fun cdv A0 outer s H vs Q E hr h => ?_)
  · obtain ⟨a, ns, at_, m, rfl, _⟩ := h
    rfl
  · obtain ⟨a, ns, at_, m, rfl, hS, hn, m100, q⟩ := h
    refine ⟨_, (pss_cons (ps_set (i := 3) scPo6.nd rfl (Or.inl rfl) pe_str)
      (pss_cons (ps_set (i := 4) scPo6.nd rfl (Or.inl rfl) (pe_lst pa_nil))
      (pss_cons (ps_for PassesOwn.never rfl (pi_range1 (by rfl) T.range (pa_cons (pv 2) pa_nil)) (pg_name (i := 5) scPo6.nd rfl (Or.inl rfl))
      (pss_cons (ps_set (i := 6) scPo6.nd rfl (Or.inl rfl) (pe_op op_add (pv 1) (pe_op op_mul pe_int (pv 5))))
        (pss_cons (ps_set (i := 7) scPo6.nd rfl (Or.inl rfl) pe_str)
        (pss_cons (ps_for PassesOwn.never rfl (pi_list (pe_slice sl_list (pv 0) (po_some (pe_op op_add (pv 6) pe_int)) (po_some (pe_op op_add (pv 6) pe_int)))) (pg_name (i := 8) scPo6.nd rfl (Or.inl rfl))
        (pss_one (ps_set (i := 7) scPo6.nd rfl (Or.inl rfl) (pe_op op_add_str (pe_op op_add_str (pv 7) (pe_ix ix_str (pv 3) (pe_op op_mod (pe_callTy cr_intI (by rfl) T.int (by decide +kernel) (pa_cons (pv 8) pa_nil)) pe_int) (fun _ _ => rfl))) (pe_ix ix_str (pv 3) (pe_op op_mod (pe_op op_fdiv (pe_callTy cr_intI (by rfl) T.int (by decide +kernel) (pa_cons (pv 8) pa_nil)) pe_int) pe_int) (fun _ _ => rfl))))))
        (pss_cons (ps_set (i := 7) scPo6.nd rfl (Or.inl rfl) (pe_slice sl_str (pv 7) po_none (po_some (pe_op op_add pe_int (pe_op op_mod (pe_callTy cr_intI (by rfl) T.int (by decide +kernel) (pa_cons (pe_ix ix_list (pv 0) (pv 6) (fun _ _ => rfl)) pa_nil)) pe_int)))))
        (pss_cons (ps_if (PW.pt (pw_and (pt_cmpR op_gt (pv 5) pe_int (nomark _)) (pw_and1 (pt_cmpR op_eqI (pe_op op_mod (pe_callTy cr_intI (by rfl) T.int (by decide +kernel) (pa_cons (pe_ix ix_list (pv 0) (pe_op op_add (pv 6) pe_int) (fun _ _ => rfl)) pa_nil)) pe_int) pe_int (nomark _)))))
        (pss_cons (ps_set (i := 9) scPo6.nd rfl (Or.inl rfl) (pe_op op_mod (pe_op op_fdiv (pe_callTy cr_intI (by rfl) T.int (by decide +kernel) (pa_cons (pe_ix ix_list (pv 0) (pv 6) (fun _ _ => rfl)) pa_nil)) pe_int) (pe_callB call_len_str (by rfl) T.len (by decide +kernel) (pa_cons (pe_ix ix_list (pv 4) pe_int (fun _ _ => rfl)) pa_nil))))
          (pss_one (ps_set (i := 7) scPo6.nd rfl (Or.inl rfl) (pe_op op_add_str (pe_op op_add_str (pe_slice sl_str (pe_ix ix_list (pv 4) pe_int (fun _ _ => rfl)) po_none (po_some (pv 9))) (pe_slice sl_str (pv 7) po_none (po_some pe_int))) (pe_slice sl_str (pe_ix ix_list (pv 4) pe_int (fun _ _ => rfl)) (po_some (pe_op op_add (pv 9) pe_int)) po_none)))))
        pss_nil)
        (pss_one (ps_expr (pe_bm PySem.F.plainAttrs_list PySem.F.slot_list_append PySem.F.type_list_append mt_append (pv 4) (pa_cons (pv 7) pa_nil))))))))))
      (pss_one (ps_ret (pv 4)))))), ?_⟩
    have gn : ∀ (j : Nat), j < ns.length → ∃ x, (ns.map V.int)[j]? = some (.int x) := fun j hj => ⟨ns[j], by rw [List.getElem?_map, List.getElem?_eq_getElem hj]; rfl⟩
    walk_at "rd"
    refine ⟨Nat.zero_le _, fun p np => ?_⟩
    have s0 := same_upd (o := HO.lst []) np
    have hp0 := upd_same (H := H) (a := p) (o := HO.lst [])
    generalize upd H p (HO.lst []) = H0 at s0 hp0 ⊢
    refine for_iterW ?_
    walk_at "rd"
    obtain ⟨Pv, hPv⟩ : ∃ Pv : Nat → L2.St → Hp → Prop, Pv = (fun i σ Hx => ∃ (Y : List Str) (v5 v6 v7 v8 v9 : Option V), σ = [some (.ref a), some (.int at_), some (.int m), some (.str (Str.ofString "abcdefghijklmnopqrstuvwxyz")), some (.ref p), v5, v6, v7, v8, v9] ∧ Same H Hx ∧ Hx p = some (.lst (Y.map V.str)) ∧ Y.length = i ∧ (∀ z ∈ Y, wk 17 z ∧ 1 ≤ z.length) ∧ ∀ z, Y[0]? = some z → wk 8 z) := ⟨_, rfl⟩
    refine ⟨by omega, by omega, for_range (lo := 0) (n := ((m : Nat) : Int).toNat) Pv (by rw [hPv]; exact ⟨[], none, none, none, none, none, rfl, s0, hp0, rfl, (fun z hz => by cases hz), (fun z hz => by cases hz)⟩) (fun i σ Hx hi pv => ?_) (fun σ Hx pv => ?_)⟩
    rotate_left
    · rw [hPv] at pv
      obtain ⟨Y, v5, v6, v7, v8, v9, rfl, sm, hp, ly, wy, _⟩ := pv
      walk_at "rd"
      exact q Y p Hx ⟨by omega, wy⟩ sm np hp
    have nxt : ∀ (Y : List Str) (v5 v6 v7 v8 v9 : Option V) (Hx : Hp), Same H Hx → Hx p = some (.lst (Y.map V.str)) → Y.length = i + 1 → (∀ z ∈ Y, wk 17 z ∧ 1 ≤ z.length) → (∀ z, Y[0]? = some z → wk 8 z) → Pv (i + 1) [some (.ref a), some (.int at_), some (.int m), some (.str (Str.ofString "abcdefghijklmnopqrstuvwxyz")), some (.ref p), v5, v6, v7, v8, v9] Hx := fun Y v5 v6 v7 v8 v9 Hx h1 h2 h3 h4 h5 => by
      rw [hPv]
      exact ⟨Y, v5, v6, v7, v8, v9, rfl, h1, h2, h3, h4, h5⟩
    rw [hPv] at pv
    obtain ⟨Y, v5, v6, v7, v8, v9, rfl, sm, hp, ly, wy, gy0⟩ := pv
    have hS' := sm.seq hS
    refine sq3 fun N hN => ?_
    walk_at "rd"
    refine ⟨.inl (by decide), ?_⟩
    refine for_iterW ?_
    walk_at "rd"
    obtain ⟨hr, ehr⟩ : ∃ hr : Nat, hr = at_ + 6 * i := ⟨_, rfl⟩
    have eh : (at_ : Int) + 6 * (0 + (i : Int)) = (hr : Int) := by omega
    rw [eh]
    have hle : hr + 5 < ns.length := by omega
    refine ⟨_, hS', fun tl ntl => ?_⟩
    rw [show ((hr : Int) + 1) = ((hr + 1 : Nat) : Int) from rfl, show ((hr : Int) + 5) = ((hr + 5 : Nat) : Int) from rfl, cut_mid _ (hr + 1) (hr + 5) (by rw [List.length_map]; omega), show hr + 5 - (hr + 1) = 4 by omega, ← List.map_drop, ← List.map_take]
    obtain ⟨fs, efs⟩ : ∃ fs, fs = (ns.drop (hr + 1)).take 4 := ⟨_, rfl⟩
    have fl : fs.length = 4 := by rw [efs, List.length_take, List.length_drop]; omega
    rw [← efs]
    have s1 := same_upd (o := HO.lst (fs.map V.int)) ntl
    have htl := upd_same (H := Hx) (a := tl) (o := HO.lst (fs.map V.int))
    generalize upd Hx tl (HO.lst (fs.map V.int)) = H1 at s1 htl ⊢
    obtain ⟨Pw, hPw⟩ : ∃ Pw : Nat → L2.St → Hp → Prop, Pw = (fun j σ Hy => ∃ (z : Str) (v8 : Option V), σ = [some (.ref a), some (.int at_), some (.int m), some (.str (Str.ofString "abcdefghijklmnopqrstuvwxyz")), some (.ref p), some (.int (0 + (i : Int))), some (.int (hr : Int)), some (.str z), v8, v9] ∧ Hy = H1 ∧ z.length = 2 * j ∧ PyData.strOk z = true) := ⟨_, rfl⟩
    refine ⟨⟨_, SqL.of htl⟩, for_list (K := K) (a := tl) (xs := fs.map V.int) Pw (by rw [hPw]; exact ⟨Str.ofString "", v8, rfl, rfl, by decide +kernel, by decide +kernel⟩) (fun j σ Hy _ pv => by rw [hPw] at pv; obtain ⟨_, _, _, rfl, _⟩ := pv; exact SqL.of htl) (fun j v σ Hy gv pv => ?_) (fun σ Hy pv => ?_)⟩
    · obtain ⟨x, gx, rfl⟩ : ∃ x, fs[j]? = some x ∧ v = V.int x := by
        rw [List.getElem?_map] at gv
        cases e : fs[j]? with
        | none => rw [e] at gv; cases gv
        | some y => rw [e] at gv; exact ⟨y, rfl, (Option.some.inj gv).symm⟩
      have jl := (List.getElem?_eq_some_iff.mp gx).1
      have nx2 : ∀ z v8, z.length = 2 * (j + 1) → PyData.strOk z = true → Pw (j + 1) [some (.ref a), some (.int at_), some (.int m), some (.str (Str.ofString "abcdefghijklmnopqrstuvwxyz")), some (.ref p), some (.int (0 + (i : Int))), some (.int (hr : Int)), some (.str z), v8, v9] H1 := fun z v8 h h2 => by
        rw [hPw]
        exact ⟨z, v8, rfl, rfl, h, h2⟩
      rw [hPw] at pv
      obtain ⟨z, v8', rfl, rfl, lz, oz⟩ := pv
      have k0 := Int.emod_nonneg x (show (26 : Int) ≠ 0 by decide)
      have k1 := Int.emod_lt_of_pos x (show (0 : Int) < 26 by decide)
      have k2 := Int.emod_nonneg (x / 26) (show (26 : Int) ≠ 0 by decide)
      have k3 := Int.emod_lt_of_pos (x / 26) (show (0 : Int) < 26 by decide)
      obtain ⟨j1, ej1⟩ : ∃ j : Nat, x % 26 = j := ⟨(x % 26).toNat, by omega⟩
      obtain ⟨j2, ej2⟩ : ∃ j : Nat, (x / 26) % 26 = j := ⟨((x / 26) % 26).toNat, by omega⟩
      obtain ⟨c1, gc1, c11⟩ := letters_at (j := j1) (by omega)
      obtain ⟨c2, gc2, c21⟩ := letters_at (j := j2) (by omega)
      walk_at "rd"
      rw [ej1, ej2]
      have e1 : (Str.mk #[c1]).length = 1 := rfl
      have e2 : (Str.mk #[c2]).length = 1 := rfl
      have o1 := strOk_app oz (strOk_one c11)
      have l1 : (z ++ Str.mk #[c1]).length = 2 * j + 1 := by rw [Str.length_append, lz, e1]
      refine ⟨by decide, by decide +kernel, c1, gc1, Nat.le_of_lt (len_big (by rw [e1]; omega)), ⟨by decide, by decide⟩, by decide, by decide +kernel, c2, gc2, Nat.le_of_lt (len_big (by rw [l1, e2]; omega)), nx2 _ _ (by rw [Str.length_append, l1, e2]; omega) (strOk_app o1 (strOk_one c21))⟩
    rw [hPw] at pv
    obtain ⟨z, v8', rfl, rfl, lz, oz⟩ := pv
    rw [List.length_map, fl] at lz
    refine hN _ _ ?_
    clear hN hPw
    walk_at "rd"
    have hS1 := s1.seq hS'
    have hp1 := s1 _ _ hp
    obtain ⟨x0, g0⟩ := gn hr (by omega)
    obtain ⟨x5, g5⟩ := gn (hr + 5) (by omega)
    have m0 := Int.emod_nonneg x0 (show (8 : Int) ≠ 0 by decide)
    have m1 := Int.emod_lt_of_pos x0 (show (0 : Int) < 8 by decide)
    obtain ⟨kk, ekk, k1, k8⟩ : ∃ k : Nat, 1 + x0 % 8 = (k : Int) ∧ 1 ≤ k ∧ k ≤ 8 := ⟨(1 + x0 % 8).toNat, by omega, by omega, by omega⟩
    refine ⟨_, hS1, _, at_of (j := hr) rfl g0, x0, rfl, by decide, ?_⟩
    rw [ekk]
    have wz : wk 8 z := ⟨by omega, oz⟩
    refine ⟨z, rfl, Nat.le_of_lt (len_big (by omega)), ?_⟩
    have wy1 : wk 8 (cutS z none (some ((kk : Nat) : Int))) := wk_cut wz _ _
    have ly1 : 1 ≤ (cutS z none (some ((kk : Nat) : Int))).length := by rw [cutS_len]; omega
    generalize cutS z none (some ((kk : Nat) : Int)) = y at wy1 ly1 ⊢
    have fin : ∀ (z' : Str) (v9' : Option V), wk 17 z' → 1 ≤ z'.length → (i = 0 → wk 8 z') → tyV K "list" (V.ref p) Hy ∧ ∃ x, Hy p = some (HO.lst x) ∧ x.length < sizeLine ∧ Pv (i + 1) [some (.ref a), some (.int at_), some (.int m), some (.str (Str.ofString "abcdefghijklmnopqrstuvwxyz")), some (.ref p), some (.int (0 + (i : Int))), some (.int (hr : Int)), some (.str z'), v8', v9'] (upd Hy p (HO.lst (x ++ [V.str z']))) := fun z' v9' h1 h2 h3 => by
      refine ⟨.inl ⟨rfl, _, SqL.of hp1⟩, _, hp1, len_big (by rw [List.length_map]; omega), ?_⟩
      refine nxt (Y ++ [z']) _ _ _ _ _ _ (same_ch (sm.trans s1) np) (by rw [upd_same, List.map_append]; rfl) (by rw [List.length_append, ly]; rfl) (fun u hu => ?_) (fun u gu => ?_)
      · rcases List.mem_append.mp hu with h | h
        · exact wy u h
        · rw [List.mem_singleton.mp h]
          exact ⟨h1, h2⟩
      · by_cases c : i = 0
        · have : Y = [] := List.length_eq_zero_iff.mp (ly.trans c)
          rw [this] at gu
          have e : z' = u := Option.some.inj gu
          rw [← e]
          exact h3 c
        · rw [List.getElem?_append_left (by omega)] at gu
          exact gy0 u gu
    refine ite2 (fun c => ?_) (fun c => ?_)
    · refine ⟨_, hS1, _, at_of (j := hr + 5) rfl g5, x5, rfl, by decide, ?_⟩
      refine ite2 (fun _ => ?_) (fun _ => fin y _ (wy1.mono (by decide)) ly1 fun _ => wy1)
      have ipos : 0 < i := by omega
      obtain ⟨z0, gz0⟩ : ∃ z0, Y[0]? = some z0 := ⟨_, List.getElem?_eq_getElem (by omega)⟩
      have w0 := gy0 z0 gz0
      have l0 := (wy z0 (List.mem_of_getElem? gz0)).2
      have gy2 : (Y.map V.str)[0]? = some (.str z0) := by rw [List.getElem?_map, gz0]; rfl
      have big0 : z0.length ≤ sizeLine := Nat.le_of_lt (len_big (by have := w0.1; omega))
      refine ⟨_, hS1, _, at_of (j := hr) rfl g0, x0, rfl, ⟨by decide, by decide⟩, _, SqL.of hp1, _, atI_nat (j := 0) gy2, z0, rfl, big0, by omega, _, SqL.of hp1, _, atI_nat (j := 0) gy2, ?_⟩
      generalize x0 / 8 % (z0.length : Int) = pl
      have c1 := wk_cut w0 none (some pl)
      have c2 := wk_cut w0 (some (pl + 1)) none
      have wc : wk 1 (cutS y none (some 1)) := wk_len wy1 1
      have lc : (cutS y none (some ((1 : Nat) : Int))).length = 1 := by rw [cutS_len]; omega
      have lc : (cutS y none (some 1)).length = 1 := lc
      have w9 : wk 9 (cutS z0 none (some pl) ++ cutS y none (some 1)) := wk_app c1 wc (by decide)
      have w17 : wk 17 (cutS z0 none (some pl) ++ cutS y none (some 1) ++ cutS z0 (some (pl + 1)) none) := wk_app w9 c2 (by decide)
      refine ⟨z0, rfl, big0, y, rfl, Nat.le_of_lt (len_big (by have := wy1.1; omega)), _, rfl, _, rfl, Nat.le_of_lt (len_big (by have := c1.1; have := wc.1; omega)), _, SqL.of hp1, _, atI_nat (j := 0) gy2, z0, rfl, big0, _, rfl, Nat.le_of_lt (len_big (by have := w9.1; have := c2.1; omega)), ?_⟩
      exact fin _ _ w17 (by rw [Str.length_append, Str.length_append, lc]; omega) fun c => by omega
    · rw [if_neg id]
      exact fin y _ (wy1.mono (by decide)) ly1 fun _ => wy1
theorem scCho : FnScope ["numbers", "many"] ["numbers"] (defScope sCho) := ⟨rfl, rfl, rfl, by decide +kernel, rfl, by decide +kernel, by decide +kernel⟩
def spCho (K : PySem.W.Frag) : Sp := fun vs H Q _ => ∃ (a : Addr) (ns : List Int), vs = [.ref a] ∧ SqL K H a (ns.map V.int) ∧ 98 ≤ ns.length ∧ ∀ (Z : List Str) p H', 1 ≤ Z.length → Z.length ≤ 12 → (∀ z ∈ Z, wk 17 z ∧ 1 ≤ z.length) → Same H H' → H p = none → H' p = some (.lst (Z.map V.str)) → Q (.ref p) H'
theorem cut_takeP (xs : List V) (k : Nat) : cutV xs none (some ((k : Nat) : Int)) = xs.take k := by
  unfold cutV
  rw [show HT.sIx xs.length xs.length (some ((k : Nat) : Int)) = min k xs.length from HT.sIx_nat xs.length xs.length k, HT.sIx_none, List.drop_zero, Nat.sub_zero]
  by_cases h : k ≤ xs.length
  · rw [Nat.min_eq_left h]
  · rw [Nat.min_eq_right (by omega), List.take_length, List.take_of_length_le (by omega)]
theorem ok_cho {f f1 : Addr} {fd fd1 : FuncData} (F : Fun K "_law_choice" "_law_choice" sCho f fd) (T : Bi mg) (d__law_pool : Df P w K mg base "_law_pool" ["numbers", "at", "many"] 1 (spPo6 K) f1 fd1) : FnOk P w K mg base CX0 2 f fd ["numbers"] (spCho K) := by
  refine F.ok scCho (fun vs H Q E h => ?_) (fun cdv A0 outer s H vs Q E hr h => ?_)
  · obtain ⟨a, ns, rfl, _⟩ := h
    rfl
  · obtain ⟨a, ns, rfl, hS, hn, q⟩ := h
    refine ⟨_, (pss_cons (ps_set (i := 1) scCho.nd rfl (Or.inl rfl) (pe_op op_add pe_int (pe_op op_mod (pe_callTy cr_intI (by rfl) T.int (by decide +kernel) (pa_cons (pe_ix ix_list (pv 0) pe_int (fun _ _ => rfl)) pa_nil)) pe_int)))
      (pss_cons (ps_if (pt_cmpR op_lt (pe_op op_mod (pe_op op_fdiv (pe_callTy cr_intI (by rfl) T.int (by decide +kernel) (pa_cons (pe_ix ix_list (pv 0) pe_int (fun _ _ => rfl)) pa_nil)) pe_int) pe_int) pe_int (nomark _))
      (pss_one (ps_ret (pe_slice sl_list (pe_call d__law_pool.ok (hr.mono (by decide)) (by rfl) d__law_pool.at_ d__law_pool.kp d__law_pool.b .nil pass0 (pa_cons (pv 0) (pa_cons pe_int (pa_cons pe_int pa_nil)))) po_none (po_some (pv 1)))))
      pss_nil)
      (pss_one (ps_ret (pe_slice sl_list (pe_op op_cat (pe_call d__law_pool.ok (hr.mono (by decide)) (by rfl) d__law_pool.at_ d__law_pool.kp d__law_pool.b .nil pass0 (pa_cons (pv 0) (pa_cons pe_int (pa_cons pe_int pa_nil)))) (pe_call d__law_pool.ok (hr.mono (by decide)) (by rfl) d__law_pool.at_ d__law_pool.kp d__law_pool.b .nil pass0 (pa_cons (pv 0) (pa_cons pe_int (pa_cons pe_int pa_nil))))) po_none (po_some (pe_op op_add pe_int (pe_op op_mod (pe_op op_fdiv (pe_callTy cr_intI (by rfl) T.int (by decide +kernel) (pa_cons (pe_ix ix_list (pv 0) pe_int (fun _ _ => rfl)) pa_nil)) pe_int) pe_int)))))))), ?_⟩
    walk_at "rd"
    obtain ⟨x, gx⟩ : ∃ x, (ns.map V.int)[24]? = some (.int x) := ⟨ns[24]'(by omega), by rw [List.getElem?_map, List.getElem?_eq_getElem (by omega)]; rfl⟩
    refine ⟨_, hS, _, at_of (j := 24) rfl gx, x, rfl, by decide, _, hS, _, at_of (j := 24) rfl gx, x, rfl, ⟨by decide, by decide⟩, by decide, ?_⟩
    have m0 := Int.emod_nonneg x (show (4 : Int) ≠ 0 by decide)
    have m1 := Int.emod_lt_of_pos x (show (0 : Int) < 4 by decide)
    have n0 := Int.emod_nonneg (x / 16) (show (8 : Int) ≠ 0 by decide)
    have n1 := Int.emod_lt_of_pos (x / 16) (show (0 : Int) < 8 by decide)
    refine ite2 (fun _ => ?_) (fun _ => ?_)
    · refine ⟨a, ns, 0, 4, rfl, hS, by omega, by omega, fun Z p H1 wz s1 np hp => ?_⟩
      refine ⟨p, rfl, _, SqL.of hp, fun p2 np2 => ?_⟩
      obtain ⟨k, ek, k1, k4⟩ : ∃ k : Nat, 1 + x % 4 = (k : Int) ∧ 1 ≤ k ∧ k ≤ 4 := ⟨(1 + x % 4).toNat, by omega, by omega, by omega⟩
      rw [ek, cut_takeP, ← List.map_take]
      exact q (Z.take k) p2 _ (by rw [List.length_take, wz.1]; omega) (by rw [List.length_take, wz.1]; omega) (fun z hz => wz.2 z (List.mem_of_mem_take hz)) (s1.trans (same_upd np2)) (s1.free np2) upd_same
    · refine ⟨a, ns, 0, 4, rfl, hS, by omega, by omega, fun Z p H1 wz s1 np hp => ⟨a, ns, 50, 8, rfl, s1.seq hS, by omega, by omega, fun Y p2 H2 wy s2 np2 hp2 => ?_⟩⟩
      refine ⟨p, p2, _, _, rfl, rfl, s2 _ _ hp, hp2, Nat.le_of_lt (len_big (by rw [List.length_map, List.length_map, wz.1, wy.1]; decide)), fun p3 np3 => ?_⟩
      have s3 := same_upd (o := HO.lst (Z.map V.str ++ Y.map V.str)) np3
      have hp3 := upd_same (H := H2) (a := p3) (o := HO.lst (Z.map V.str ++ Y.map V.str))
      generalize upd H2 p3 (HO.lst (Z.map V.str ++ Y.map V.str)) = H3 at s3 hp3 ⊢
      have s03 := (s1.trans s2).trans s3
      obtain ⟨k, ek, k1, k4⟩ : ∃ k : Nat, 5 + x / 16 % 8 = (k : Int) ∧ 5 ≤ k ∧ k ≤ 12 := ⟨(5 + x / 16 % 8).toNat, by omega, by omega, by omega⟩
      refine ⟨_, s03.seq hS, _, at_of (j := 24) rfl gx, x, rfl, ⟨by decide, by decide⟩, by decide, p3, rfl, _, SqL.of hp3, fun p4 np4 => ?_⟩
      rw [ek, cut_takeP, ← List.map_append, ← List.map_take]
      refine q ((Z ++ Y).take k) p4 _ (by rw [List.length_take, List.length_append, wz.1, wy.1]; omega) (by rw [List.length_take, List.length_append, wz.1, wy.1]; omega) (fun z hz => ?_) (s03.trans (same_upd np4)) (s03.free np4) upd_same
      exact (List.mem_append.mp (List.mem_of_mem_take hz)).elim (wz.2 z) (wy.2 z)
end

/-! ### pairs between blocks: theory -/
def Gx (D : List Pr) (bi bo : Blk) (x : Int) : List Pr := if besB D (rmsB bi) x = true ∧ bi.w ≠ none ∧ bi.w ≠ bo.w then bi.t.map fun z => ((z, x) : Pr) else []

theorem flat_nil {α β : Type} {f : α → List β} : ∀ l : List α, (∀ a ∈ l, f a = []) → l.flatMap f = []
  | [], _ => rfl
  | a :: l, h => by
    rw [List.flatMap_cons, h a List.mem_cons_self, flat_nil l fun b hb => h b (List.mem_cons_of_mem _ hb)]
    rfl

theorem pairB_eq (D : List Pr) (bi bo : Blk) : pairB D bi bo = bo.t.flatMap (Gx D bi bo) := by
  unfold pairB Gx
  cases e : bi.w with
  | none => exact (flat_nil _ fun x _ => if_neg fun h => h.2.1 rfl).symm
  | some z =>
    by_cases c : bo.w = some z
    · refine Eq.trans (if_pos c) ?_
      exact (flat_nil _ fun x _ => if_neg fun h => h.2.2 c.symm).symm
    · refine Eq.trans (if_neg c) ?_
      congr 1
      funext x
      by_cases d : besB D (rmsB bi) x = true
      · rw [if_pos d, if_pos ⟨d, ⟨(fun q => nomatch q), (fun q => c q.symm)⟩⟩]
      · rw [if_neg d, if_neg fun h => d h.1]

theorem Gx_len {D : List Pr} {bi bo : Blk} {x : Int} (h : bi.t.length ≤ 12) : (Gx D bi bo x).length ≤ 12 := by
  unfold Gx
  split
  · rw [List.length_map]
    exact h
  · exact Nat.zero_le _

theorem srt_uniq {A B : List Pr} (p : A.Perm B) (h : A.Pairwise fun a b => SrtO.lexB b a = false) (k : B.Pairwise fun a b => SrtO.lexB b a = false) : A = B := by
  refine List.Perm.eq_of_pairwise (fun a b _ _ h1 h2 => ?_) h k p
  have h1 := SrtO.lexB_no.mp h1
  have h2 := SrtO.lexB_no.mp h2
  apply Prod.ext <;> omega

theorem pairsF_len {D : List Pr} {L : List Cl} {r : Nat} (r12 : r ≤ 12) : (pairsF D (formF D r L)).length ≤ 20736 := by
  have key : ∀ {α : Type} (l : List α) (f : α → List Pr) (n : Nat), (∀ a ∈ l, (f a).length ≤ n) → (l.flatMap f).length ≤ n * l.length := fun l f n h => by
    induction l with
    | nil => exact Nat.zero_le _
    | cons a l ih =>
      rw [List.flatMap_cons, List.length_append, List.length_cons, Nat.mul_succ]
      have h1 := h a List.mem_cons_self
      have h2 := ih fun b hb => h b (List.mem_cons_of_mem _ hb)
      omega
  have bl12 : (preF 13 (formF D r L)).length ≤ 12 := by
    have := (pre_rlen (D := D) (L := L) 13 12 (rg r)).2
    rw [rg_len] at this
    unfold formF
    omega
  unfold pairsF
  refine Nat.le_trans (key _ _ 1728 fun bo hbo => ?_) (by omega)
  obtain ⟨k', P', e1, e2, e3⟩ := pre_of 13 12 _ bo hbo
  have f1 := blk_facts (D := D) (L := L) (k := k') r12 e2 e3
  rw [← e1] at f1
  refine Nat.le_trans (key _ _ 144 fun bi hbi => ?_) (by have := f1.2.2.2.2.1; omega)
  obtain ⟨k2, P2, e4, e5, e6⟩ := f1.2.2.2.2.2 bi hbi
  have f2 := blk_facts (D := D) (L := L) (k := k2) r12 e5 e6
  rw [← e4] at f2
  exact pairB_len f2.2.2.1 f1.2.2.1


/-! ### a dict comprehension with two fors: the model's turns -/
abbrev dx2 (kx vx ta ia tb ib : Expr) (ca cb : List Expr) (sc : Scope) (ps : Pos) : Expr := .DictComp kx vx [⟨ta, ia, ca, 0⟩, ⟨tb, ib, cb, 0⟩] sc ps
/-- the tests of a clause, one behind the other -/
abbrev testsB (cs : List Expr) (e : Env) : Sem Bool := forIn cs true fun c b => if b = true then (isTrue c e (eval c e)) >>= fun z => pure (ForInStep.yield z) else pure (ForInStep.yield b)
section
variable {p : Program} {w : World} {A : Around} {kx vx ta ia tb ib : Expr} {ca cb : List Expr} {sc : Scope} {ps : Pos} {it acc : Value} {D : Addr} {e : Env}
abbrev badE (p : Program) (w : World) (A : Around) (e : Env) (R : Result → Shared → Prop) : Value → Shared → Prop := notedBy (model p w) A e fun x s => R (.error x) s
theorem d2_first : compTurn (dx2 kx vx ta ia tb ib ca cb sc ps) 0 it acc e = (standAt ia.pos >>= fun _ => pyNext it >>= fun r => match r with
    | none => pure (.done .next)
    | some v => letOwnedTupleGo ta it v >>= fun _ => assign ta e v >>= fun _ => testsB ca e >>= fun ok =>
      if ok = true then eval ib e >>= fun x => standAt ib.pos >>= fun _ => foldedSetIterable ib e x >>= fun x => holding [x] (pyIter x) >>= fun i1 => runOwn (.compStart (dx2 kx vx ta ia tb ib ca cb sc ps) 1 i1 acc e) e >>= fun _ => again (.compLoop (dx2 kx vx ta ia tb ib ca cb sc ps) 0 it acc e)
      else again (.compLoop (dx2 kx vx ta ia tb ib ca cb sc ps) 0 it acc e)) := by rfl
theorem d2_second : compTurn (dx2 kx vx ta ia tb ib ca cb sc ps) 1 it (.ref D) e = (standAt ib.pos >>= fun _ => pyNext it >>= fun r => match r with
    | none => pure (.done .next)
    | some v => letOwnedTupleGo tb it v >>= fun _ => assign tb e v >>= fun _ => testsB cb e >>= fun ok =>
      if ok = true then (eval kx e >>= fun k => holding [k] (eval vx e) >>= fun v => standAt { kx.pos with endLine := vx.pos.endLine, endCol := vx.pos.endCol } >>= fun _ => holding [k, v] (dictSet D k v)) >>= fun _ => again (.compLoop (dx2 kx vx ta ia tb ib ca cb sc ps) 1 it (.ref D) e)
      else again (.compLoop (dx2 kx vx ta ia tb ib ca cb sc ps) 1 it (.ref D) e)) := by rfl
/-- the start of the second clause -/
theorem d2_start {R : Result → Shared → Prop} {s : Shared} (h1 : codeAny (model p w) A (.compLoop (dx2 kx vx ta ia tb ib ca cb sc ps) 1 it acc e) R s)
    (h2 : wpAny (model p w) A (pyIter it) (fun i s => codeAny (model p w) A (.compLoop (dx2 kx vx ta ia tb ib ca cb sc ps) 1 i acc e) R s) (badE p w A e R) s) : codeAny (model p w) A (.compStart (dx2 kx vx ta ia tb ib ca cb sc ps) 1 it acc e) R s := by
  apply codeAny_of_tree
  refine (wpAny_notedAt (m := compStart (dx2 kx vx ta ia tb ib ca cb sc ps) 1 it acc e) (pos := theWindowsPlace) ?_ : wpAny _ _ (Sem.onRaise _ _) _ _ _)
  unfold compStart
  apply wpAny_bind
  apply wpAny_askSetting
  apply wpAny_ite
  split
  · exact wpAny_pure ⟨rfl, h1⟩
  · exact wpAny_bind (wpAny_rule (wpAny_bind (wpAny_standAt (wpAny_bind (wpAny_mono h2 (fun i s h => wpAny_pure ⟨rfl, h⟩) fun _ _ h => h)))))
end
/-- a loop of a comprehension's clause: what a turn leaves, and the end -/
theorem turns_ok {Y : Cx} (hc : Y.calm = true) {pins : List (Addr × Obj)} {σ : L2.St} {kx vx ta ia tb ib : Expr} {ca cb : List Expr} {sc : Scope} {ps : Pos} {k : Nat} {it : Addr} {acc : Value} {R : Result → Shared → Prop} {tg : Expr} {q : Pos} {rest : Value → Sem PySem.Fin} {J : It} {fp : List Addr} {tn : Nat → Heap → Prop}
    (eq : compTurn (dx2 kx vx ta ia tb ib ca cb sc ps) k (.ref it) acc Y.env = (standAt q >>= fun _ => pyNext (.ref it) >>= fun r => match r with
      | none => pure (.done .next)
      | some v => letOwnedTupleGo tg (.ref it) v >>= fun _ => rest v))
    (T : Turn Y.prog Y.w Y.K tg J fp it tn) (own : ∀ H : Hp, (∀ b ∈ fp, H b = none) → ∀ b ∈ fp, FpOk Y pins H b) (W : Nat → Nat → Hp → Prop)
    (turn : ∀ i n H, W i n H → (J.stop i H ∧ ∀ s, Inv Y pins σ H s → R (.ok .next) s) ∨ (J.go i H ∧ ∀ (v : Value) x H1 h s, J.yld i H x H1 → RelV x v → Inv Y (pins ++ pinsAt fp h) σ H1 s → ∀ Z : Shared → Prop,
      (∀ σ9 H9 s9, Inv Y (pins ++ pinsAt fp h) σ9 H9 s9 → σ.length = σ9.length → (∀ (j : Nat) v, σ[j]? = some (some v) → σ9[j]? = some (some v)) → (∃ n', n' < n ∧ W (i + 1) n' H9) → Z s9) →
        wpAny (model Y.prog Y.w) Y.A (rest v) (fun f s => f = .again (.compLoop (dx2 kx vx ta ia tb ib ca cb sc ps) k (.ref it) acc Y.env) ∧ Z s) (fun _ _ => False) s))
    {s0 : Shared} {H0 : Hp} {n0 : Nat} (I0 : Inv Y pins σ H0 s0) (t0 : tn 0 s0.heap) (f0 : ∀ b ∈ fp, H0 b = none) (w0 : W 0 n0 H0) : codeAny (model Y.prog Y.w) Y.A (.compLoop (dx2 kx vx ta ia tb ib ca cb sc ps) k (.ref it) acc Y.env) R s0 := by
  refine codeAny_loop rfl (fun n s => ∃ i H, Inv Y pins σ H s ∧ tn i s.heap ∧ (∀ b ∈ fp, H b = none) ∧ W i n H) (fun n s hI => ?_) n0 ⟨0, H0, I0, t0, f0, w0⟩
  obtain ⟨i, H, I, st, nf, w⟩ := hI
  show wpAny _ Y.A (Sem.onRaise (compTurn (dx2 kx vx ta ia tb ib ca cb sc ps) k (.ref it) acc Y.env) fun x => noteFrame x Y.env >>= fun _ => theTreesLotGoes x) _ _ s
  refine wpAny_noted ?_
  rw [eq]
  apply wpAny_bind
  apply wpAny_standAt
  apply wpAny_bind
  rcases turn i n H w with ⟨stop, fin⟩ | ⟨go, step⟩
  · refine thnF (T.done Y rfl rfl rfl hc i pins s σ H (fun _ _ => False) I (own H nf) st stop) fun r s1 h1 => ?_
    obtain ⟨rfl, I1⟩ := h1
    exact wpAny_pure (fin s1 I1)
  · refine thnF (T.item Y rfl rfl rfl hc i pins s σ H (fun _ _ => False) I (own H nf) st go) fun r s1 h1 => ?_
    obtain ⟨u, rfl, h2⟩ := h1
    refine wpAny_bind (thnF h2 fun _ s2 h3 => ?_)
    obtain ⟨x, H1, I1, ru, y, st1, n1⟩ := h3
    have ob := T.obj _ _ st1
    refine thnF (step u x H1 s2.heap s2 y ru (I1.pinned (own H1 n1) ob) (fun s => ∃ m, m < n ∧ ∃ i H, Inv Y pins σ H s ∧ tn i s.heap ∧ (∀ b ∈ fp, H b = none) ∧ W i m H) fun σ9 H9 s9 I9 hl hk w9 => ?_) fun f s3 h => ?_
    · obtain ⟨n', ln, w'⟩ := w9
      have pin9 : ∀ b ∈ fp, ∀ o, s2.heap.get? b = some o → s9.heap.get? b = some o ∧ H9 b = none := fun b hb o e => by
        have z := I9.pin (b, o) (List.mem_append_right _ (List.mem_append_right _ (mem_pinsAt hb e)))
        exact ⟨z.1, z.2.1⟩
      exact ⟨n', ln, i + 1, H9, I9.unpinned.weak hl hk, T.keep _ _ _ st1 fun b hb o e => (pin9 b hb o e).1, fun b hb => (ob b hb).elim fun o z => (pin9 b hb o z.1).2, w'⟩
    · obtain ⟨rfl, z⟩ := h
      exact ⟨rfl, z⟩
/-- {k: v for .. in .. for .. in ..}: the dict stands at D -/
def tDc2 (wa : TI) (ga : TG) (ua : TT) (wb : TI) (gb : TG) (ub : TT) (tk tv : TE) (va vb : List Nat) : TE := fun σ H Q => wa σ H fun J H0 => ∀ D, H0 D = none → ∃ W : Nat → Nat → Hp → Prop, (∃ n, W 0 n (upd H0 D (.dK []))) ∧ ∀ i n H, W i n H →
  (J.stop i H ∧ Q (.ref D) H) ∨ (J.go i H ∧ ∃ Z : Hp → Prop, (∀ H, Z H → ∃ n', n' < n ∧ W (i + 1) n' H) ∧ ∀ x H1, J.yld i H x H1 → ga x (wipe σ va) H1 fun σ1 H2 => wipe σ1 va = wipe σ va ∧ ua σ1 H2 fun c H3 =>
    if c = true then wb σ1 H3 fun G H4 => ∃ V1 : Nat → Nat → Hp → Prop, (∃ n, V1 0 n H4) ∧ ∀ j k H, V1 j k H →
      (G.stop j H ∧ Z H) ∨ (G.go j H ∧ ∃ Y : Hp → Prop, (∀ H, Y H → ∃ k', k' < k ∧ V1 (j + 1) k' H) ∧ ∀ x H5, G.yld j H x H5 → gb x (wipe σ1 vb) H5 fun σ2 H6 => wipe σ2 vb = wipe σ1 vb ∧ ub σ2 H6 fun c H7 =>
        if c = true then tk σ2 H7 fun a H8 => tv σ2 H8 fun b H9 => ∃ kvs k, a = kV k ∧ H9 D = some (.dK kvs) ∧ kvs.length < sizeLine ∧ Y (upd H9 D (.dK (putK kvs k b))) else Y H7)
    else Z H3)
section
variable {X : Cx}
theorem pe_dc2 {kx vx ta ia tb ib : Expr} {ca cb : List Expr} {sc : Scope} {own : List (Str × Nat)} {vb : List Nat} {ps : Pos} {wa wb : TI} {ga gb : TG} {ua ub : TT} {tk tv : TE} (hc : X.calm = true) (hN : X.N.Nodup) (pa : PI X ta ia wa) (ok : BlkOk X.N X.env.scope sc own) (hv : ∀ i ∈ vb, i ∈ own.map (·.2))
    (h1 : ∀ (s : Shared) (H : Hp) (C : Addr) (cl : List (Str × Addr)) (fp : List Addr), PG (X.blk s H sc (compEnvC sc cl C X.env) fp) ta ga) (h2 : ∀ (s : Shared) (H : Hp) (C : Addr) (cl : List (Str × Addr)) (fp : List Addr), PTs (X.blk s H sc (compEnvC sc cl C X.env) fp) ca ua)
    (h3 : ∀ (s : Shared) (H : Hp) (C : Addr) (cl : List (Str × Addr)) (fp : List Addr), PI (X.blk s H sc (compEnvC sc cl C X.env) fp) tb ib wb) (h4 : ∀ (s : Shared) (H : Hp) (C : Addr) (cl : List (Str × Addr)) (fp : List Addr), PG (X.blk s H sc (compEnvC sc cl C X.env) fp) tb gb)
    (h5 : ∀ (s : Shared) (H : Hp) (C : Addr) (cl : List (Str × Addr)) (fp : List Addr), PTs (X.blk s H sc (compEnvC sc cl C X.env) fp) cb ub) (h6 : ∀ (s : Shared) (H : Hp) (C : Addr) (cl : List (Str × Addr)) (fp : List Addr), PE (X.blk s H sc (compEnvC sc cl C X.env) fp) kx tk)
    (h7 : ∀ (s : Shared) (H : Hp) (C : Addr) (cl : List (Str × Addr)) (fp : List Addr), PE (X.blk s H sc (compEnvC sc cl C X.env) fp) vx tv) (n1 : ∀ x, foldedSetIterable ia X.env x = pure x := by intro _; rfl) (n2 : ∀ e x, foldedSetIterable ib e x = pure x := by intro _ _; rfl) :
    PE X (dx2 kx vx ta ia tb ib ca cb sc ps) (tDc2 wa ga ua wb gb ub tk tv (own.map (·.2)) vb) := by
  constructor
  intro pins s σ H Q I h
  unfold dx2
  rw [arm_eval_DictComp]
  have cells : ∀ y ∈ sc.names, y.2 = .free → ∃ c, X.env.cells.lookup y.1 = some c := fun y hy e => (ok.free y hy e).elim (fun k => I.ok.has _ (.inl k)) fun k => I.ok.has _ (.inr k)
  refine wpAny_comprehension_free rfl n1 (closure_ok cells) ok.kind (fun y hy e => by rw [ok.uniq y hy, e]) (thn (pa.run pins s σ H _ I h) fun _ _ hx => thn hx fun _ s0 h0 => ?_)
  obtain ⟨it, fp, tn, J, H0, rfl, I0, T, t0, f0, q⟩ := h0
  refine wpAny_newObj_type ?_
  refine newEnv_comp ?_
  obtain ⟨D, eD⟩ : ∃ D, s0.heap.objs.size = D := ⟨_, rfl⟩
  obtain ⟨W, ⟨n0, w0⟩, turn⟩ := q D (I0.hok.fresh (Nat.le_of_eq eD))
  rw [eD]
  obtain ⟨s3, e3⟩ : ∃ s3 : Shared, s3 = { s0 with heap := s0.heap.push { cls := .type "dict", data := .dict #[] } } := ⟨_, rfl⟩
  have I3 : Inv X pins σ (upd H0 D (.dK [])) s3 := by
    rw [e3]
    refine I0.laid (t' := s0.toks) (fun b o e => Heap.get?_push_of_some _ e) (Nat.le_of_eq eD) ?_
    rw [← eD]
    exact dk_empty s0.heap I0.big
  have k3 : s3.heap = s0.heap.push { cls := .type "dict", data := .dict #[] } := by rw [e3]
  have f3 : ∀ b ∈ fp, FpOk X pins (upd H0 D (.dK [])) b ∧ b < s3.heap.objs.size := fun b hb => by
    obtain ⟨o, e, _⟩ := T.obj _ _ t0 b hb
    have lt := Heap.lt_size e
    refine ⟨⟨?_, (f0 b hb).2⟩, by rw [k3, Heap.size_push]; exact Nat.lt_succ_of_lt lt⟩
    rw [upd_ne (by rw [← eD]; exact Nat.ne_of_lt lt)]
    exact (f0 b hb).1
  have t3 : tn 0 s3.heap := T.keep _ _ _ t0 fun b _ o e => by rw [k3]; exact Heap.get?_push_of_some _ e
  have B := block_start I3 ok hN f3
  obtain ⟨H3, eH⟩ : ∃ H3, H3 = upd H0 D (.dK []) := ⟨_, rfl⟩
  rw [← eH] at I3 f3 B w0
  obtain ⟨ce, ee⟩ : ∃ ce, ce = compEnvC sc (cellsFrom (s3.heap.objs.size + 1) sc.names (cloFrom X.env.cells sc.names [])) s3.heap.objs.size X.env := ⟨_, rfl⟩
  obtain ⟨s4, e4⟩ : ∃ s4 : Shared, s4 = { s3 with heap := pushCells (s3.heap.push { cls := .type "dict", data := .dict #[] }) sc.names } := ⟨_, rfl⟩
  have t4 : tn 0 s4.heap := T.keep _ _ _ t3 fun b _ o e => by rw [e4]; exact pushCells_keeps _ _ _ _ (Heap.get?_push_of_some _ e)
  have p1 := h1 s3 H3 s3.heap.objs.size (cellsFrom (s3.heap.objs.size + 1) sc.names (cloFrom X.env.cells sc.names [])) fp
  have p2 := h2 s3 H3 s3.heap.objs.size (cellsFrom (s3.heap.objs.size + 1) sc.names (cloFrom X.env.cells sc.names [])) fp
  have p3 := h3 s3 H3 s3.heap.objs.size (cellsFrom (s3.heap.objs.size + 1) sc.names (cloFrom X.env.cells sc.names [])) fp
  have p4 := h4 s3 H3 s3.heap.objs.size (cellsFrom (s3.heap.objs.size + 1) sc.names (cloFrom X.env.cells sc.names [])) fp
  have p5 := h5 s3 H3 s3.heap.objs.size (cellsFrom (s3.heap.objs.size + 1) sc.names (cloFrom X.env.cells sc.names [])) fp
  have p6 := h6 s3 H3 s3.heap.objs.size (cellsFrom (s3.heap.objs.size + 1) sc.names (cloFrom X.env.cells sc.names [])) fp
  have p7 := h7 s3 H3 s3.heap.objs.size (cellsFrom (s3.heap.objs.size + 1) sc.names (cloFrom X.env.cells sc.names [])) fp
  suffices goal : codeAny (model X.prog X.w) X.A (.compStart (dx2 kx vx ta ia tb ib ca cb sc ps) 0 (.ref it) (.ref D) ce) (compPost (model X.prog X.w) X.A X.xe none (EP X pins σ Q) (.ref D) s3.heap.objs.size) s4 by
    rw [ee, e4, e3] at goal
    exact goal
  rw [← ee] at p1 p2 p3 p4 p5 p6 p7 B
  rw [← e4] at B
  have cl : ce.locals = s3.heap.objs.size := by rw [ee]; rfl
  have nf : ∀ b ∈ fp, H3 b = none := fun b hb => (f3 b hb).1.1
  obtain ⟨Y, eY⟩ : ∃ Y, Y = X.blk s3 H3 sc ce fp := ⟨_, rfl⟩
  have own0 : ∀ H : Hp, (∀ b ∈ fp, H b = none) → ∀ b ∈ fp, FpOk (X.blk s3 H3 sc ce fp) [] H b := fun H hn b hb => ⟨hn b hb, (B.ok.exf b hb).1, B.ok.exfs b hb, .inl hb, fun x c e => (B.ok.exf b hb).2 x c e, fun p hp => nomatch (show p ∈ ([] : List (Addr × Obj)) from hp)⟩
  have loop : codeAny (model X.prog X.w) X.A (.compLoop (dx2 kx vx ta ia tb ib ca cb sc ps) 0 (.ref it) (.ref D) ce) (compPost (model X.prog X.w) X.A X.xe none (EP X pins σ Q) (.ref D) s3.heap.objs.size) s4 := by
    refine turns_ok (Y := X.blk s3 H3 sc ce fp) hc (pins := []) (σ := wipe σ (own.map (·.2))) d2_first T own0 W (fun i n H wi => ?_) B t4 nf w0
    rcases turn i n H wi with ⟨stop, qq⟩ | ⟨go, Z, hZ, step⟩
    · refine .inl ⟨stop, fun s9 I9 => ?_⟩
      have I10 : Inv X pins σ H s9 := I3.call' (ch := fp) I9.os I9.base I9.hok I9.bare fun b hb => (f3 b hb).1.2.elim fun g1 g => ⟨g.2.1, g1, g.2.2.1, g.2.2.2⟩
      have nC : H ce.locals = none := I9.free
      obtain ⟨m, hm, _⟩ := I9.loc
      have hm : s9.heap.Ns ce.locals m := hm
      rw [cl] at hm nC
      obtain ⟨g0, g1, g2, g3, g4, g5⟩ := I3.fpOk (H' := H) (Nat.le_refl _) nC
      exact ⟨m, hm, fun _ sb => ⟨.ref D, H, I10.turned (t' := s9.toks) (fun b _ hb e => (sb.2 b hb).trans e) g0 g1 g3 g4 g5, rfl, qq⟩⟩
    · refine .inr ⟨go, fun v x H1 hh s5 y rv I5 Zs fin => ?_⟩
      refine wpAny_bind (thnF (p1.run _ s5 _ H1 x v _ I5 rv (step x H1 y)) fun _ s6 h6 => ?_)
      obtain ⟨σ6, H6, I6, w6, q6⟩ := h6
      refine wpAny_bind (thnF (p2.run _ s6 σ6 H6 _ I6 q6) fun c s7 h7 => ?_)
      obtain ⟨H7, I7, q7⟩ := h7
      have len6 : (wipe σ (own.map (·.2))).length = σ6.length := by rw [← w6, wipe_length]
      have kp6 : ∀ (j : Nat) v, (wipe σ (own.map (·.2)))[j]? = some (some v) → σ6[j]? = some (some v) ∧ j ∉ own.map (·.2) := fun j v e => by
        rw [← w6] at e
        exact wipe_some e
      cases c with
      | false => exact wpAny_pure ⟨rfl, fin σ6 H7 s7 I7 len6 (fun j v e => (kp6 j v e).1) (hZ H7 q7)⟩
      | true =>
        refine wpAny_bind (thnF (p3.run _ s7 σ6 H7 _ I7 q7) fun xv s8 hx => ?_)
        refine wpAny_bind (wpAny_standAt (wpAny_bind (wpAny_of_eq (n2 _ _) (wpAny_bind (wpAny_holding (thnF hx fun itv s9 h9 => ?_))))))
        obtain ⟨i1, fp1, tn1, J1, H9, rfl, I9, T1, t9, f9, V1, ⟨k0, v0⟩, turn1⟩ := h9
        have run1 : codeAny (model X.prog X.w) X.A (.compLoop (dx2 kx vx ta ia tb ib ca cb sc ps) 1 (.ref i1) (.ref D) ce) (fun r s => match r with
            | .ok _ => Zs s
            | .error _ => False) s9 := by
          refine turns_ok (Y := X.blk s3 H3 sc ce fp) hc (pins := [] ++ pinsAt fp hh) (σ := wipe σ6 vb) d2_second T1 (fun _ hn b hb => ⟨hn b hb, (f9 b hb).2⟩) V1 (fun j k H vj => ?_) (I9.weak (wipe_length _ _) fun _ _ e => (wipe_some e).1) t9 (fun b hb => (f9 b hb).1) v0
          rcases turn1 j k H vj with ⟨stop1, z1⟩ | ⟨go1, Y1, hY, step1⟩
          · refine .inl ⟨stop1, fun sa Ia => fin _ H sa Ia (len6.trans (wipe_length σ6 vb).symm) (fun j v e => ?_) (hZ H z1)⟩
            obtain ⟨e1, e2⟩ := kp6 j v e
            exact (wipe_out fun z => e2 (hv j z)).trans e1
          · refine .inr ⟨go1, fun v x Ha hb sa y rv Ia Zb finb => ?_⟩
            refine wpAny_bind (thnF (p4.run _ sa _ Ha x v _ Ia rv (step1 x Ha y)) fun _ sc1 hc1 => ?_)
            obtain ⟨σA, HA, IA, wA, qA⟩ := hc1
            have lenA : (wipe σ6 vb).length = σA.length := by rw [← wA, wipe_length]
            have kpA : ∀ (j : Nat) v, (wipe σ6 vb)[j]? = some (some v) → σA[j]? = some (some v) := fun j v e => by
              rw [← wA] at e
              exact (wipe_some e).1
            refine wpAny_bind (thnF (p5.run _ sc1 σA HA _ IA qA) fun c sB hB => ?_)
            obtain ⟨HB, IB, qB⟩ := hB
            cases c with
            | false => exact wpAny_pure ⟨rfl, finb σA HB sB IB lenA kpA (hY HB qB)⟩
            | true =>
              refine wpAny_bind (wpAny_bind (thnF (p6.run _ sB σA HB _ IB qB) fun ku sC hC => ?_))
              obtain ⟨a, HC, IC, ra, qC⟩ := hC
              refine wpAny_bind (wpAny_holding (thnF (p7.run _ sC σA HC _ IC qC) fun vu sD hD => ?_))
              obtain ⟨b, HD, ID, rb, kvs, kk, rfl, hDD, hz, nx⟩ := hD
              exact wpAny_bind (wpAny_standAt (wpAny_holding (d_dictSet (X := X.blk s3 H3 sc ce fp) ID hDD hz ra rb fun sE IE => wpAny_pure ⟨rfl, finb σA _ sE IE lenA kpA (hY _ nx)⟩)))
        apply wpAny_bind
        apply wpAny_runOwn ?_
        rw [Around.mark_none]
        refine codeAny_mono (d2_start run1 (T1.self X.A 0 _ _ _ t9 run1)) fun r sz hr => ?_
        cases r with
        | ok f => exact wpAny_pure ⟨rfl, hr⟩
        | error e => exact hr.elim
  exact codeAny_compStart_dict loop (T.self X.A 0 _ _ _ t4 loop)
end

/-! ### words_by_form -/
abbrev sWoF : Stmt := topS 26
theorem rg_nd (r : Nat) : (rg r).Nodup := by
  unfold rg
  refine List.pairwise_map.mpr (List.Pairwise.imp (fun {a b} h z => h ?_) (List.nodup_range (n := r)))
  have z : ((a : Nat) : Int) = (b : Nat) := z
  omega
theorem pre_part {D : List Pr} {L : List Cl} : ∀ (m k : Nat) (R : List Int), ∀ b ∈ preF m (blkF D L k R), ∃ k' P, b = blkP D L k' P ∧ Part D P ∧ ∀ x ∈ P, x ∈ R
  | 0, _, _, _, h => by cases h
  | _ + 1, 0, _, _, h => by cases h
  | m + 1, k + 1, R, b, h => by
    rw [blkF_succ] at h
    obtain ⟨c, hc, hb⟩ := List.mem_flatMap.mp h
    obtain ⟨P, hP, rfl⟩ := List.mem_map.mp hc
    have hs := pcsF_spec D R
    rcases List.mem_cons.mp hb with z | z
    · exact ⟨k, P, z, hs.part hP, hs.sub_of hP⟩
    · cases e : wordP L P with
      | none =>
        rw [blkP_none e, show (Blk.mk none P []).i = [] from rfl, preF_nil] at z
        cases z
      | some w =>
        rw [blkP_some e] at z
        obtain ⟨k', P', e1, e2, e3⟩ := pre_part m k _ b z
        exact ⟨k', P', e1, e2, fun x hx => hs.sub_of hP x (List.mem_filter.mp (e3 x hx)).1⟩
/-- each room is a top of one block -/
theorem tops_perm {D : List Pr} {L : List Cl} {r : Nat} (r12 : r ≤ 12) : ((preF 13 (formF D r L)).flatMap Blk.t).Nodup ∧ ∀ x, x ∈ (preF 13 (formF D r L)).flatMap Blk.t ↔ x ∈ rg r := by
  have sub := pre_sub (D := D) (L := L) 13 12 (rg r)
  have all := pre_all (D := D) (L := L) 12 13 12 (rg r) (by rw [rg_len]; exact r12) (by decide) (Nat.le_refl _)
  have len := (pre_rlen (D := D) (L := L) 13 12 (rg r)).1
  have ndr : (rg r).Nodup := rg_nd r
  refine ⟨pig_nd _ (rg r) ndr all ?_, fun x => ⟨sub x, all x⟩⟩
  have h1 := pig _ (rg r) ndr all
  exact Nat.le_antisymm h1 len
/-- the word of a room's block is the room's last word -/
theorem top_word {D : List Pr} {L : List Cl} {r : Nat} (r12 : r ≤ 12) : ∀ b ∈ preF 13 (formF D r L), ∀ x ∈ b.t, b.w = wordP L [x] := fun b hb x hx => by
  obtain ⟨k, P, e, p, sub⟩ := pre_part 13 12 (rg r) b hb
  have l1 : P.length ≤ 12 := by
    have := int_sub_len2 (up_nd p.1) sub
    rw [rg_len] at this
    omega
  rw [e, blkP_w]
  have one : Part D [x] := ⟨List.pairwise_singleton _ _, x, List.mem_singleton.mpr rfl, fun u hu => by rw [List.mem_singleton.mp hu]; exact .base (List.mem_singleton.mpr rfl)⟩
  cases ew : wordP L P with
  | none =>
    rw [e, blkP_none ew] at hx
    exact (wordP_sub ew fun u hu => by rw [List.mem_singleton.mp hu]; exact hx).symm
  | some w =>
    rw [e, blkP_some ew] at hx
    have hx2 : x ∈ upF (keepL D L 12 P) := hx
    obtain ⟨xP, xk⟩ := (keepL_iff 12 P w l1 p ew x).mp ((upF_mem _ _).mp hx2)
    exact (xk _ one (List.mem_singleton.mpr rfl) fun u hu => by rw [List.mem_singleton.mp hu]; exact xP).symm
theorem rg_up (r : Nat) : Up (rg r) := by
  unfold rg
  refine List.pairwise_map.mpr (List.Pairwise.imp (fun {a b} h => ?_) (List.pairwise_lt_range (n := r)))
  have h : a < b := h
  show ((a : Nat) : Int) < (b : Nat)
  omega
theorem u1w {n : Nat} (h : n + 64 < cLine) : n + 1 < cLine := by omega
theorem dc2W {wa : TI} {ga : TG} {ua : TT} {wb : TI} {gb : TG} {ub : TT} {tk tv : TE} {va vb : List Nat} {σ : L2.St} {H : Hp} {Q : VK} (h : wa σ H fun J H1 => tDc2 (fun _ H R => R J H) ga ua wb gb ub tk tv va vb σ H1 Q) : tDc2 wa ga ua wb gb ub tk tv va vb σ H Q := h
/-- the entries of the dict of words -/
def entB (b : Blk) : List (Key × V) := b.t.map fun x => ((Sum.inl x : Key), optS b.w)
theorem ent_keys : ∀ bs : List Blk, (bs.flatMap entB).map (·.1) = (bs.flatMap Blk.t).map Sum.inl
  | [] => rfl
  | b :: bs => by
    rw [List.flatMap_cons, List.flatMap_cons, List.map_append, List.map_append, ent_keys bs]
    congr 1
    unfold entB
    rw [List.map_map]
    rfl
theorem val_ent {kvs : List (Key × V)} {k : Key} {v : V} (h : (k, v) ∈ kvs) (nd : (kvs.map (·.1)).Nodup) : valV kvs k = some v := by
  induction kvs with
  | nil => cases h
  | cons p kvs ih =>
    obtain ⟨n1, n2⟩ := List.nodup_cons.mp nd
    rcases List.mem_cons.mp h with e | e
    · rw [← e]
      exact valV_pos rfl
    · have ne : ¬ p.1 = k := fun z => n1 (List.mem_map.mpr ⟨_, e, z.symm⟩)
      rw [valV_neg ne]
      exact ih e n2
theorem val_no {kvs : List (Key × V)} {k : Key} (h : k ∉ kvs.map (·.1)) : valV kvs k = none := by
  induction kvs with
  | nil => rfl
  | cons p kvs ih =>
    rw [List.map_cons, List.mem_cons, not_or] at h
    rw [valV_neg fun z => h.1 z.symm]
    exact ih h.2
section
variable {P : Program} {w : World} {K : PySem.W.Frag} {mg : Str → Option Value} {base : Heap}
theorem scWoF : FnScope ["form", "words", "word", "tops", "_", "room"] ["form"] (defScope sWoF) := ⟨rfl, rfl, rfl, by decide +kernel, rfl, by decide +kernel, by decide +kernel⟩
def spWoF : Sp := fun vs H Q _ => ∃ (v : V) (D : List Pr) (L : List Cl) (r : Nat), vs = [v] ∧ FormAt H 12 v (formF D r L) ∧ r ≤ 12 ∧
  ∀ t H', Same H H' → H t = none → H' t = some (.lst ((rg r).map fun x => optS (wordP L [x]))) → Q (.ref t) H'
theorem ok_wof2 {f f1 : Addr} {fd fd1 : FuncData} (F : Fun K "words_by_form" "words_by_form" sWoF f fd) (T : Bi mg) (d_blocks : Df P w K mg base "blocks" ["form"] 15 (spBlc 13) f1 fd1) : FnOk P w K mg base CX0 16 f fd ["form"] spWoF := by
  refine F.ok scWoF (fun vs H Q E h => ?_) (fun cdv A0 outer s H vs Q E hr h => ?_)
  · obtain ⟨v, D, L, r, rfl, _⟩ := h
    rfl
  · obtain ⟨v, D, L, r, rfl, fm, r12, ret⟩ := h
    refine ⟨_, (pss_cons (ps_set (i := 1) scWoF.nd rfl (Or.inr rfl) (pe_dc2 (own := [("word", 2), ("tops", 3), ("_", 4), ("room", 5)]) (vb := [5]) (ga := gTup K 3 (gCons (gName 2) (gCons (gName 3) (gCons (gName 4) gNil)))) (gb := gName 5) (wb := iTup K (tVar 3)) (tk := tVar 5) (tv := tVar 2) (by rfl) scWoF.nd (pi_list (pe_call d_blocks.ok (hr.mono (by decide)) (by rfl) d_blocks.at_ d_blocks.kp d_blocks.b .nil pass0 (pa_cons (pv 0) pa_nil))) (blkOk_by (N := ["form", "words", "word", "tops", "_", "room"]) (sc := defScope sWoF) (by decide +kernel)) (by decide) (fun _ _ _ _ _ => pg_tup rfl (pgs_cons (pg_name (i := 2) scWoF.nd rfl (Or.inl rfl)) (pgs_cons (pg_name (i := 3) scWoF.nd rfl (Or.inl rfl)) (pgs_cons (pg_name (i := 4) scWoF.nd rfl (Or.inl rfl)) pgs_nil)))) (fun _ _ _ _ _ => pts_nil) (fun _ _ _ _ _ => (pi_tup (pv 3))) (fun _ _ _ _ _ => pg_name (i := 5) scWoF.nd rfl (Or.inl rfl)) (fun _ _ _ _ _ => pts_nil) (fun _ _ _ _ _ => (pv 5)) (fun _ _ _ _ _ => (pv 2))))
      (pss_one (ps_ret (pe_lc (own := [("room", 5)]) (te := tDGet (tVar 1) (tVar 5)) (by rfl) scWoF.nd (pi_list (pe_callB (call_sortedDI rfl) (by rfl) T.sorted (by decide +kernel) (pa_cons (pv 1) pa_nil))) (blkOk_by (N := ["form", "words", "word", "tops", "_", "room"]) (sc := defScope sWoF) (by decide +kernel)) (fun _ _ _ _ _ => pg_name (i := 5) scWoF.nd rfl (Or.inl rfl)) (fun _ _ _ _ _ => pts_nil) (fun _ _ _ _ _ => (pe_dget (u1w hr.units) (pv 1) (pv 5) (fun _ _ => rfl))))))), ?_⟩
    have fm13 : FormAt H 13 v (formF D r L) := by
      obtain ⟨a, xs, e, h1, h2⟩ := fm
      exact ⟨a, xs, e, h1, h2.up (by decide)⟩
    have bl12 : (preF 13 (formF D r L)).length ≤ 12 := by
      have := (pre_rlen (D := D) (L := L) 13 12 (rg r)).2
      rw [rg_len] at this
      unfold formF
      omega
    obtain ⟨nd, mem⟩ := tops_perm (D := D) (L := L) r12
    have tw := top_word (D := D) (L := L) r12
    obtain ⟨B, eB⟩ : ∃ B, B = preF 13 (formF D r L) := ⟨_, rfl⟩
    rw [← eB] at bl12 nd mem tw
    have tl12 : (B.flatMap Blk.t).length ≤ 12 := by
      have := (pre_rlen (D := D) (L := L) 13 12 (rg r)).1
      rw [rg_len] at this
      rw [eB]
      unfold formF
      omega
    refine sq1 fun N hN => ?_
    walk_at "rd"
    refine dc2W ?_
    walk_at "rd"
    refine ⟨v, _, rfl, fm13, Nat.le_refl _, by rw [← eB]; omega, fun ws t H1 s1 nt ht pw => ⟨t, rfl, ⟨_, SqL.of ht⟩, ?_⟩⟩
    rw [← eB] at pw
    have wl := Paired.length pw
    intro d nd0
    refine ⟨fun j m Hx => m = B.length - j ∧ j ≤ B.length ∧ Same H1 Hx ∧ Hx d = some (.dK ((B.take j).flatMap entB)), ⟨_, rfl, Nat.zero_le _, same_upd nd0, upd_same⟩, ?_⟩
    rintro j mm Hx ⟨rfl, hj, sx, hD⟩
    by_cases lt : j < B.length
    · obtain ⟨b, gb⟩ : ∃ b, B[j]? = some b := ⟨_, List.getElem?_eq_getElem lt⟩
      obtain ⟨x0, gx0⟩ : ∃ x, ws[j]? = some x := ⟨_, List.getElem?_eq_getElem (by omega : j < ws.length)⟩
      have tk : B.take (j + 1) = B.take j ++ [b] := by rw [List.take_add_one, gb]; rfl
      have eT : B.flatMap Blk.t = (B.take j).flatMap Blk.t ++ (b.t ++ (B.drop (j + 1)).flatMap Blk.t) := by
        have e : B.flatMap Blk.t = (B.take (j + 1)).flatMap Blk.t ++ (B.drop (j + 1)).flatMap Blk.t := by
          rw [← List.flatMap_append, List.take_append_drop]
        rw [tk, List.flatMap_append, List.flatMap_cons, List.flatMap_nil, List.append_nil, List.append_assoc] at e
        exact e
      refine .inr ⟨⟨ws, x0, SqL.of (sx _ _ ht), gx0⟩, fun H' => Same H1 H' ∧ H' d = some (.dK ((B.take (j + 1)).flatMap entB)), fun H' q => ⟨_, by omega, rfl, lt, q.1, q.2⟩, ?_⟩
      rintro v' H' ⟨rfl, ev⟩
      have e2 := ev _ (SqL.of (sx _ _ ht))
      obtain ⟨b', gb', bv⟩ := lget pw e2
      rw [gb] at gb'
      have eb := Option.some.inj gb'
      subst eb
      obtain ⟨tb, tt, ti, us, rfl, h1, h2, h3, h4, h5⟩ := bv.ex
      rw [tk, List.flatMap_append, List.flatMap_cons, List.flatMap_nil, List.append_nil]
      simp only [wipe]
      walk_at "rd"
      have sx' : Same H1 H' := sx
      have h2x := sx' _ _ h2
      refine ⟨_, SqT.of (sx' _ _ h1), rfl, _, _, rfl, _, _, rfl, _, _, rfl, rfl, ?_⟩
      rw [if_pos trivial]
      refine ⟨.ref tt, rfl, tt, rfl, ⟨_, SqT.of h2x⟩, ?_⟩
      have enb : entB b = b.t.map fun x => ((Sum.inl x : Key), optS b.w) := rfl
      refine ⟨fun k m Hy => m = b.t.length - k ∧ k ≤ b.t.length ∧ Same H1 Hy ∧ Hy d = some (.dK ((B.take j).flatMap entB ++ (b.t.take k).map fun x => ((Sum.inl x : Key), optS b.w))), ⟨_, rfl, Nat.zero_le _, sx', by rw [List.take_zero, List.map_nil, List.append_nil]; exact hD⟩, ?_⟩
      rintro k mk Hy ⟨rfl, hk, sy, hDy⟩
      have h2y := sy _ _ h2
      by_cases lk : k < b.t.length
      · obtain ⟨u, eu⟩ : ∃ u, b.t[k]? = some u := ⟨_, List.getElem?_eq_getElem lk⟩
        have tk2 : b.t.take (k + 1) = b.t.take k ++ [u] := by rw [List.take_add_one, eu]; rfl
        refine .inr ⟨⟨_, .int u, SqT.of h2y, by rw [List.getElem?_map, eu]; rfl⟩, fun H2 => Same H1 H2 ∧ H2 d = some (.dK ((B.take j).flatMap entB ++ (b.t.take (k + 1)).map fun x => ((Sum.inl x : Key), optS b.w))), fun H2 q => ⟨_, by omega, rfl, lk, q.1, q.2⟩, ?_⟩
        rintro x2 H3 ⟨rfl, ev2⟩
        have e3 := ev2 _ (SqT.of h2y)
        rw [List.getElem?_map, eu] at e3
        have e4 : V.int u = x2 := Option.some.inj e3
        subst e4
        have no : (Sum.inl u : Key) ∉ ((B.take j).flatMap entB ++ (b.t.take k).map fun x => ((Sum.inl x : Key), optS b.w)).map (·.1) := by
          have ek : ((b.t.take k).map fun x => ((Sum.inl x : Key), optS b.w)).map (·.1) = (b.t.take k).map Sum.inl := by rw [List.map_map]; rfl
          rw [List.map_append, ent_keys, ek, ← List.map_append]
          intro z
          obtain ⟨y, hy, ey⟩ := List.mem_map.mp z
          have ey : y = u := Sum.inl.inj ey
          subst ey
          have nd2 := nd
          rw [eT, ← List.take_append_drop k b.t, List.append_assoc, ← List.append_assoc] at nd2
          have hd : y ∈ b.t.drop k ++ (B.drop (j + 1)).flatMap Blk.t := by
            refine List.mem_append_left _ (List.mem_of_getElem? (i := 0) ?_)
            rw [List.getElem?_drop]
            exact eu
          exact (List.nodup_append.mp nd2).2.2 y hy y hd rfl
        have vn := val_no no
        refine iteT (B := True) ?_
        refine ⟨_, Sum.inl u, rfl, hDy, len_big ?_, same_ch sy nd0, ?_⟩
        · have e5 := congrArg List.length (ent_keys (B.take j))
          rw [List.length_map, List.length_map] at e5
          have e6 : ((B.take j).flatMap Blk.t).length + b.t.length ≤ 12 := by
            have := congrArg List.length eT
            rw [List.length_append, List.length_append] at this
            omega
          rw [List.length_append, List.length_map, List.length_take, e5]
          omega
        · rw [upd_same, putK_new _ vn, tk2, List.map_append, ← List.append_assoc]
          rfl
      · refine .inl ⟨⟨_, SqT.of h2y, by rw [List.length_map]; omega⟩, sy, ?_⟩
        have et : b.t.take k = b.t := List.take_of_length_le (by omega)
        rw [et] at hDy
        exact hDy
    · refine .inl ⟨⟨ws, SqL.of (sx _ _ ht), by omega⟩, ?_⟩
      rw [List.take_of_length_le (by omega)] at hD
      refine hN _ _ ?_
      clear hN
      have s02 := s1.trans sx
      walk_at "rd"
      refine lcW ?_
      walk_at "rd"
      have ek := ent_keys B
      refine ⟨_, .inl hD, B.flatMap Blk.t, ek, by omega, fun ys p pm so np => ?_⟩
      have ey : ys = rg r := by
        have upy := up_of pm nd so
        refine up_uniq upy (rg_up r) fun x => ?_
        exact pm.mem_iff.trans (mem x)
      subst ey
      have s3 := same_upd (o := HO.lst ((rg r).map V.int)) np
      have hp := upd_same (H := Hx) (a := p) (o := HO.lst ((rg r).map V.int))
      have hD3 := s3 _ _ hD
      generalize upd Hx p (HO.lst ((rg r).map V.int)) = H3 at s3 hp hD3 ⊢
      have ndk : ((B.flatMap entB).map (·.1)).Nodup := by
        rw [ek]
        exact List.pairwise_map.mpr (List.Pairwise.imp (fun {a b} h z => h (Sum.inl.inj z)) nd)
      have vw : ∀ x ∈ rg r, valV (B.flatMap entB) (Sum.inl x : Key) = some (optS (wordP L [x])) := fun x hx => by
        obtain ⟨b, hb, hxb⟩ := List.mem_flatMap.mp ((mem x).mpr hx)
        refine val_ent (List.mem_flatMap.mpr ⟨b, hb, ?_⟩) ndk
        rw [← tw b hb x hxb]
        exact List.mem_map.mpr ⟨x, hxb, rfl⟩
      refine ⟨⟨_, SqL.of hp⟩, gc_list (fun _ v (b : V) => v = b) (fun _ _ _ _ h _ => h) (fun j => (rg r)[j]?.bind fun x => some (optS (wordP L [x]))) hp (by rw [List.length_map, rg_len]; omega) (fun j x Hx A B0 gx sx2 hA hB => ?_) fun o ys H4 s4 no ho pr => ?_⟩
      · obtain ⟨z, gz, rfl⟩ : ∃ z, (rg r)[j]? = some z ∧ x = V.int z := by
          rw [List.getElem?_map] at gx
          cases e : (rg r)[j]? with
          | none => rw [e] at gx; cases gx
          | some u => rw [e] at gx; exact ⟨u, rfl, (Option.some.inj gx).symm⟩
        unfold tDGet
        walk_at "rd"
        rw [if_pos trivial]
        refine ⟨_, ?_, hA (optS (wordP L [z])) _ Hx (by rw [gz]; rfl) (Same.refl _) rfl⟩
        have h := DGet.k (k := Sum.inl z) (sx2 _ _ hD3)
        rw [vw z (List.mem_of_getElem? gz)] at h
        exact h
      · rw [List.length_map, fm_range (L := rg r) (fun x => some (optS (wordP L [x]))), List.filterMap_eq_map'] at pr
        have ey : ys = (rg r).map fun x => optS (wordP L [x]) := by
          have : ∀ {us vs : List V}, Paired (fun (v b : V) => v = b) us vs → us = vs := fun {us vs} h => by
            induction h with
            | nil => rfl
            | cons r _ ih => rw [r, ih]
          exact this pr
        rw [ey] at ho
        exact ret o H4 (s02.trans (s3.trans s4)) ((s02.trans s3).free no) ho
end

/-! ### sorted(xs, key=len), xs a list of tuples -/
def leN (f : V → Nat) (a b : V) : Bool := decide ((f a : Int) ≤ (f b : Int))
def tSortLen (K : PySem.W.Frag) (te : TE) : TE := fun σ H Q => te σ H fun x H1 => ∃ (a : Addr) (xs : List V) (f : V → Nat), x = .ref a ∧ SqL K H1 a xs ∧ (∀ y ∈ xs, ∃ t ys, y = V.ref t ∧ SqT K H1 t ys ∧ ys.length = f y) ∧
  ∀ p, H1 p = none → Q (.ref p) (upd H1 p (.lst (xs.mergeSort (leN f))))
theorem vals_each : ∀ {xs : List V} {us : List Value}, Vals xs us → PySem.W.EachIs (fun u x => RelV x u) us xs
  | _, _, .nil => .nil
  | _, _, .cons r t => .cons r (vals_each t)
theorem each_vals : ∀ {us : List Value} {xs : List V}, PySem.W.EachIs (fun u x => RelV x u) us xs → Vals xs us
  | _, _, .nil => .nil
  | _, _, .cons r t => .cons r (each_vals t)
theorem pe_sortLen {X : Cx} {te : TE} {e : Expr} {p p2 kpos pos : Pos} (hu : X.A.units + 64 < cLine) (hg : Gl X "sorted") (hm : X.mg "sorted" = none) (hg2 : Gl X "len") (hm2 : X.mg "len" = none) (he : PE X e te)
    (b0 : starEach [e] X.env = (false, eval e X.env) :: starEach [] X.env := by rfl) (b1 : backTo pos (starEach [e] X.env) = (false, eval e X.env) :: backTo pos (starEach [] X.env) := by rfl) (b2 : (backTo pos (starEach [e] X.env)).any (·.1) = false := by rfl) :
    PE X (.Call (.Name "sorted" p) [e] [⟨some "key", .Name "len" p2, kpos⟩] pos) (tSortLen X.K te) := by
  refine ⟨fun pins s σ H Q I h => ?_⟩
  refine wpAny_Call_Name_kw (ld_blt I hg hm boot_sorted ?_)
  refine PyProof.Rows.callWith_kw ?_ b1 b2
  refine thn ((pa_cons he pa_nil b0).run pos pins s σ H (fun vs H1 => match vs with
    | [x] => ∃ (a : Addr) (xs : List V) (f : V → Nat), x = .ref a ∧ SqL X.K H1 a xs ∧ (∀ y ∈ xs, ∃ t ys, y = V.ref t ∧ SqT X.K H1 t ys ∧ ys.length = f y) ∧
    ∀ p, H1 p = none → Q (.ref p) (upd H1 p (.lst (xs.mergeSort (leN f))))
    | _ => False) I h) ?_
  rintro us s1 ⟨vs, H1, I1, r1, hv⟩
  match vs, r1, hv with
  | [x], r1, ⟨a, xs, f, ex, hs, hx, q⟩ => ?_
  subst ex
  obtain ⟨u, rfl, ru⟩ := vals1 r1
  cases ru
  show wpAny _ _ (evalAll [(do let v ← eval (.Name "len" p2) X.env; standAt pos; pure v)]) _ _ _
  refine wpAny_evalAll_cons (wpAny_bind (ld_blt I1 hg2 hm2 boot_len (wpAny_bind (wpAny_standAt (wpAny_pure (wpAny_evalAll_nil ?_))))))
  show wpAny _ _ (call (.builtin "sorted") [.ref a] [(Str.ofString "key", .builtin "len")]) _ _ _
  obtain ⟨its, rv, hl, hz⟩ := I1.list hs
  have each := vals_each rv
  refine PySem.W.sorted_key_data (b := false) (R := fun u x => RelV x u) (bs := xs) (fun x => .int (f x)) hl.isList each (PySem.W.AllAlike.of fun _ _ => by simp [PySem.W.alike]) (PySem.W.Sortable.others fun _ => ⟨by simp, by simp⟩) hz (fun x _ => ?_) (PyProof.Rows.ksk_s1 _ _) (fun _ => PyProof.Rows.ksk_l1 _ _) (fun _ => PyProof.Rows.ksk_t4 _ _) (fun v x rx hxm h tk kp => ?_) (fun out c h' tk kp hn hD _ eo => ?_)
  · show X.A.units + 2 + 0 < cLine
    omega
  · obtain ⟨t, ys, rfl, ht, e⟩ := hx x hxm
    cases (show v = Value.ref t from rx)
    obtain ⟨its2, rv2, ⟨o, ho, hc, n, hd⟩, hz2⟩ := I1.tuple ht
    have hlen := rv2.length
    have hn := line63
    refine PyProof.Rows.len_tuple (items := its2.toArray) ⟨o, kp _ _ ho, hc, n, hd⟩ (by simp only [List.size_toArray] <;> omega) ⟨h, _, rfl, fun _ _ z => z, ?_⟩
    rw [List.size_toArray, ← hlen, e]
    exact .int _ _
  · have hv := each_vals eo
    have ex : xs.mergeSort (PySem.W.dataLe false fun x => PyData.int (f x)) = xs.mergeSort (leN f) := by
      rw [PySem.W.dataLe_int]
      rfl
    rw [ex] at hv
    refine ⟨.ref (s1.heap.objs.size + 1), upd H1 (s1.heap.objs.size + 1) (.lst (xs.mergeSort (leN f))), I1.laid (t' := tk) kp (Nat.le_succ _) ⟨?_, out, c, hv, hD⟩, rfl, q _ (I1.hok.fresh (Nat.le_succ _))⟩
    rw [List.length_mergeSort]
    exact hz
/-! ### sorted(xs), xs a list of data -/
def rSortD (K : PySem.W.Frag) : List V → Hp → VK → Prop := fun vs H Q => ∃ (a : Addr) (xs : List V) (enc : V → PyData), vs = [V.ref a] ∧ SqL K H a xs ∧ (∀ y ∈ xs, Dp K H y (enc y) ∧ (enc y).depth ≤ 8 ∧ ∃ u r, enc y = .tuple (u :: r)) ∧ (∀ x ∈ xs, ∀ y ∈ xs, PySem.W.alike (enc x) (enc y) = true) ∧
  ∀ p, H p = none → Q (.ref p) (upd H p (.lst (xs.mergeSort (PySem.W.dataLe false enc))))
theorem cr_sortD {X : Cx} (hu : X.A.units + 64 < cLine) : CallR X (.builtin "sorted") (rSortD X.K) := by
  intro pins s σ H vs us Q I r h
  obtain ⟨a, xs, enc, rfl, hs, hx, hal, q⟩ := h
  obtain ⟨u, rfl, ru⟩ := vals1 r
  cases ru
  obtain ⟨its, rv, hl, hz⟩ := I.list hs
  have each := vals_each rv
  have er : PySem.W.EachIs (fun v b => ∃ as, PySem.Reads s.heap v (enc b) as) its xs := by
    have key : ∀ {us : List Value} {ys : List V}, PySem.W.EachIs (fun u x => RelV x u) us ys → (∀ y ∈ ys, y ∈ xs) → PySem.W.EachIs (fun v b => ∃ as, PySem.Reads s.heap v (enc b) as) us ys := by
      intro us ys h
      induction h with
      | nil => intro _; exact .nil
      | cons r t ih => intro hm; exact .cons (Dp.reads I _ _ _ (hx _ (hm _ List.mem_cons_self)).1 r) (ih fun y hy => hm y (List.mem_cons_of_mem _ hy))
    exact key each fun y hy => hy
  refine PySem.W.sorted_data (R := fun u x => RelV x u) (enc := enc) (bs := xs) hl.isList each er (fun d hd d' hd' => ?_) (.inl fun d hd => ?_) hz (fun x hxm => ?_) (fun out hol eo => ?_)
  · obtain ⟨x, h1, rfl⟩ := List.mem_map.mp hd
    obtain ⟨y, h2, rfl⟩ := List.mem_map.mp hd'
    exact hal x h1 y h2
  · obtain ⟨x, h1, rfl⟩ := List.mem_map.mp hd
    exact (hx x h1).2.2
  · have := (hx x hxm).2.1
    omega
  · have hv := each_vals eo
    obtain ⟨ep, he⟩ := PyProof.Rows.sortedAll_at s.heap its (List.toArray out)
    refine ⟨.ref (s.heap.objs.size + 1), upd H (s.heap.objs.size + 1) (.lst (xs.mergeSort (PySem.W.dataLe false enc))), I.laid (t' := s.toks) (fun _ _ => PyProof.Rows.sortedAll_old) (Nat.le_succ _) ⟨?_, out, ep, hv, he⟩, rfl, q _ (I.hok.fresh (Nat.le_succ _))⟩
    rw [List.length_mergeSort]
    exact hz

theorem mem_rg {n : Nat} {x : Int} (h0 : 0 ≤ x) (h1 : x < n) : x ∈ rg n := List.mem_map.mpr ⟨x.toNat, List.mem_range.mpr (by omega), by show ((x.toNat : Nat) : Int) = x; omega⟩
/-- rooms that hang together -/
def IsPart (D : List Pr) (r : Nat) (ys : List Int) : Prop := ys ≠ [] ∧ Up ys ∧ (∀ x ∈ ys, 0 ≤ x ∧ x < r) ∧ ∀ x ∈ ys, Rch D ys (hdI ys) x
/-! ### _law_parts, _law_is_parted -/
abbrev sLpr : Stmt := topS 47
/-- comprehension over a list whose results are not to be touched: with the new list's address -/
theorem gc_listD {β : Type} {K : PySem.W.Frag} {a : Addr} {xs : List V} {i : Nat} {tt : TT} {te : TE} {σ : L2.St} {H1 : Hp} {Q : VK} (rel : Addr → Hp → V → β → Prop) (up : ∀ D H H' v b, rel D H v b → (∀ t o, t ≠ D → H t = some o → H' t = some o) → rel D H' v b) (sel : Nat → Option β) (ha : H1 a = some (.lst xs)) (len : xs.length ≤ 100000)
    (step : ∀ (D : Addr) (j : Nat) (x : V) (Hx : Hp) (A : VK) (B : Hp → Prop), xs[j]? = some x → Same H1 Hx → (∃ o, Hx D = some o) → (∀ v b Hy, sel j = some b → Same Hx Hy → rel D Hy v b → A v Hy) → (∀ Hy, sel j = none → Same Hx Hy → B Hy) → tt (σ.set i (some x)) Hx fun c H3 => if c = true then te (σ.set i (some x)) H3 A else B H3)
    (q : ∀ o ys H', Same H1 H' → H1 o = none → H' o = some (.lst ys) → Paired (rel o H') ys ((List.range xs.length).filterMap sel) → Q (.ref o) H') :
    tLc (fun _ H R => R (Itl K a) H) (gName i) tt te [i] σ H1 Q := by
  intro D nD
  obtain ⟨Pv, hPv⟩ : ∃ Pv : Nat → Hp → Prop, Pv = (fun j Hx => ∃ ys, Same H1 Hx ∧ Hx D = some (.lst ys) ∧ Paired (rel D Hx) ys ((List.range j).filterMap sel)) := ⟨_, rfl⟩
  refine lc_list (K := K) (a := a) (xs := xs) Pv (by rw [hPv]; exact ⟨[], same_upd nD, upd_same, Paired.nil⟩) (fun j H' _ pv => by rw [hPv] at pv; obtain ⟨_, sm, _⟩ := pv; exact SqL.of (sm _ _ ha)) (fun j x H' gx pv => ?_) (fun H' pv => ?_)
  · rw [hPv] at pv
    obtain ⟨ys, sm, hD, pr⟩ := pv
    have jl := (List.getElem?_eq_some_iff.mp gx).1
    have yl : ys.length ≤ j := by rw [pr.length]; exact fm_len sel j
    have ew : (wipe σ [i]).set i (some x) = σ.set i (some x) := by show (σ.set i none).set i (some x) = _; rw [List.set_set]
    show wipe ((wipe σ [i]).set i (some x)) [i] = wipe σ [i] ∧ tt ((wipe σ [i]).set i (some x)) H' fun c H3 => if c = true then te ((wipe σ [i]).set i (some x)) H3 _ else _
    rw [ew]
    refine ⟨by show (σ.set i (some x)).set i none = σ.set i none; rw [List.set_set], ?_⟩
    refine step D j x H' _ _ gx sm ⟨_, hD⟩ (fun v b Hy es sy r => ?_) (fun Hy es sy => ?_)
    · have hD2 := sy _ _ hD
      refine ⟨ys, hD2, len_big (by omega), ?_⟩
      rw [hPv]
      refine ⟨ys ++ [v], same_ch (sm.trans sy) nD, upd_same, ?_⟩
      rw [fm_step, es]
      have keep : ∀ t o, t ≠ D → Hy t = some o → upd Hy D (HO.lst (ys ++ [v])) t = some o := fun t o ne e => by rw [upd_ne ne]; exact e
      exact Paired.snoc (Paired.mapP pr fun v b h => up _ _ _ _ _ (up _ _ _ _ _ h fun t o _ e => sy t o e) keep) (up _ _ _ _ _ r keep)
    · rw [hPv]
      refine ⟨ys, sm.trans sy, sy _ _ hD, ?_⟩
      rw [fm_step, es, List.append_nil]
      exact Paired.mapP pr fun v b h => up _ _ _ _ _ h fun t o _ e => sy t o e
  · rw [hPv] at pv
    obtain ⟨ys, sm, hD, pr⟩ := pv
    exact q D ys H' sm nD hD pr
/-- lists of ints in the heap -/
def IsLI (H : Hp) (v : V) (l : List Int) : Prop := ∃ t, v = .ref t ∧ H t = some (.lst (l.map V.int))
theorem IsLI.same {H H' : Hp} {v : V} {l : List Int} (h : IsLI H v l) (s : Same H H') : IsLI H' v l := by
  obtain ⟨t, e, h⟩ := h
  exact ⟨t, e, s _ _ h⟩
def subs : Nat → List (List Int)
  | 0 => [[]]
  | n + 1 => subs n ++ (subs n).map (· ++ [(n : Int)])
theorem subs_len : ∀ n, (subs n).length = 2 ^ n
  | 0 => rfl
  | n + 1 => by
    show (subs n ++ (subs n).map _).length = _
    rw [List.length_append, List.length_map, subs_len n, Nat.pow_succ]
    omega
theorem subs_mem : ∀ {n : Nat} {l : List Int}, l ∈ subs n ↔ Up l ∧ ∀ x ∈ l, 0 ≤ x ∧ x < n
  | 0, l => by
    show l ∈ [[]] ↔ _
    rw [List.mem_singleton]
    constructor
    · rintro rfl
      exact ⟨List.Pairwise.nil, fun x hx => by cases hx⟩
    · rintro ⟨_, h⟩
      cases l with
      | nil => rfl
      | cons x l =>
        have := h x List.mem_cons_self
        omega
  | n + 1, l => by
    show l ∈ subs n ++ (subs n).map _ ↔ _
    rw [List.mem_append, List.mem_map, subs_mem]
    constructor
    · rintro (⟨h1, h2⟩ | ⟨m, hm, rfl⟩)
      · exact ⟨h1, fun x hx => by have := h2 x hx; omega⟩
      · obtain ⟨h1, h2⟩ := subs_mem.mp hm
        refine ⟨List.pairwise_append.mpr ⟨h1, List.pairwise_singleton _ _, fun a ha b hb => ?_⟩, fun x hx => ?_⟩
        · rw [List.mem_singleton.mp hb]
          exact (h2 a ha).2
        · rcases List.mem_append.mp hx with z | z
          · have := h2 x z
            omega
          · rw [List.mem_singleton.mp z]
            omega
    · rintro ⟨h1, h2⟩
      rcases List.eq_nil_or_concat l with rfl | ⟨m, y, rfl⟩
      · exact .inl ⟨h1, fun x hx => by cases hx⟩
      · rw [List.concat_eq_append] at h1 h2 ⊢
        obtain ⟨p1, _, p3⟩ := List.pairwise_append.mp h1
        have hy := h2 y (by simp)
        have hm : ∀ x ∈ m, 0 ≤ x ∧ x < y := fun x hx => ⟨(h2 x (List.mem_append_left _ hx)).1, p3 x hx y List.mem_cons_self⟩
        by_cases c : y = n
        · refine .inr ⟨m, subs_mem.mpr ⟨p1, fun x hx => ?_⟩, by rw [c]⟩
          have := hm x hx
          omega
        · refine .inl ⟨h1, fun x hx => ?_⟩
          rcases List.mem_append.mp hx with z | z
          · have := hm x z
            omega
          · rw [List.mem_singleton.mp z]
            omega
theorem paired_app {α β : Type} {F : α → β → Prop} : ∀ {as cs : List α} {bs ds : List β}, Paired F as bs → Paired F cs ds → Paired F (as ++ cs) (bs ++ ds)
  | _, _, _, _, .nil, h => h
  | _, _, _, _, .cons r t, h => .cons r (paired_app t h)
theorem ints_inj2 : ∀ {l m : List Int}, l.map V.int = m.map V.int → l = m
  | [], [], _ => rfl
  | [], _ :: _, h => by cases h
  | _ :: _, [], h => by cases h
  | x :: l, y :: m, h => by
    rw [List.map_cons, List.map_cons] at h
    obtain ⟨h1, h2⟩ := List.cons.inj h
    rw [V.int.inj h1, ints_inj2 h2]
theorem isR_uniq {H : Hp} {v : V} {l m : List Int} (h1 : IsR H v l) (h2 : IsR H v m) : l = m := by
  obtain ⟨t, rfl, h1⟩ := h1
  obtain ⟨u, e, h2⟩ := h2
  cases e
  rw [h1] at h2
  exact ints_inj2 (HO.tup.inj (Option.some.inj h2))
open Classical in
noncomputable def decT (H : Hp) (y : V) : List Int := if h : ∃ l, IsR H y l then Classical.choose h else []
theorem decT_eq {H : Hp} {y : V} {l : List Int} (h : IsR H y l) : decT H y = l := by
  have hx : ∃ l, IsR H y l := ⟨l, h⟩
  unfold decT
  rw [dif_pos hx]
  exact isR_uniq (Classical.choose_spec hx) h
theorem rl_dec {H : Hp} : ∀ {xs : List V} {L : List (List Int)}, RL H xs L → xs.map (decT H) = L ∧ ∀ y ∈ xs, IsR H y (decT H y)
  | _, _, .nil => ⟨rfl, fun y h => by cases h⟩
  | _, _, .cons r t => by
    obtain ⟨e, h⟩ := rl_dec t
    refine ⟨by rw [List.map_cons, decT_eq r, e], fun y hy => ?_⟩
    rcases List.mem_cons.mp hy with rfl | hy
    · rw [decT_eq r]
      exact r
    · exact h y hy
theorem rl_of_dec {H : Hp} : ∀ {xs : List V}, (∀ y ∈ xs, IsR H y (decT H y)) → RL H xs (xs.map (decT H))
  | [], _ => .nil
  | y :: xs, h => .cons (h y List.mem_cons_self) (rl_of_dec fun z hz => h z (List.mem_cons_of_mem _ hz))
theorem rl_perm {H : Hp} {xs ys : List V} {L : List (List Int)} (h : RL H xs L) (p : ys.Perm xs) : RL H ys (ys.map (decT H)) ∧ (ys.map (decT H)).Perm L := by
  obtain ⟨e, hm⟩ := rl_dec h
  refine ⟨rl_of_dec fun y hy => hm y (p.mem_iff.mp hy), ?_⟩
  rw [← e]
  exact p.map _
theorem depth_ints : ∀ l : List Int, PyData.depthAll (l.map PyData.int) ≤ 1
  | [] => by simp [PyData.depthAll]
  | x :: l => by
    have := depth_ints l
    simp only [List.map_cons, PyData.depthAll, PyData.depth]
    omega
theorem alike_ints : ∀ l m : List Int, PySem.W.alikeAll (l.map PyData.int) (m.map PyData.int) = true
  | [], _ => by simp [PySem.W.alikeAll]
  | _ :: _, [] => by simp [PySem.W.alikeAll]
  | x :: l, y :: m => by
    simp only [List.map_cons, PySem.W.alikeAll, PySem.W.alike, Bool.true_and]
    exact alike_ints l m
theorem dp_ints {K : PySem.W.Frag} {H : Hp} : ∀ l : List Int, DpAll K H (l.map V.int) (l.map PyData.int)
  | [] => .nil
  | x :: l => .cons (.int x) (dp_ints l)
theorem sort_rl {K : PySem.W.Frag} {H : Hp} {a : Addr} {xs : List V} {L : List (List Int)} {Q : VK} (ha : H a = some (.lst xs)) (rl : RL H xs L) (ne : ∀ l ∈ L, l ≠ [])
    (q : ∀ p ys L2 H', Same H H' → H p = none → H' p = some (.lst ys) → L2.Perm L → RL H' ys L2 → Q (.ref p) H') : rSortD K [V.ref a] H Q := by
  obtain ⟨e, hm⟩ := rl_dec rl
  refine ⟨a, xs, fun y => .tuple ((decT H y).map PyData.int), rfl, SqL.of ha, fun y hy => ?_, fun x hx y hy => ?_, fun p np => ?_⟩
  · obtain ⟨t, et, ht⟩ := hm y hy
    rw [et] at ht ⊢
    refine ⟨.tup (SqT.of ht) (dp_ints _), ?_, ?_⟩
    · have := depth_ints (decT H (V.ref t))
      simp only [PyData.depth]
      omega
    · have : decT H y ∈ L := by rw [← e]; exact List.mem_map.mpr ⟨y, hy, rfl⟩
      have := ne _ this
      rw [et] at this
      cases c : decT H (V.ref t) with
      | nil => exact absurd c this
      | cons u l => exact ⟨_, _, by show PyData.tuple ((decT H (V.ref t)).map PyData.int) = _; rw [c]; rfl⟩
  · simp only [PySem.W.alike]
    exact alike_ints _ _
  · obtain ⟨h1, h2⟩ := rl_perm rl (List.mergeSort_perm xs (PySem.W.dataLe false fun y => .tuple ((decT H y).map PyData.int)))
    have s := same_upd (o := HO.lst (xs.mergeSort (PySem.W.dataLe false fun y => .tuple ((decT H y).map PyData.int)))) np
    exact q p _ _ _ s np upd_same h2 (h1.kt (KT.same s))
theorem sortLen_k {K : PySem.W.Frag} {x : V} {H : Hp} {Q : VK} (hx : ∃ a xs L, x = V.ref a ∧ H a = some (.lst xs) ∧ RL H xs L ∧ ∀ p ys L2 H', Same H H' → H p = none → H' p = some (.lst ys) → L2.Perm L → RL H' ys L2 → Q (.ref p) H') :
    ∃ (a : Addr) (xs : List V) (f : V → Nat), x = .ref a ∧ SqL K H a xs ∧ (∀ y ∈ xs, ∃ t ys, y = V.ref t ∧ SqT K H t ys ∧ ys.length = f y) ∧ ∀ p, H p = none → Q (.ref p) (upd H p (.lst (xs.mergeSort (leN f)))) := by
  obtain ⟨a, xs, L, ex, ha, rl, q⟩ := hx
  obtain ⟨e, hm⟩ := rl_dec rl
  refine ⟨a, xs, fun y => (decT H y).length, ex, SqL.of ha, fun y hy => ?_, fun p np => ?_⟩
  · obtain ⟨t, et, ht⟩ := hm y hy
    exact ⟨t, _, et, SqT.of ht, by rw [List.length_map]⟩
  · obtain ⟨h1, h2⟩ := rl_perm rl (List.mergeSort_perm xs (leN fun y => (decT H y).length))
    have s := same_upd (o := HO.lst (xs.mergeSort (leN fun y => (decT H y).length))) np
    exact q p _ _ _ s np upd_same h2 (h1.kt (KT.same s))
theorem tSort2 {K : PySem.W.Frag} {n : Nat} {σ : L2.St} {H : Hp} {a : Addr} {Q : VK} (e : σ[n]? = some (some (V.ref a)))
    (h : rSortD K [V.ref a] H fun x H1 => ∃ (a : Addr) (xs : List V) (f : V → Nat), x = .ref a ∧ SqL K H1 a xs ∧ (∀ y ∈ xs, ∃ t ys, y = V.ref t ∧ SqT K H1 t ys ∧ ys.length = f y) ∧ ∀ p, H1 p = none → Q (.ref p) (upd H1 p (.lst (xs.mergeSort (leN f))))) :
    tSortLen K (tCB (rSortD K) (tCons (tVar n) tNil)) σ H Q := ⟨_, e, h⟩
theorem up_le : ∀ {l : List Int} {n : Nat}, Up l → (∀ x ∈ l, 0 ≤ x ∧ x < n) → l.length ≤ n := fun {l n} u h => by
  have := pig (rg n) l (List.Pairwise.imp (fun h => by omega) u) fun x hx => mem_rg (h x hx).1 (h x hx).2
  rw [rg_len] at this
  exact this
theorem subs_bl {n j : Nat} {b : List Int} (h : (subs n)[j]? = some b) : b.length ≤ n := by
  obtain ⟨u, h⟩ := subs_mem.mp (List.mem_of_getElem? h)
  exact up_le u h
/-- the reached rooms are all of them just where all hang together -/
theorem part_len {D : List Pr} {l ys : List Int} (u : Up l) (ne : l ≠ []) (nn : ∀ x ∈ l, 0 ≤ x) (pc : Pc D l (hdI l) ys) : ys.length = l.length ↔ ∀ x ∈ l, Rch D l (hdI l) x := by
  have ndl : l.Nodup := List.Pairwise.imp (fun h => by omega) u
  have ndy : ys.Nodup := List.Pairwise.imp (fun h => by omega) pc.1
  have sub : ∀ x ∈ ys, x ∈ l := fun x hx => ((pc.2 x).mp hx).mem
  constructor
  · intro e x hx
    refine (pc.2 x).mp (Classical.byContradiction fun n => ?_)
    have := pig l (x :: ys) (List.nodup_cons.mpr ⟨n, ndy⟩) fun y hy => by
      rcases List.mem_cons.mp hy with rfl | hy
      · exact hx
      · exact sub y hy
    rw [List.length_cons] at this
    omega
  · intro h
    have h1 := pig l ys ndy sub
    have h2 := pig ys l ndl fun x hx => (pc.2 x).mpr (h x hx)
    omega
theorem fm_filter {α : Type} {p : α → Prop} [DecidablePred p] : ∀ l : List α, l.filterMap (fun b => if p b then some b else none) = l.filter fun b => decide (p b)
  | [] => rfl
  | b :: l => by
    by_cases c : p b
    · rw [List.filterMap_cons, if_pos c, List.filter_cons_of_pos (p := fun b => decide (p b)) (decide_eq_true c)]
      exact congrArg (b :: ·) (fm_filter l)
    · rw [List.filterMap_cons, if_neg c, List.filter_cons_of_neg (p := fun b => decide (p b)) (by rw [decide_eq_false c]; exact Bool.false_ne_true)]
      exact fm_filter l
/-- all the rooms hang together with the first -/
def Whole (D : List Pr) (b : List Int) : Prop := ∀ x ∈ b, Rch D b (hdI b) x
noncomputable instance (D : List Pr) : DecidablePred (Whole D) := fun _ => Classical.propDecidable _
section
variable {P : Program} {w : World} {K : PySem.W.Frag} {mg : Str → Option Value} {base : Heap}
theorem scLpr : FnScope ["doors", "rooms", "sets", "room", "parts", "kept", "part"] ["doors", "rooms"] (defScope sLpr) := ⟨rfl, rfl, rfl, by decide +kernel, rfl, by decide +kernel, by decide +kernel⟩
def spLpr : Sp := fun vs H Q _ => ∃ (l : Addr) (us : List V) (D : List Pr) (r : Nat), vs = [.ref l, .int r] ∧ H l = some (.lst us) ∧ PL H us D ∧ r ≤ 6 ∧
  ∀ (L : List (List Int)) (ws : List V) (p : Addr) (H' : Hp), (∀ ys, ys ∈ L ↔ IsPart D r ys) → L.length ≤ 63 → Same H H' → H p = none → H' p = some (.lst ws) → RL H' ws L → Q (.ref p) H'
theorem ok_lpr {f fR : Addr} {fd fdR : FuncData} (F : Fun K "_law_parts" "_law_parts" sLpr f fd) (T : Bi mg) (d__law_reach : Df P w K mg base "_law_reach" ["doors", "start", "inside"] 1 (spLre K) fR fdR) : FnOk P w K mg base CX0 2 f fd ["doors", "rooms"] spLpr := by
  refine F.ok scLpr (fun vs H Q E h => ?_) (fun cdv A0 outer s H vs Q E hr h => ?_)
  · obtain ⟨l, us, D, r, rfl, _⟩ := h
    rfl
  · obtain ⟨l, us, D, r, rfl, hl, pl, r6, ret⟩ := h
    refine ⟨_, (pss_cons (ps_set (i := 2) scLpr.nd rfl (Or.inl rfl) (pe_lst (pa_cons (pe_lst pa_nil) pa_nil)))
      (pss_cons (ps_for PassesOwn.never rfl (pi_range1 (by rfl) T.range (pa_cons (pv 1) pa_nil)) (pg_name (i := 3) scLpr.nd rfl (Or.inr rfl))
      (pss_one (ps_set (i := 2) scLpr.nd rfl (Or.inl rfl) (pe_op op_cat (pv 2) (pe_lc (own := [("kept", 5)]) (te := (tOp rCat (tVar 5) (tLst (tCons (tVar 3) tNil)))) (by rfl) scLpr.nd (pi_list (pv 2)) (blkOk_by (N := ["doors", "rooms", "sets", "room", "parts", "kept", "part"]) (sc := defScope sLpr) (by decide +kernel)) (fun _ _ _ _ _ => pg_name (i := 5) scLpr.nd rfl (Or.inl rfl)) (fun _ _ _ _ _ => pts_nil) (fun _ _ _ _ _ => (pe_op op_cat (pv 5) (pe_lst (pa_cons (pv 3) pa_nil)))))))))
      (pss_cons (ps_setLc (i := 4) (own := [("kept", 5)]) (te := (tCB (fun xs H Q => ∃ p ys, xs = [V.ref p] ∧ ((SqL K H p ys ∧ ∀ l, H l = none → Q (V.ref l) (upd H l (HO.tup ys))) ∨ (SqT K H p ys ∧ Q (V.ref p) H))) (tCons (tVar 5) tNil))) (tt := (tTest (tOp (rI0 fun i j => V.bl (decide (j < i))) (tCB (fun xs H Q => ∃ p ys, xs = [V.ref p] ∧ (SqL K H p ys ∨ SqT K H p ys) ∧ Q (V.int ys.length) H) (tCons (tVar 5) tNil)) (tC (V.int 0))))) (by rfl) scLpr.nd rfl rfl (sw_true rfl rfl rfl (by decide +kernel)) (pi_list (pv 2)) (blkOk_by (N := ["doors", "rooms", "sets", "room", "parts", "kept", "part"]) (sc := defScope sLpr) (by decide +kernel)) (fun _ _ _ _ _ => pg_name (i := 5) scLpr.nd rfl (Or.inl rfl)) (fun _ _ _ _ _ => (pts_one (pt_cmpR op_gt (pe_callB call_len_seq (by rfl) T.len (by decide +kernel) (pa_cons (pv 5) pa_nil)) pe_int (nomark _)))) (fun _ _ _ _ _ => (pe_callTy call_tuple_of (by rfl) T.tuple (by decide +kernel) (pa_cons (pv 5) pa_nil))))
      (pss_cons (ps_setLc (i := 4) (own := [("part", 6)]) (te := (tVar 6)) (tt := (tTest (tOp (rI0 fun i j => V.bl (decide (i = j))) (tCB (fun xs H Q => ∃ p ys, xs = [V.ref p] ∧ (SqL K H p ys ∨ SqT K H p ys) ∧ Q (V.int ys.length) H) (tCons (tCall (spLre K) [] E0 (tCons (tVar 0) (tCons (tOp (rIxT K) (tVar 6) (tC (V.int 0))) (tCons (tVar 6) tNil)))) tNil)) (tCB (fun xs H Q => ∃ p ys, xs = [V.ref p] ∧ (SqL K H p ys ∨ SqT K H p ys) ∧ Q (V.int ys.length) H) (tCons (tVar 6) tNil))))) (by rfl) scLpr.nd rfl rfl (sw_true rfl rfl rfl (by decide +kernel)) (pi_list (pv 4)) (blkOk_by (N := ["doors", "rooms", "sets", "room", "parts", "kept", "part"]) (sc := defScope sLpr) (by decide +kernel)) (fun _ _ _ _ _ => pg_name (i := 6) scLpr.nd rfl (Or.inl rfl)) (fun _ _ _ _ _ => (pts_one (pt_cmpR op_eqI (pe_callB call_len_seq (by rfl) T.len (by decide +kernel) (pa_cons (pe_call d__law_reach.ok (hr.mono (by decide)) (by rfl) d__law_reach.at_ d__law_reach.kp d__law_reach.b .nil pass0 (pa_cons (pv 0) (pa_cons (pe_ix ix_tup (pv 6) pe_int (fun _ _ => rfl)) (pa_cons (pv 6) pa_nil)))) pa_nil)) (pe_callB call_len_seq (by rfl) T.len (by decide +kernel) (pa_cons (pv 6) pa_nil)) (nomark _)))) (fun _ _ _ _ _ => (pv 6)))
      (pss_one (ps_ret (pe_sortLen hr.units (by rfl) T.sorted (by rfl) T.len (pe_callB (cr_sortD hr.units) (by rfl) T.sorted (by decide +kernel) (pa_cons (pv 4) pa_nil))))))))), ?_⟩
    walk_at "rd"
    refine ⟨by decide, fun e0 ne0 => ⟨by decide, fun p0 np0 => ?_⟩⟩
    have s0 := (same_upd (o := HO.lst []) ne0).trans (same_upd (o := HO.lst [V.ref e0]) np0)
    have he0 := same_upd (o := HO.lst [V.ref e0]) np0 _ _ (upd_same (H := H) (a := e0) (o := HO.lst []))
    have hp0 := upd_same (H := upd H e0 (HO.lst [])) (a := p0) (o := HO.lst [V.ref e0])
    have np00 := (same_upd (o := HO.lst []) ne0).free np0
    generalize upd (upd H e0 (HO.lst [])) p0 (HO.lst [V.ref e0]) = H0 at s0 he0 hp0 ⊢
    refine for_iterW ?_
    walk_at "rd"
    obtain ⟨Pv, hPv⟩ : ∃ Pv : Nat → L2.St → Hp → Prop, Pv = (fun i σ Hx => ∃ (vs : List V) (p : Addr) (v3 : Option V), σ = [some (.ref l), some (.int r), some (.ref p), v3, none, none, none] ∧ Same H Hx ∧ H p = none ∧ Hx p = some (.lst vs) ∧ Paired (IsLI Hx) vs (subs i)) := ⟨_, rfl⟩
    refine ⟨by omega, by omega, for_range (lo := 0) (n := ((r : Nat) : Int).toNat) Pv (by rw [hPv]; exact ⟨_, p0, none, rfl, s0, np00, hp0, .cons ⟨e0, rfl, he0⟩ .nil⟩) (fun i σ Hx hi pv => ?_) (fun σ Hx pv => ?_)⟩
    · rw [hPv] at pv
      obtain ⟨vs, p, v3, rfl, sm, np, hp, pr⟩ := pv
      have vl : vs.length = 2 ^ i := by rw [pr.length, subs_len]
      have v64 : 2 ^ i ≤ 2 ^ 6 := Nat.pow_le_pow_right (by decide) (by omega)
      have v64' : vs.length ≤ 64 := by omega
      rw [Int.zero_add]
      walk_at "rd"
      refine lcW ?_
      walk_at "rd"
      refine ⟨⟨_, SqL.of hp⟩, gc_listD (fun D H v (b : List Int) => ∃ t, v = V.ref t ∧ t ≠ D ∧ H t = some (.lst (b.map V.int))) (fun D H H' v b h k => by obtain ⟨t, e, ne, h⟩ := h; exact ⟨t, e, ne, k _ _ ne h⟩) (fun j => (subs i)[j]?.bind fun b => some (b ++ [(i : Int)])) hp (by omega) (fun D j x Hy A B gx sy hD hA hB => ?_) fun o ys H2 s2 no ho pr2 => ?_⟩
      · obtain ⟨b, gb, tb, rfl, htb⟩ := pget pr gx
        rw [gb] at hA
        walk_at "rd"
        refine (show (if True then _ else _) from ?_)
        rw [if_pos trivial]
        refine ⟨Nat.le_of_lt (len_big (by omega)), fun p0 np0 => ?_⟩
        have bl : b.length < 64 := Nat.lt_of_le_of_lt (subs_bl gb) (by omega)
        have s0 := same_upd (o := HO.lst [V.int (i : Int)]) np0
        refine ⟨tb, p0, b.map V.int, [V.int (i : Int)], rfl, rfl, s0 _ _ (sy _ _ htb), upd_same, Nat.le_of_lt (len_big (by rw [List.length_map, List.length_singleton]; omega)), fun p1 np1 => ?_⟩
        have s1 := same_upd (o := HO.lst (b.map V.int ++ [V.int (i : Int)])) np1
        refine hA _ _ _ rfl (s0.trans s1) ⟨p1, rfl, fun z => ?_, by rw [upd_same, List.map_append]; rfl⟩
        obtain ⟨o, ho⟩ := hD
        have := s0 _ _ ho
        rw [← z, np1] at this
        cases this
      · have e : (List.range vs.length).filterMap (fun j => (subs i)[j]?.bind fun b => some (b ++ [(i : Int)])) = (subs i).map (· ++ [(i : Int)]) := by
          rw [pr.length, fm_range (L := subs i) (fun b => some (b ++ [(i : Int)])), List.filterMap_eq_map']
        rw [e] at pr2
        have yl : ys.length = 2 ^ i := by rw [pr2.length, List.length_map, subs_len]
        refine ⟨_, _, _, _, rfl, rfl, s2 _ _ hp, ho, Nat.le_of_lt (len_big (by omega)), fun p1 np1 => ?_⟩
        have s3 := same_upd (o := HO.lst (vs ++ ys)) np1
        rw [hPv]
        refine ⟨vs ++ ys, p1, some (.int (i : Int)), rfl, (sm.trans s2).trans s3, (sm.trans s2).free np1, upd_same, ?_⟩
        exact paired_app (Paired.mapP pr fun v b h => h.same (s2.trans s3)) (Paired.mapP pr2 fun v b h => by obtain ⟨t, e, _, h⟩ := h; exact ⟨t, e, s3 _ _ h⟩)
    · rw [hPv] at pv
      obtain ⟨vs, p, v3, rfl, sm, np, hp, pr⟩ := pv
      rw [Int.toNat_natCast] at pr
      have vl : vs.length = 2 ^ r := by rw [pr.length, subs_len]
      have v64 : 2 ^ r ≤ 2 ^ 6 := Nat.pow_le_pow_right (by decide) r6
      have v64' : vs.length ≤ 64 := by omega
      walk_at "rd"
      refine lcW ?_
      walk_at "rd"
      refine ⟨⟨_, SqL.of hp⟩, gc_list (fun H v (b : List Int) => IsR H v b) (fun _ _ _ _ h k => h.same k) (fun j => (subs r)[j]?.bind fun b => if 0 < b.length then some b else none) hp (by omega) (fun j x Hy A B gx sy hA hB => ?_) fun o ys H2 s2 no ho pr2 => ?_⟩
      · obtain ⟨b, gb, tb, rfl, htb⟩ := pget pr gx
        have bl : b.length < 64 := Nat.lt_of_le_of_lt (subs_bl gb) (by omega)
        rw [gb] at hA hB
        walk_at "rd"
        have hb := sy _ _ htb
        by_cases c : 0 < b.length
        · refine ⟨b.map V.int, .inl (SqL.of hb), ?_⟩
          rw [List.length_map, if_pos (by omega)]
          refine ⟨b.map V.int, .inl ⟨SqL.of hb, fun p1 np1 => ?_⟩⟩
          exact hA _ b _ (if_pos c) (same_upd np1) ⟨p1, rfl, upd_same⟩
        · refine ⟨b.map V.int, .inl (SqL.of hb), ?_⟩
          rw [List.length_map, if_neg (by omega)]
          exact hB _ (if_neg c) (Same.refl _)
      · have ef : (List.range vs.length).filterMap (fun j => (subs r)[j]?.bind fun b => if 0 < b.length then some b else none) = (subs r).filter fun b => decide (0 < b.length) := by
          rw [pr.length, fm_range (L := subs r) (fun b => if 0 < b.length then some b else none), fm_filter]
        rw [ef] at pr2
        obtain ⟨S1, eS1⟩ : ∃ S1, S1 = (subs r).filter fun b => decide (0 < b.length) := ⟨_, rfl⟩
        have hS1 : ∀ b, b ∈ S1 → b ≠ [] ∧ Up b ∧ ∀ x ∈ b, 0 ≤ x ∧ x < r := fun b hb => by
          rw [eS1] at hb
          obtain ⟨h1, h2⟩ := List.mem_filter.mp hb
          have h3 := of_decide_eq_true h2
          obtain ⟨h4, h5⟩ := subs_mem.mp h1
          exact ⟨fun z => (by rw [z] at h3; exact absurd h3 (Nat.lt_irrefl 0)), h4, h5⟩
        have S1l : S1.length ≤ 63 := by
          rw [eS1]
          have lt : ((subs r).filter fun b => decide (0 < b.length)).length < (subs r).length := filter_lt (x := []) (subs_mem.mpr ⟨List.Pairwise.nil, fun x hx => by cases hx⟩) (by simp)
          rw [subs_len] at lt
          omega
        have yl : ys.length = S1.length := by rw [pr2.length, eS1]
        rw [← eS1] at pr2
        refine lcW ?_
        walk_at "rd"
        refine ⟨⟨_, SqL.of ho⟩, gc_list (fun H v (b : List Int) => IsR H v b) (fun _ _ _ _ h k => h.same k) (fun j => S1[j]?.bind fun b => if Whole D b then some b else none) ho (by omega) (fun j x Hy A B gx sy hA hB => ?_) fun o2 zs H3 s3 no3 ho3 pr3 => ?_⟩
        · obtain ⟨b, gb, tb, rfl, htb⟩ := pget pr2 gx
          rw [gb] at hA hB
          obtain ⟨bn, bu, bb⟩ := hS1 b (List.mem_of_getElem? gb)
          have hb := sy _ _ htb
          walk_at "rd"
          cases eb : b with
          | nil => exact absurd eb bn
          | cons b0 bt =>
            have e0 : hdI b = b0 := by rw [eb]; rfl
            refine ⟨b.map V.int, SqT.of hb, .int b0, by rw [eb]; exact atI_nat (xs := V.int b0 :: bt.map V.int) (j := 0) rfl, l, tb, b0, us, D, b, rfl, sy _ _ (s2 _ _ (sm _ _ hl)), pl.kt (KT.same ((sm.trans s2).trans sy)), .inr (SqT.of hb), by have := up_le bu bb; omega, fun x hx => (bb x hx).1, fun ys2 t2 H4 pc s4 no4 ht4 => ?_⟩
            rw [← e0] at pc
            refine ⟨t2, rfl, ys2.map V.int, .inl (SqL.of ht4), b.map V.int, .inr (SqT.of (s4 _ _ hb)), ?_⟩
            have iff := part_len bu bn (fun x hx => (bb x hx).1) pc
            rw [List.length_map, List.length_map]
            by_cases c : ys2.length = b.length
            · rw [if_pos (by omega)]
              exact hA _ b _ (if_pos (iff.mp c)) s4 ⟨tb, rfl, s4 _ _ hb⟩
            · rw [if_neg (by omega)]
              exact hB _ (if_neg fun z => c (iff.mpr z)) s4
        · have ef2 : (List.range ys.length).filterMap (fun j => S1[j]?.bind fun b => if Whole D b then some b else none) = S1.filter fun b => decide (Whole D b) := by
            rw [yl, fm_range (L := S1) (fun b => if Whole D b then some b else none), fm_filter]
          rw [ef2] at pr3
          obtain ⟨S2, eS2⟩ : ∃ S2, S2 = S1.filter fun b => decide (Whole D b) := ⟨_, rfl⟩
          have hS2 : ∀ b, b ∈ S2 ↔ IsPart D r b := fun b => by
            rw [eS2, List.mem_filter]
            constructor
            · rintro ⟨h1, h2⟩
              obtain ⟨h3, h4, h5⟩ := hS1 b h1
              exact ⟨h3, h4, h5, of_decide_eq_true (p := Whole D b) h2⟩
            · rintro ⟨h3, h4, h5, h6⟩
              refine ⟨?_, (show decide (Whole D b) = true from decide_eq_true (p := Whole D b) h6)⟩
              rw [eS1]
              exact List.mem_filter.mpr ⟨subs_mem.mpr ⟨h4, h5⟩, decide_eq_true (List.length_pos_iff.mpr h3)⟩
          have S2l : S2.length ≤ 63 := by
            rw [eS2]
            exact Nat.le_trans (List.length_filter_le _ _) S1l
          rw [← eS2] at pr3
          refine tSort2 (a := o2) rfl ?_
          refine sort_rl ho3 pr3 (fun b hb => ((hS2 b).mp hb).1) fun o4 zs4 L4 H4 s4 no4 ho4 p4 rl4 => ?_
          refine sortLen_k ⟨o4, zs4, L4, rfl, ho4, rl4, fun o5 zs5 L5 H5 s5 no5 ho5 p5 rl5 => ?_⟩
          have sA := ((sm.trans s2).trans s3).trans s4
          refine ret L5 zs5 o5 H5 (fun b => by rw [p5.mem_iff, p4.mem_iff]; exact hS2 b) (by rw [p5.length_eq, p4.length_eq]; exact S2l) (sA.trans s5) (sA.free no5) ho5 rl5
end

/-! ### of a forced pair the last call of the first stands before that of the second -/
theorem near_adj {D : List Pr} {x y : Int} (h : y ∈ nearF x D) : Adj D x y := by
  unfold nearF at h
  obtain ⟨d, hd, e⟩ := List.mem_filterMap.mp h
  by_cases c1 : d.1 = x
  · rw [if_pos c1] at e
    have e2 := Option.some.inj e
    rw [← c1, ← e2]
    exact .inl hd
  · rw [if_neg c1] at e
    by_cases c2 : d.2 = x
    · rw [if_pos c2] at e
      have e2 := Option.some.inj e
      rw [← c2, ← e2]
      exact .inr hd
    · rw [if_neg c2] at e
      cases e
/-- what a forced pair tells: two parts, one within the other, the outer one with x called last -/
theorem forced_part {D : List Pr} {L : List Cl} {r : Nat} (r12 : r ≤ 12) {z x : Int} (h : ((z, x) : Pr) ∈ pairsF D (formF D r L)) : ∃ (P : List Int) (w v : Str), Part D P ∧ (∀ y ∈ P, y ∈ rg r) ∧ z ∈ P ∧ x ∉ P ∧ x ∈ rg r ∧ wordP L P = some w ∧ wordP L (upF (x :: P)) = some v ∧ w ≠ v ∧ Part D (upF (x :: P)) ∧ wordP L [z] = some w ∧ wordP L [x] = some v := by
  unfold pairsF at h
  obtain ⟨bo, hbo, h⟩ := List.mem_flatMap.mp h
  obtain ⟨bi, hbi, h⟩ := List.mem_flatMap.mp h
  obtain ⟨k1, P1, e1, p1, sub1⟩ := pre_part 13 12 (rg r) bo hbo
  have l1 : P1.length ≤ 12 := by
    have := int_sub_len2 (up_nd p1.1) sub1
    rw [rg_len] at this
    omega
  cases ew : wordP L P1 with
  | none =>
    rw [e1, blkP_none ew, show (Blk.mk none P1 []).i = [] from rfl, preF_nil] at hbi
    cases hbi
  | some v =>
    rw [e1, blkP_some ew] at hbi
    obtain ⟨k2, P2, e2, p2, sub2⟩ := pre_part 13 k1 _ bi hbi
    have sub21 : ∀ y ∈ P2, y ∈ P1 := fun y hy => (List.mem_filter.mp (sub2 y hy)).1
    have l2 : P2.length ≤ 12 := Nat.le_trans (int_sub_len2 (up_nd p2.1) sub21) l1
    have wi : bi.w = wordP L P2 := by rw [e2, blkP_w]
    have wo : bo.w = some v := by rw [e1, blkP_w, ew]
    rw [pairB_eq] at h
    obtain ⟨x', hx', h⟩ := List.mem_flatMap.mp h
    unfold Gx at h
    by_cases c : besB D (rmsB bi) x' = true ∧ bi.w ≠ none ∧ bi.w ≠ bo.w
    · rw [if_pos c] at h
      obtain ⟨z', hz', e⟩ := List.mem_map.mp h
      have ez : z' = z := (Prod.mk.inj e).1
      have ex : x' = x := (Prod.mk.inj e).2
      subst ez
      subst ex
      cases ewi : wordP L P2 with
      | none => rw [wi] at c; exact absurd ewi c.2.1
      | some w =>
        have wne : w ≠ v := fun q => c.2.2 (by rw [wi, wo, ewi, q])
        have hz2 : z' ∈ upF (keepL D L 12 P2) := by
          rw [e2, blkP_some ewi] at hz'
          exact hz'
        have hx2 : x' ∈ upF (keepL D L 12 P1) := by
          rw [e1, blkP_some ew] at hx'
          exact hx'
        obtain ⟨zP, zk⟩ := (keepL_iff 12 P2 w l2 p2 ewi z').mp ((upF_mem _ _).mp hz2)
        obtain ⟨xP, xk⟩ := (keepL_iff 12 P1 v l1 p1 ew x').mp ((upF_mem _ _).mp hx2)
        have one : ∀ y : Int, Part D [y] := fun y => ⟨List.pairwise_singleton _ _, y, List.mem_singleton.mpr rfl, fun u hu => by rw [List.mem_singleton.mp hu]; exact .base (List.mem_singleton.mpr rfl)⟩
        obtain ⟨y, hy, hy2⟩ := List.any_eq_true.mp c.1
        have yP : y ∈ P2 := by
          have := of_decide_eq_true hy2
          rw [e2] at this
          exact (rms_of (up_nd p2.1)).1 y this
        have nx : x' ∉ P2 := fun q => by
          have := (List.mem_filter.mp (sub2 _ q)).2
          exact of_decide_eq_true this ((upF_mem _ _).mp hx2)
        obtain ⟨s, hs, hr⟩ := p2.2
        have inU : ∀ u ∈ P2, u ∈ upF (x' :: P2) := fun u hu => (upF_mem _ _).mpr (List.mem_cons_of_mem _ hu)
        have xU : x' ∈ upF (x' :: P2) := (upF_mem _ _).mpr List.mem_cons_self
        have pU : Part D (upF (x' :: P2)) := ⟨upF_up _, x', xU, fun u hu => by
          rcases List.mem_cons.mp ((upF_mem _ _).mp hu) with q | q
          · rw [q]
            exact .base xU
          · exact ((Rch.base xU).step (near_adj hy) (inU y yP)).trans (((hr y yP).symm.trans (hr u q)).mono inU)⟩
        have wU := xk _ pU xU fun u hu => by
          rcases List.mem_cons.mp ((upF_mem _ _).mp hu) with q | q
          · rw [q]
            exact xP
          · exact sub21 u q
        exact ⟨P2, w, v, p2, fun u hu => sub1 u (sub21 u hu), zP, nx, sub1 _ xP, ewi, wU, wne, pU, zk _ (one _) (List.mem_singleton.mpr rfl) fun u hu => by rw [List.mem_singleton.mp hu]; exact zP, xk _ (one _) (List.mem_singleton.mpr rfl) fun u hu => by rw [List.mem_singleton.mp hu]; exact xP⟩
    · rw [if_neg c] at h
      cases h
theorem forced_last {D : List Pr} {L : List Cl} {r : Nat} (r12 : r ≤ 12) {z x : Int} (h : ((z, x) : Pr) ∈ pairsF D (formF D r L)) : ∃ (A B : List Cl) (c : Cl), lastF L = A ++ c :: B ∧ c.1 = x ∧ z ∈ A.map (·.1) := by
  obtain ⟨P, w, v, p, sub, zP, nx, xr, wP, wU, ne, pU, wz, wx⟩ := forced_part r12 h
  have zU : z ∈ upF (x :: P) := (upF_mem _ _).mpr (List.mem_cons_of_mem _ zP)
  have e : wordP (lastF L) (upF (x :: P)) = some v := by rw [wordP_last]; exact wU
  have e2 : wordP (lastF L) P = some w := by rw [wordP_last]; exact wP
  have e3 : wordP (lastF L) [z] = some w := by rw [wordP_last]; exact wz
  generalize lastF L = S at e e2 e3 ⊢
  cases hc : lastIn (upF (x :: P)) S with
  | none => unfold wordP at e; rw [hc] at e; cases e
  | some c =>
    have ev : c.2 = v := by unfold wordP at e; rw [hc] at e; exact Option.some.inj e
    have cx : c.1 = x := by
      rcases List.mem_cons.mp ((upF_mem _ _).mp (lastIn_in hc)) with q | q
      · exact q
      · have := lastIn_sub S hc q fun u hu => (upF_mem _ _).mpr (List.mem_cons_of_mem _ hu)
        unfold wordP at e2
        rw [this] at e2
        exact absurd ((Option.some.inj e2).symm.trans ev) ne
    unfold lastIn at hc
    obtain ⟨_, Bs, As, e4, e5⟩ := List.find?_eq_some_iff_append.mp hc
    have eS : S = As.reverse ++ c :: Bs.reverse := by
      have := congrArg List.reverse e4
      rw [List.reverse_reverse, List.reverse_append, List.reverse_cons, List.append_assoc] at this
      exact this
    refine ⟨As.reverse, Bs.reverse, c, eS, cx, ?_⟩
    have hz : ∃ d ∈ S, d.1 = z := by
      cases hd : lastIn [z] S with
      | none => unfold wordP at e3; rw [hd] at e3; cases e3
      | some d =>
        refine ⟨d, List.mem_reverse.mp (List.mem_of_find?_eq_some hd), ?_⟩
        exact List.mem_singleton.mp (lastIn_in hd)
    obtain ⟨d, hd, ed⟩ := hz
    rw [eS] at hd
    rcases List.mem_append.mp hd with q | q
    · exact List.mem_map.mpr ⟨d, q, ed⟩
    · rcases List.mem_cons.mp q with q | q
      · exact absurd (by rw [← ed, q, cx] : z = x) fun g => nx (g ▸ zP)
      · have := e5 d (List.mem_reverse.mp q)
        rw [ed] at this
        simp [zU] at this

/-! ### an order of the called rooms that keeps all forced pairs leaves the same form -/
/-- the first room stands before the second -/
def Bef (O : List Int) (z x : Int) : Prop := ∃ i j : Nat, O[i]? = some z ∧ O[j]? = some x ∧ i < j
theorem nd_pos {T : List Int} (nd : T.Nodup) {i j : Nat} {x : Int} (h : T[i]? = some x) (k : T[j]? = some x) : i = j := by
  obtain ⟨hi, ei⟩ := List.getElem?_eq_some_iff.mp h
  obtain ⟨hj, ej⟩ := List.getElem?_eq_some_iff.mp k
  have := List.pairwise_iff_getElem.mp nd
  rcases Nat.lt_trichotomy i j with q | q | q
  · exact absurd (ei.trans ej.symm) (this i j hi hj q)
  · exact q
  · exact absurd (ej.trans ei.symm) (this j i hj hi q)
theorem Bef.trans {O : List Int} (nd : O.Nodup) {a b c : Int} (h : Bef O a b) (k : Bef O b c) : Bef O a c := by
  obtain ⟨i, j, h1, h2, h3⟩ := h
  obtain ⟨i', j', k1, k2, k3⟩ := k
  have := nd_pos nd h2 k1
  exact ⟨i, j', h1, k2, by omega⟩
theorem Bef.irr {O : List Int} (nd : O.Nodup) {a b : Int} (h : Bef O a b) (k : Bef O b a) : False := by
  obtain ⟨i, j, h1, h2, h3⟩ := h.trans nd k
  have := nd_pos nd h1 h2
  omega
theorem rch_exit {D : List Pr} {Q : List Int} {S : Int → Prop} {y t : Int} (h : Rch D Q y t) (hy : S y) (ht : ¬ S t) : ∃ u x, S u ∧ u ∈ Q ∧ ¬ S x ∧ x ∈ Q ∧ Adj D u x := by
  induction h with
  | base _ => exact absurd hy ht
  | @step a b k e m ih =>
    by_cases c : S a
    · exact ⟨a, b, c, k.mem, ht, m, e⟩
    · exact ih c
theorem part_rch {D : List Pr} {Q : List Int} (h : Part D Q) {a b : Int} (ha : a ∈ Q) (hb : b ∈ Q) : Rch D Q a b := by
  obtain ⟨_, s, hs, h2⟩ := h
  exact (h2 a ha).symm.trans (h2 b hb)
theorem one_part (D : List Pr) (y : Int) : Part D [y] := ⟨List.pairwise_singleton _ _, y, List.mem_singleton.mpr rfl, fun u hu => by rw [List.mem_singleton.mp hu]; exact .base (List.mem_singleton.mpr rfl)⟩
theorem pcs_mem {D : List Pr} {R : List Int} {x : Int} (h : x ∈ R) : ∃ P ∈ pcsF D R, x ∈ P := (pcsF_spec D R).cov x h
/-- the word of an inner piece is another one -/
theorem child_word {D : List Pr} {L : List Cl} {P P1 : List Int} {w w1 : Str} (pl : P.length ≤ 12) (p : Part D P) (hw : wordP L P = some w) (h1 : P1 ∈ pcsF D (P.filter fun x => decide (x ∉ keepL D L 12 P))) (hw1 : wordP L P1 = some w1) : w1 ≠ w := by
  intro e
  subst e
  have hs := pcsF_spec D (P.filter fun x => decide (x ∉ keepL D L 12 P))
  cases hc : lastIn P1 L with
  | none => unfold wordP at hw1; rw [hc] at hw1; cases hw1
  | some c =>
    have ec : c.2 = w1 := by unfold wordP at hw1; rw [hc] at hw1; exact Option.some.inj hw1
    have m1 := lastIn_in hc
    have mR := hs.sub_of h1 _ m1
    obtain ⟨mP, nk⟩ := List.mem_filter.mp mR
    refine of_decide_eq_true nk ((keepL_iff 12 P w1 pl p hw c.1).mpr ⟨mP, fun Q hQ hc2 sub => ?_⟩)
    by_cases k : ∃ t ∈ Q, t ∈ keepL D L 12 P
    · obtain ⟨t, tQ, tk⟩ := k
      exact ((keepL_iff 12 P w1 pl p hw t).mp tk).2 Q hQ tQ sub
    · have inR : ∀ x ∈ Q, x ∈ P.filter fun x => decide (x ∉ keepL D L 12 P) := fun x hx => List.mem_filter.mpr ⟨sub x hx, decide_eq_true fun z => k ⟨x, hx, z⟩⟩
      have inP := hs.within hQ inR h1 hc2 m1
      have := lastIn_sub L hc hc2 inP
      unfold wordP
      rw [this]
      show some c.2 = some w1
      rw [ec]
/-- of a room that is no top of a part: some top of the part behind it, in each part that holds the room and a top -/
theorem climb {D : List Pr} {L : List Cl} {O : List Int} (dok : ∀ d ∈ D, d.1 < d.2) (nd : O.Nodup) : ∀ (n m k : Nat) (P : List Int) (w : Str), P.length ≤ n → n ≤ m → P.length ≤ 12 → P.length ≤ k + 1 → Part D P → wordP L P = some w →
    (∀ bo ∈ preF m [blkP D L k P], ∀ bi ∈ preF 13 bo.i, ∀ zx ∈ pairB D bi bo, Bef O zx.1 zx.2) → ∀ y ∈ P, wordP L [y] ≠ none → y ∉ keepL D L 12 P → ∀ Q, Part D Q → (∀ x ∈ Q, x ∈ P) → y ∈ Q → (∃ t ∈ Q, t ∈ keepL D L 12 P) → ∃ t ∈ Q, t ∈ keepL D L 12 P ∧ Bef O y t
  | 0, m, k, P, w, pn, _, _, _, _, _, _, y, yP, _, _, _, _, _, _, _ => by
    have := List.length_eq_zero_iff.mp (Nat.le_zero.mp pn)
    rw [this] at yP
    cases yP
  | n + 1, m, k, P, w, pn, nm, pl, pk, p, hw, ob, y, yP, yc, yk, Q, hQ, sub, yQ, hk => by
    obtain ⟨t0, t0Q, t0k⟩ := hk
    obtain ⟨R, eR⟩ : ∃ R, R = P.filter fun x => decide (x ∉ keepL D L 12 P) := ⟨_, rfl⟩
    have yR : y ∈ R := by rw [eR]; exact List.mem_filter.mpr ⟨yP, decide_eq_true yk⟩
    have Rlt : R.length < P.length := by
      rw [eR]
      exact filter_lt (sub t0 t0Q) (by simpa using t0k)
    have hs := pcsF_spec D R
    obtain ⟨P1, hP1, yP1⟩ := pcs_mem (D := D) yR
    have R1 : 1 ≤ R.length := List.length_pos_of_mem yR
    obtain ⟨k', ek⟩ : ∃ k', k = k' + 1 := ⟨k - 1, by omega⟩
    subst ek
    obtain ⟨m', em⟩ : ∃ m', m = m' + 1 := ⟨m - 1, by omega⟩
    subst em
    have p1 := hs.part hP1
    have P1l : P1.length ≤ R.length := int_sub_len2 (up_nd p1.1) (hs.sub_of hP1)
    have eb : blkP D L (k' + 1) P = .mk (some w) (upF (keepL D L 12 P)) (blkF D L (k' + 1) R) := by rw [blkP_some hw, eR]
    have ei : (blkP D L (k' + 1) P).i = (pcsF D R).map (blkP D L k') := by rw [eb]; rfl
    have mb1 : blkP D L k' P1 ∈ (blkP D L (k' + 1) P).i := by
      rw [ei]
      exact List.mem_map.mpr ⟨P1, hP1, rfl⟩
    cases hw1 : wordP L P1 with
    | none => exact absurd (wordP_sub hw1 fun u hu => by rw [List.mem_singleton.mp hu]; exact yP1) yc
    | some w1 =>
      have wne : w1 ≠ w := child_word pl p hw (by rw [← eR]; exact hP1) hw1
      have t0n : t0 ∉ P1 := fun z => by
        have := hs.sub_of hP1 _ z
        rw [eR] at this
        exact of_decide_eq_true (List.mem_filter.mp this).2 t0k
      obtain ⟨u, x, uP1, uQ, xn, xQ, adj⟩ := rch_exit (S := fun z => z ∈ P1) (part_rch hQ yQ t0Q) yP1 t0n
      have xk : x ∈ keepL D L 12 P := Classical.byContradiction fun c => by
        have xR : x ∈ R := by rw [eR]; exact List.mem_filter.mpr ⟨sub x xQ, decide_eq_true c⟩
        obtain ⟨s, hsR, pc⟩ := hs.pc P1 hP1
        exact xn ((pc.2 x).mpr (((pc.2 u).mp uP1).step adj xR))
      have uR := rms_all (D := D) (L := L) (k := k') (P := P1) (by omega) (by omega) u uP1
      have bes : besB D (rmsB (blkP D L k' P1)) x = true := List.any_eq_true.mpr ⟨u, (mem_nearF dok).mpr adj.symm, decide_eq_true uR⟩
      have top : ∀ z ∈ keepL D L 12 P1, Bef O z x := fun z hz => by
        refine ob (blkP D L (k' + 1) P) ?_ (blkP D L k' P1) ?_ (z, x) ?_
        · rw [preF_one]
          exact List.mem_cons_self
        · exact List.mem_flatMap.mpr ⟨_, mb1, List.mem_cons_self⟩
        · rw [pairB_eq]
          refine List.mem_flatMap.mpr ⟨x, ?_, ?_⟩
          · rw [eb]
            exact (upF_mem _ _).mpr xk
          · unfold Gx
            have c1 : (blkP D L k' P1).w ≠ none := by rw [blkP_w, hw1]; simp
            have c2 : (blkP D L k' P1).w ≠ (blkP D L (k' + 1) P).w := by rw [blkP_w, blkP_w, hw1, hw]; exact fun z => wne (Option.some.inj z)
            rw [if_pos ⟨bes, c1, c2⟩]
            refine List.mem_map.mpr ⟨z, ?_, rfl⟩
            rw [blkP_some hw1]
            exact (upF_mem _ _).mpr hz
      by_cases c : y ∈ keepL D L 12 P1
      · exact ⟨x, xQ, xk, top y c⟩
      · obtain ⟨t1, t1P, t1k⟩ := keepL_ne (D := D) (n := 11) hw1
        obtain ⟨t2, _, t2k, b2⟩ := climb dok nd n m' k' P1 w1 (by omega) (by omega) (by omega) (by omega) p1 hw1 (fun bo hbo bi hbi zx hzx => ob bo (by
          rw [preF_one, ei]
          refine List.mem_cons_of_mem _ ?_
          cases m' with
          | zero => cases hbo
          | succ m'' =>
            rw [preF_one] at hbo
            exact List.mem_flatMap.mpr ⟨blkP D L k' P1, List.mem_map.mpr ⟨P1, hP1, rfl⟩, hbo⟩) bi hbi zx hzx) y yP1 yc c P1 p1 (fun z hz => hz) yP1 ⟨t1, t1P, t1k⟩
        exact ⟨x, xQ, xk, b2.trans nd (top t2 t2k)⟩
/-- a log that calls these rooms once each, in this order, with the last words of another log -/
structure OrdLog (L M : List Cl) (O : List Int) : Prop where
  map : M.map (·.1) = O
  nd : O.Nodup
  word : ∀ c ∈ M, wordP L [c.1] = some c.2
theorem last_behind {M : List Cl} {O : List Int} {Q : List Int} {c : Cl} (hm : M.map (·.1) = O) (nd : O.Nodup) (h : lastIn Q M = some c) {t : Int} (tQ : t ∈ Q) : ¬ Bef O c.1 t := by
  rintro ⟨i, j, h1, h2, lt⟩
  unfold lastIn at h
  obtain ⟨_, Bs, As, e4, e5⟩ := List.find?_eq_some_iff_append.mp h
  have eM : M = As.reverse ++ c :: Bs.reverse := by
    have := congrArg List.reverse e4
    rw [List.reverse_reverse, List.reverse_append, List.reverse_cons, List.append_assoc] at this
    exact this
  have ic : O[As.reverse.length]? = some c.1 := by
    rw [← hm, eM, List.map_append, List.map_cons, List.getElem?_append_right (by rw [List.length_map]; exact Nat.le_refl _), List.length_map, Nat.sub_self]
    rfl
  have ei := nd_pos nd h1 ic
  rw [← hm, eM, List.map_append, List.map_cons, List.getElem?_append_right (by rw [List.length_map]; omega), List.length_map] at h2
  obtain ⟨d, hd⟩ : ∃ d, j - As.reverse.length = d + 1 := ⟨j - As.reverse.length - 1, by omega⟩
  rw [hd, List.getElem?_cons_succ, List.getElem?_map] at h2
  cases e : Bs.reverse[d]? with
  | none => rw [e] at h2; cases h2
  | some b =>
    rw [e] at h2
    have eb : b.1 = t := Option.some.inj h2
    have := e5 b (List.mem_reverse.mp (List.mem_of_getElem? e))
    rw [eb] at this
    simp [tQ] at this
theorem obey_go {D : List Pr} {L M : List Cl} {O : List Int} (dok : ∀ d ∈ D, d.1 < d.2) (om : OrdLog L M O) : ∀ (n m k : Nat) (R : List Int), R.length ≤ n → n ≤ m → n ≤ k → R.length ≤ 12 → (∀ x ∈ R, x ∈ O ↔ wordP L [x] ≠ none) → (∀ x ∈ O, wordP L [x] ≠ none) →
    (∀ bo ∈ preF m (blkF D L k R), ∀ bi ∈ preF 13 bo.i, ∀ zx ∈ pairB D bi bo, Bef O zx.1 zx.2) → AlkP D R M L
  | 0, m, k, R, rn, _, _, _, _, _, _ => fun Q hQ sub => by
    obtain ⟨s, hs, _⟩ := hQ.2
    have := sub s hs
    rw [List.length_eq_zero_iff.mp (Nat.le_zero.mp rn)] at this
    cases this
  | n + 1, 0, k, R, rn, nm, _, _, _, _, _ => by omega
  | n + 1, m + 1, 0, R, rn, _, nk, _, _, _, _ => by omega
  | n + 1, m + 1, k + 1, R, rn, nm, nk, r12, inO, all, ob => fun Q hQ sub => by
    have hs := pcsF_spec D R
    obtain ⟨s, sQ, _⟩ := hQ.2
    obtain ⟨P, hP, sP⟩ := pcs_mem (D := D) (sub s sQ)
    have QP := hs.within hQ sub hP sQ sP
    have p := hs.part hP
    have PR := hs.sub_of hP
    have Pl : P.length ≤ R.length := int_sub_len2 (up_nd p.1) PR
    have eF : blkF D L (k + 1) R = (pcsF D R).map (blkP D L k) := rfl
    have mb : blkP D L k P ∈ blkF D L (k + 1) R := by rw [eF]; exact List.mem_map.mpr ⟨P, hP, rfl⟩
    have obP : ∀ bo ∈ preF (m + 1) [blkP D L k P], ∀ bi ∈ preF 13 bo.i, ∀ zx ∈ pairB D bi bo, Bef O zx.1 zx.2 := fun bo hbo => by
      rw [preF_one] at hbo
      exact ob bo (List.mem_flatMap.mpr ⟨_, mb, hbo⟩)
    cases hw : wordP L P with
    | none =>
      rw [wordP_sub hw QP]
      refine wordP_out fun c hc cQ => ?_
      have := om.word c hc
      rw [wordP_sub hw fun u hu => by rw [List.mem_singleton.mp hu]; exact QP _ cQ] at this
      cases this
    | some w =>
      by_cases hk : ∃ t ∈ Q, t ∈ keepL D L 12 P
      · obtain ⟨t, tQ, tk⟩ := hk
        have kw := (keepL_iff 12 P w (by omega) p hw t).mp tk
        rw [kw.2 Q hQ tQ QP]
        have tw : wordP L [t] = some w := kw.2 [t] (one_part D t) (List.mem_singleton.mpr rfl) fun u hu => by rw [List.mem_singleton.mp hu]; exact kw.1
        have tO : t ∈ O := (inO t (PR t kw.1)).mpr (by rw [tw]; simp)
        cases hc : lastIn Q M with
        | none =>
          rw [← om.map] at tO
          obtain ⟨c, hc1, hc2⟩ := List.mem_map.mp tO
          exact absurd (hc2 ▸ tQ) (lastIn_none.mp hc c hc1)
        | some c =>
          have cQ := lastIn_in hc
          have cM : c ∈ M := List.mem_reverse.mp (List.mem_of_find?_eq_some hc)
          have cw := om.word c cM
          have ck : c.1 ∈ keepL D L 12 P := Classical.byContradiction fun n2 => by
            obtain ⟨t2, t2Q, _, b⟩ := climb dok om.nd P.length (m + 1) k P w (Nat.le_refl _) (by omega) (by omega) (by omega) p hw obP c.1 (QP _ cQ) (by rw [cw]; simp) n2 Q hQ QP cQ ⟨t, tQ, tk⟩
            exact last_behind om.map om.nd hc t2Q b
          have := ((keepL_iff 12 P w (by omega) p hw c.1).mp ck).2 [c.1] (one_part D _) (List.mem_singleton.mpr rfl) fun u hu => by rw [List.mem_singleton.mp hu]; exact QP _ cQ
          rw [cw] at this
          unfold wordP
          rw [hc]
          exact this
      · have QR : ∀ x ∈ Q, x ∈ P.filter fun x => decide (x ∉ keepL D L 12 P) := fun x hx => List.mem_filter.mpr ⟨QP x hx, decide_eq_true fun z => hk ⟨x, hx, z⟩⟩
        obtain ⟨t, tP, tk⟩ := keepL_ne (D := D) (n := 11) hw
        have lt : (P.filter fun x => decide (x ∉ keepL D L 12 P)).length < P.length := filter_lt tP (by simpa using tk)
        refine obey_go dok om n m k (P.filter fun x => decide (x ∉ keepL D L 12 P)) (by omega) (by omega) (by omega) (by omega) (fun x hx => inO x (PR x (List.mem_filter.mp hx).1)) all (fun bo hbo => obP bo ?_) Q hQ QR
        rw [preF_one, blkP_some hw]
        exact List.mem_cons_of_mem _ hbo
/-- all pairs kept: all parts have the same words -/
theorem obey_alk {D : List Pr} {L M : List Cl} {O : List Int} {r : Nat} (r12 : r ≤ 12) (dok : ∀ d ∈ D, d.1 < d.2) (om : OrdLog L M O) (inO : ∀ x ∈ rg r, x ∈ O ↔ wordP L [x] ≠ none) (all : ∀ x ∈ O, wordP L [x] ≠ none) (ob : ∀ zx ∈ pairsF D (formF D r L), Bef O zx.1 zx.2) : AlkP D (rg r) M L := by
  refine obey_go dok om 12 13 12 (rg r) (by rw [rg_len]; exact r12) (by decide) (Nat.le_refl _) (by rw [rg_len]; exact r12) inO all fun bo hbo bi hbi zx hzx => ob zx ?_
  exact List.mem_flatMap.mpr ⟨bo, hbo, List.mem_flatMap.mpr ⟨bi, hbi, hzx⟩⟩
theorem lastF_nd {M : List Cl} (nd : (M.map (·.1)).Nodup) : lastF M = M := by
  induction M with
  | nil => rfl
  | cons c S ih =>
    obtain ⟨n1, n2⟩ := List.nodup_cons.mp nd
    show (if c.1 ∈ S.map (·.1) then lastF S else c :: lastF S) = _
    rw [if_neg n1, ih n2]
/-- all parts have the same words: all pairs are kept -/
theorem alk_obey {D : List Pr} {L M : List Cl} {O : List Int} {r : Nat} (r12 : r ≤ 12) (om : OrdLog L M O) (h : AlkP D (rg r) M L) : ∀ zx ∈ pairsF D (formF D r L), Bef O zx.1 zx.2 := by
  rintro ⟨z, x⟩ hzx
  rw [← form_alk r12 h] at hzx
  obtain ⟨A, B, c, e, cx, hz⟩ := forced_last r12 hzx
  rw [lastF_nd (by rw [om.map]; exact om.nd)] at e
  obtain ⟨i, hi⟩ := List.getElem?_of_mem hz
  have il := (List.getElem?_eq_some_iff.mp hi).1
  refine ⟨i, (A.map (·.1)).length, ?_, ?_, il⟩
  · rw [← om.map, e, List.map_append, List.getElem?_append_left il]
    exact hi
  · rw [← om.map, e, List.map_append, List.map_cons, List.getElem?_append_right (Nat.le_refl _), Nat.sub_self]
    exact congrArg some cx

/-! ### all(test for a, b in xs), xs a list of pairs of ints -/
section
variable {X : Cx} {pins : List (Addr × Obj)} {σ : L2.St} {H : Hp} {s : Shared}
def EltP (X : Cx) (pins : List (Addr × Obj)) (σ : L2.St) (H1 : Hp) (P : Addr) (scope : Scope) (xa xb : Str) (elt : Expr) (ps : List Pr) (pb : Pr → Bool) : Prop :=
  ∀ (cenv : Env) (A' : Around) (E' : Value → Shared → Prop) (p : Pr) (u v : Value) (sa s2 : Shared) (m2 : Str → Option Value), cenv.scope = scope → cenv.cells = cloFrom X.env.cells scope.names [] → p ∈ ps → L2.RelV (V.int p.1) u → L2.RelV (V.int p.2) v → s2.heap.Ns cenv.locals m2 → m2 xa = some u → m2 xb = some v →
    Inv X pins σ H1 sa → (∀ b o, b ≠ P → sa.heap.get? b = some o → s2.heap.get? b = some o) → wpAny (model X.prog X.w) A' (eval elt cenv) (fun y s3 => y = .bool (pb p) ∧ Keeps s2 s3) E' s2
structure GenP (esc scope : Scope) (xa xb : Str) : Prop where
  kind : scope.kind = .function
  co : scope.isCoroutine = false
  cell : ∀ y ∈ scope.names, y.2 ≠ .cell
  dot : scope.names.lookup (".0" : Str) = some NameKind.local
  la : scope.names.lookup xa = some .local
  lb : scope.names.lookup xb = some .local
  ne : xa ≠ xb
  free : ∀ y ∈ scope.names, y.2 = .free → esc.names.lookup y.1 = some .cell ∨ esc.names.lookup y.1 = some .free
def trP (pb : Pr → Bool) (l : List Pr) (j : Nat) : Bool := match l[j]? with
  | some b => pb b
  | none => false
theorem trP_some {pb : Pr → Bool} {l : List Pr} {j : Nat} {b : Pr} (h : l[j]? = some b) : trP pb l j = pb b := by
  unfold trP
  rw [h]
theorem all_trP (l : List Pr) (pb : Pr → Bool) : (List.range l.length).all (trP pb l) = l.all pb := by
  rw [Bool.eq_iff_iff, List.all_eq_true, List.all_eq_true]
  constructor
  · intro h b hb
    obtain ⟨j, hj, e⟩ := List.getElem_of_mem hb
    have q := h j (List.mem_range.mpr hj)
    rw [trP_some (List.getElem?_eq_getElem hj), e] at q
    exact q
  · intro h j hj
    have hj' := List.mem_range.mp hj
    rw [trP_some (List.getElem?_eq_getElem hj')]
    exact h _ (List.getElem_mem hj')
/-- what is walked lies in the range -/
theorem walksU_lt {prog : Program} {w : World} {A : Around} {I : Addr} {fp wr : List Addr} {n : Nat} {Pt : Nat → Array Value → Prop} {St : Nat → Heap → Prop} {Mid : Nat → Addr → Heap → Prop} (W : WalksU prog w A I fp wr n Pt St Mid) : WalksU prog w A I fp wr n (fun j v => j < n ∧ Pt j v) St Mid where
  sub := W.sub
  frame := W.frame
  item := fun i s Q E hi st hQ => W.item i s Q E hi st fun T vals h' tk hp ht hm hk => hQ T vals h' tk ⟨hi, hp⟩ ht hm hk
  go := W.go
  apart := W.apart
  done := W.done
  self := W.self
def adrOf : Option Value → Addr
  | some (.ref a) => a
  | _ => 0
/-- a list of pairs, ready to be walked -/
theorem iter_pairs {yl : Addr} {ws : List V} {ps : List Pr} {Q' : Value → Shared → Prop} (I : Inv X pins σ H s) (h : SqL X.K H yl ws) (hp : PL H ws ps)
    (q : ∀ (us : List Value) (Ts : Nat → Addr) (vals : Nat → Array Value) (o : Obj), us.length = ps.length → yl < s.heap.objs.size → (∀ k, k < us.length → Ts k < s.heap.objs.size) →
      (∀ {c : Addr} {fs : Array Value}, s.heap.get? c = some { cls := .none, data := .fields fs } → yl ≠ c ∧ ∀ k, k < us.length → Ts k ≠ c) →
      (∀ k p, ps[k]? = some p → ∃ u v, vals k = #[u, v] ∧ L2.RelV (V.int p.1) u ∧ L2.RelV (V.int p.2) v) →
      (∀ k, k < us.length → ∃ u v, vals k = #[u, v]) →
      (∀ A' : Around, A'.handled = none → WalksU X.prog X.w A' s.heap.objs.size (s.heap.objs.size :: yl :: (List.range us.toArray.size).map Ts) [s.heap.objs.size] us.toArray.size (fun j v => v = vals j)
        (fun j h => h.IsListIter s.heap.objs.size yl j ∧ h.IsList yl us.toArray ∧ ∀ k, k < us.toArray.size → h.IsTuple (Ts k) (vals k))
        (fun j T h => (j < us.toArray.size ∧ T = Ts j) ∧ h.IsListIter s.heap.objs.size yl (j + 1) ∧ h.IsList yl us.toArray ∧ ∀ k, k < us.toArray.size → h.IsTuple (Ts k) (vals k))) →
      ((s.heap.push o).IsListIter s.heap.objs.size yl 0 ∧ (s.heap.push o).IsList yl us.toArray ∧ ∀ k, k < us.toArray.size → (s.heap.push o).IsTuple (Ts k) (vals k)) → Q' (.ref s.heap.objs.size) { s with heap := s.heap.push o }) : wpAny (model X.prog X.w) X.A (pyIter (.ref yl)) Q' X.xe s := by
  obtain ⟨us, rv, hl, hz⟩ := I.list h
  have lst := hl.isList
  have lt : yl < s.heap.objs.size := by
    obtain ⟨_, e, _⟩ := _root_.id lst
    exact Heap.lt_size e
  have ul : us.length = ps.length := by rw [← rv.length, hp.len]
  have one : ∀ k, k < us.length → ∃ (t : Addr) (p : Pr) (u v : Value), us[k]? = some (.ref t) ∧ ps[k]? = some p ∧ s.heap.IsTuple t #[u, v] ∧ L2.RelV (V.int p.1) u ∧ L2.RelV (V.int p.2) v := fun k hk => by
    have hkw : k < ws.length := by rw [rv.length]; exact hk
    obtain ⟨d, hd, t, et, ht⟩ := hp.get (List.getElem?_eq_getElem hkw)
    obtain ⟨u0, hu0, r0⟩ := rv.get (List.getElem?_eq_getElem hkw)
    rw [et] at r0
    obtain rfl : u0 = Value.ref t := r0
    obtain ⟨its, r, pl, _⟩ := I.tuple (SqT.of ht)
    cases r with
    | cons ra rr =>
    cases rr with
    | cons rb rr =>
    cases rr
    exact ⟨t, d, _, _, hu0, hd, pl, ra, rb⟩
  classical
  let vals : Nat → Array Value := fun k => if h : ∃ u v : Value, s.heap.IsTuple (adrOf us[k]?) #[u, v] then #[Classical.choose h, Classical.choose (Classical.choose_spec h)] else #[]
  have tup : ∀ k, k < us.length → s.heap.IsTuple (adrOf us[k]?) (vals k) := fun k hk => by
    obtain ⟨t, p, u, v, e1, e2, e3, e4, e5⟩ := one k hk
    have hx : ∃ u v : Value, s.heap.IsTuple (adrOf us[k]?) #[u, v] := ⟨u, v, by rw [e1]; exact e3⟩
    show s.heap.IsTuple (adrOf us[k]?) (if h : _ then _ else _)
    rw [dif_pos hx]
    exact Classical.choose_spec (Classical.choose_spec hx)
  have uniq : ∀ {t : Addr} {a b : Array Value}, s.heap.IsTuple t a → s.heap.IsTuple t b → a = b := fun {t a b} ha hb => by
    obtain ⟨o1, e1, c1, n1, d1⟩ := ha
    obtain ⟨o2, e2, c2, n2, d2⟩ := hb
    rw [e1] at e2
    cases e2
    rw [d1] at d2
    cases d2
    rfl
  have tlt : ∀ k, k < us.length → adrOf us[k]? < s.heap.objs.size := fun k hk => by
    obtain ⟨_, e, _⟩ := tup k hk
    exact Heap.lt_size e
  refine wpAny_pyIter_list lst (q us (fun k => adrOf us[k]?) vals _ ul lt tlt ?_ ?_ ?_ (fun A' hand => WalksU.listOfTuples hand _ yl (Nat.ne_of_lt lt) us.toArray (fun k => adrOf us[k]?) vals ?_ ?_) ⟨⟨_, Heap.get?_push_size _ rfl, rfl, rfl⟩, ?_, ?_⟩)
  · intro c fs e
    refine ⟨fun z => ?_, fun k hk z => ?_⟩
    · obtain ⟨ob, e1, _, _, d1⟩ := _root_.id lst
      rw [z, e] at e1
      cases e1
      cases d1
    · obtain ⟨ob, e1, _, _, d1⟩ := tup k hk
      rw [z, e] at e1
      cases e1
      cases d1
  · intro k p hk
    have hkl : k < us.length := by rw [ul]; exact (List.getElem?_eq_some_iff.mp hk).1
    obtain ⟨t, p', u, v, e1, e2, e3, e4, e5⟩ := one k hkl
    rw [hk] at e2
    cases e2
    have e6 := tup k hkl
    rw [e1] at e6
    exact ⟨u, v, uniq e6 e3, e4, e5⟩
  · intro k hk
    obtain ⟨t, p', u, v, e1, e2, e3, e4, e5⟩ := one k hk
    have e6 := tup k hk
    rw [e1] at e6
    exact ⟨u, v, uniq e6 e3⟩
  · intro j hj
    have hj' : j < us.length := by simpa using hj
    obtain ⟨t, p', u, v, e1, _⟩ := one j hj'
    rw [List.getElem?_toArray, e1]
    rfl
  · intro j hj
    have hj' : j < us.length := by simpa using hj
    exact Nat.ne_of_lt (tlt j hj')
  · obtain ⟨ob, e, r⟩ := _root_.id lst
    exact ⟨ob, Heap.get?_push_of_some _ e, r⟩
  · intro k hk
    have hk' : k < us.length := by simpa using hk
    obtain ⟨ob, e, r⟩ := tup k hk'
    exact ⟨ob, Heap.get?_push_of_some _ e, r⟩
def ReadyP (X : Cx) (pins : List (Addr × Obj)) (σ : L2.St) (H1 : Hp) (P : Addr) (ps : List Pr) (pb : Pr → Bool) (g : Addr) (s5 : Shared) : Prop :=
  ∃ (ft wt : List Addr) (G : Array GenState → Array GenState → Prop) (F : Nat → Value → Prop) (St : Nat → Shared → Prop),
    WalksS X.prog X.w X.A.in1 g ft wt G ps.length F St ∧ St 0 s5 ∧ TruthOf X.prog X.w X.A.in1 F (trP pb ps) ∧ ∀ s', Moved wt G s5 s' → ∃ H2, GxR.Tabbed P H1 H2 ∧ Inv X pins σ H2 s'
theorem gen_prs {c P : Addr} {elt iter : Expr} {xa xb : Str} {pa pb_ pt gpos : Pos} {kt : Nat} {scope : Scope} {pb : Pr → Bool} {te : TE} {k : Nat} {Q' : Value → Shared → Prop} {R : List Pr → Hp → Prop}
    (hr : Room k X.A) (TB : GxR.TabB X.base X.mg c P) (hcode : X.env.code = .ref c) (S : GenP X.env.scope scope xa xb) (hi : PE X iter te) (hs : ∀ v, genFold iter X.env v = pure v) (I : Inv X pins σ H s)
    (h : te σ H fun v H1 => ∃ (yl : Addr) (ws : List V) (ps : List Pr), v = .ref yl ∧ SqL X.K H1 yl ws ∧ PL H1 ws ps ∧ (∀ pins, EltP X pins σ H1 P scope xa xb elt ps pb) ∧ GxR.TabG H1 P ∧ R ps H1)
    (hQ : ∀ ps H1 g s5, R ps H1 → ReadyP X pins σ H1 P ps pb g s5 → Q' (.ref g) s5) :
    wpAny (model X.prog X.w) X.A (eval (.GeneratorExp elt [⟨.Tuple [.Name xa pa, .Name xb pb_] kt pt, iter, [], 0⟩] scope gpos) X.env) Q' X.xe s := by
  refine wpAny_GeneratorExp_walksQT hr.hd S.co (closure_ok fun y hy e => (S.free y hy e).elim (fun z => I.ok.has _ (.inl z)) fun z => I.ok.has _ (.inr z)) S.cell S.dot S.la S.lb S.ne S.kind (by have := hr.dp; omega) ?_ hs
  refine thn (hi.run pins s σ H _ I h) fun uv sa ⟨v, H1, I1, r1, q1⟩ => ?_
  obtain ⟨yl, ws, ps, rfl, hyl, hpl, hel, ⟨tb, hP, ht⟩, q1⟩ := q1
  obtain rfl : uv = Value.ref yl := r1
  refine iter_pairs I1 hyl hpl fun us Ts vals o ul ylt tslt apart vat vsz W hst => ?_
  have tbs : sa.heap.get? P = some { cls := .none, data := .fields tb } := I1.hok P _ hP
  have tlt : P < sa.heap.objs.size := Heap.lt_size tbs
  have tb2 : (sa.heap.push o).get? P = some { cls := .none, data := .fields tb } := Heap.get?_push_of_some _ tbs
  have cd : PySem.W.CodeHd (sa.heap.push o) c P := TB.code.keeps fun b u e => Heap.get?_push_of_some _ (I1.bk b u e)
  have nl2 : (sa.heap.push o).NoLimit := I1.nolimit.push o
  have memL : ∀ {c : Addr}, c ∈ (sa.heap.objs.size :: yl :: (List.range us.toArray.size).map Ts) → c = sa.heap.objs.size ∨ c = yl ∨ ∃ k, k < us.length ∧ c = Ts k := fun {c} hc => by
    rcases List.mem_cons.mp hc with z | z
    · exact .inl z
    · rcases List.mem_cons.mp z with z | z
      · exact .inr (.inl z)
      · obtain ⟨k, hk, e⟩ := List.mem_map.mp z
        exact .inr (.inr ⟨k, by simpa using hk, e.symm⟩)
  have goes : ∀ (code : Value) (hw : Heap) (tk : Nat) (ps' : Array Value), Heap.ExtBut P (sa.heap.push o) hw → (sa.heap.push o).objs.size ≤ hw.objs.size → hw.get? P = some { cls := .none, data := .fields ps' } → (∃ add, ps' = tb ++ add) → TriplesOk ps'.toList →
      wpAny (model X.prog X.w) X.A (builtinsFor X.env.globals X.env.builtins) (fun bi z4 =>
        ∃ Ia ft wt nn Pf St0 Md pz F, Value.ref sa.heap.objs.size = .ref Ia ∧ (∀ A' : Around, A'.handled = none → WalksU X.prog X.w A' Ia ft wt nn Pf St0 Md) ∧ (∀ i vals, Pf i vals → ∃ va vb, vals = #[va, vb]) ∧ St0 0 z4.heap ∧ (∀ b ∈ ft, b < z4.heap.objs.size) ∧ z4.heap.NoLimit ∧ cStatics ∉ wt ∧
          (∀ hrf : Heap, (∀ b o, z4.heap.get? b = some o → hrf.get? b = some o) →
            QuietGenT X.prog X.w (genEnv scope (cloFrom X.env.cells scope.names []) z4.heap.objs.size code bi X.env) xa xb [] elt (List.range z4.heap.objs.size) wt Pf pz F hrf) ∧
          (∀ a hn5_ tk gst, gst.bare = true → z4.heap.objs.size < a → hn5_.objs.size = a + 1 → (∀ b o, z4.heap.get? b = some o → hn5_.get? b = some o) →
            WalksS X.prog X.w X.A.in4 a (a :: z4.heap.objs.size :: List.range z4.heap.objs.size) (z4.heap.objs.size :: wt) (GenOnlyQ z4.gens.size) (passing pz nn 0).length
              (fun q0 y => ∃ i, (passing pz nn 0)[q0]? = some i ∧ F i y) (GenAt X.prog X.w X.A.in4 a z4.gens.size z4.heap.objs.size (List.range z4.heap.objs.size) wt pz nn F) →
            GenAt X.prog X.w X.A.in4 a z4.gens.size z4.heap.objs.size (List.range z4.heap.objs.size) wt pz nn F 0 { z4 with gens := z4.gens.push gst, toks := tk, heap := hn5_ } →
            Q' (.ref a) { z4 with gens := z4.gens.push gst, toks := tk, heap := hn5_ })) X.xe { sa with heap := hw, toks := tk } := by
    intro code hw tk ps' hx hsz tb3 mre tr3
    obtain ⟨bm, ob, e1, e2, e3, e4, e5, e6, e7, e8⟩ := TB.bm
    have cnP : cStatics ≠ P := fun e => by
      obtain ⟨_, hns, _⟩ := I1.nolimit
      obtain ⟨o', es, ep, ho, hd, _⟩ := hns
      rw [e, tbs] at ho
      cases ho
      cases hd
    have clt : cStatics < sa.heap.objs.size := let ⟨_, hns, _⟩ := I1.nolimit; hns.lt
    have sze : (sa.heap.push o).objs.size = sa.heap.objs.size + 1 := Heap.size_push ..
    have kp3 : ∀ b u, b ≠ P → sa.heap.get? b = some u → hw.get? b = some u := fun b u hb e => hx b u hb (Heap.get?_push_of_some _ e)
    refine wpAny_builtinsFor (m := X.mg) (by rw [I1.ok.glob]; exact ((I1.mod.glob.keeps I1.bk).push o).extBut hx TB.gP) e1 e2 (kp3 _ _ e4 (I1.bk _ _ e5)) e6 e7 e8 ?_
    refine ⟨sa.heap.objs.size, _, _, us.toArray.size, (fun j v => j < us.toArray.size ∧ v = vals j), _, _, (fun _ => true),
      (fun i y => ∃ p, ps[i]? = some p ∧ y = .bool (pb p)), rfl, (fun A' hA => walksU_lt (W A' hA)), (fun i vs hv => ?_), ?_, ?_, nl2.extBut hx cnP, ?_, ?_, ?_⟩
    · obtain ⟨u, v, e⟩ := vsz i (by simpa using hv.1)
      exact ⟨u, v, hv.2.trans e⟩
    · refine (W X.A hr.hd).frame 0 _ _ hst fun b hb u e => hx b u (fun z => ?_) e
      rcases memL hb with q | q | ⟨k, hk, q⟩
      · exact Nat.ne_of_lt tlt (z.symm.trans q)
      · exact (apart tbs).1 (q.symm.trans z)
      · exact (apart tbs).2 k hk (q.symm.trans z)
    · intro b hb
      rcases memL hb with q | q | ⟨k, hk, q⟩
      · rw [q]
        show sa.heap.objs.size < hw.objs.size
        omega
      · rw [q]
        have e9 : sa.heap.objs.size ≤ hw.objs.size := by omega
        exact Nat.lt_of_lt_of_le ylt e9
      · rw [q]
        have e9 : sa.heap.objs.size ≤ hw.objs.size := by omega
        exact Nat.lt_of_lt_of_le (tslt k hk) e9
    · intro z
      rcases List.mem_cons.mp z with z | z
      · exact Nat.ne_of_lt clt z
      · cases z
    · intro hrf khr
      refine ⟨fun A' E' i va vb s2 mm hand vP hn ma mb hk => ?_, fun A' E' i va vb s2 mm hand vP hp hn ma mb hk => ?_⟩
      · simp only [List.forIn_nil]
        exact wpAny_pure ⟨rfl, GxR.keeps_refl _⟩
      · have il : i < ps.length := by
          have h9 := vP.1
          rw [List.size_toArray] at h9
          omega
        obtain ⟨u, v, e, ra, rb⟩ := vat i _ (List.getElem?_eq_getElem il)
        have e2 := vP.2.trans e
        obtain ⟨rfl, rfl⟩ : va = u ∧ vb = v := by simpa using congrArg Array.toList e2
        refine wpAny_mono (hel pins _ A' E' _ va vb sa s2 mm rfl rfl (List.getElem_mem il) ra rb hn ma mb I1 fun d u nd e => ?_) (fun y s3 r => ⟨⟨_, List.getElem?_eq_getElem il, r.1⟩, r.2⟩) fun _ _ e => e
        have e3 := kp3 d u nd e
        refine hk d (List.mem_range.mpr (Heap.lt_size e3)) (fun z => ?_) u (khr d u e3)
        rcases List.mem_cons.mp z with z | z
        · exact Nat.ne_of_lt (Heap.lt_size e) z
        · cases z
    · intro g hg5 tkg gst gbr agt sz5 kg5 Wg gat
      simp only [GxR.passing_true, List.length_range] at Wg
      have hn5 : us.toArray.size = ps.length := by rw [List.size_toArray, ul]
      rw [hn5] at Wg gat
      refine hQ ps H1 g _ q1 ⟨_, _, _, _, _, Wg.in4_1, gat, ?_, fun s' mvd => ?_⟩
      · intro q0 y sj Qj Ej hy hQj
        obtain ⟨i, hij, p, hb, rfl⟩ := hy
        obtain ⟨q0l, ej⟩ := List.getElem?_eq_some_iff.mp hij
        rw [List.getElem_range] at ej
        subst ej
        have hQ2 : Qj (trP pb ps q0) sj := hQj
        rw [trP_some hb] at hQ2
        exact wpAny_truthy_bool hQ2
      · obtain ⟨add, eadd⟩ := mre
        have notw : ∀ b u, sa.heap.get? b = some u → b ∉ hw.objs.size :: [sa.heap.objs.size] := fun b u e hb => by
          have hl := Heap.lt_size e
          rcases List.mem_cons.mp hb with z | z
          · rw [z] at hl
            have h9 : (hw.objs.size : Nat) < sa.heap.objs.size := hl
            omega
          · rcases List.mem_cons.mp z with z | z
            · rw [z] at hl
              exact Nat.lt_irrefl _ hl
            · cases z
        have J := GxR.inv_tab (more := add) (h' := s'.heap) (g' := s'.gens) (d' := s'.drawn) (t' := s'.toks) I1 hP (fun b u hb e => mvd.heap b u (notw b u e) (kg5 b u (kp3 b u hb e)))
          (by rw [← eadd]; exact mvd.heap P _ (notw P _ tbs) (kg5 P _ tb3)) (AllBare.movedS (I1.bare.push gbr) mvd)
        rw [GxR.sh_eta sa s' mvd.os] at J
        refine ⟨upd H1 P (.tbl (tb ++ add)), ⟨⟨tb ++ add, upd_same, by rw [← eadd]; exact tr3⟩, fun b hb => upd_ne hb⟩, J⟩
  refine ⟨nl2, ?_⟩
  cases hf : codeAmong gpos tb.toList with
  | none =>
    refine wpAny_genexprCodeX hcode (cd.code tb2 ht) (cd.tab tb2) hf fun c' h' tk hx hge hlt hco' _ htab' _ => ?_
    obtain ⟨o1, vs, f1, tf, fl, tg, inF, tx, tt, op, _, _, _, _, _, _, _, _, _, htr, _⟩ := hco'
    exact goes _ h' tk _ hx (Nat.le_trans hge (Nat.le_of_lt hlt)) htab'.2 ⟨_, rfl⟩ htr
  | some cv =>
    refine wpAny_genexprCode_hit hcode (cd.code tb2 ht) hf ?_
    exact goes cv (sa.heap.push o) sa.toks tb (Heap.ExtBut.refl _ _) (Nat.le_refl _) tb2 ⟨#[], by simp⟩ ht
/-- all(test for xa, xb in e), e a list of pairs; behind it the def's table may have grown -/
def tAllP (X : Cx) (P : Addr) (scope : Scope) (xa xb : Str) (elt : Expr) (pb : Pr → Bool) (te : TE) : TE := fun σ H Q => te σ H fun v H1 => ∃ (yl : Addr) (ws : List V) (ps : List Pr), v = .ref yl ∧ SqL X.K H1 yl ws ∧ PL H1 ws ps ∧ (∀ pins, EltP X pins σ H1 P scope xa xb elt ps pb) ∧ GxR.TabG H1 P ∧ ∀ H2, GxR.Tabbed P H1 H2 → Q (.bl (ps.all pb)) H2
theorem pe_allP {c P : Addr} {elt iter : Expr} {xa xb : Str} {pa pb_ pt p pos gpos : Pos} {kt : Nat} {scope : Scope} {pb : Pr → Bool} {te : TE} {k : Nat}
    (hr : Room k X.A) (hg : Gl X "all") (mvd : X.mg "all" = none) (hb : bootBuiltins "all" = some (.builtin "all")) (TB : GxR.TabB X.base X.mg c P) (hcode : X.env.code = .ref c) (S : GenP X.env.scope scope xa xb) (hi : PE X iter te)
    (hs : ∀ v, genFold iter X.env v = pure v)
    (he : starEach [.GeneratorExp elt [⟨.Tuple [.Name xa pa, .Name xb pb_] kt pt, iter, [], 0⟩] scope gpos] X.env = (false, eval (.GeneratorExp elt [⟨.Tuple [.Name xa pa, .Name xb pb_] kt pt, iter, [], 0⟩] scope gpos) X.env) :: starEach [] X.env := by rfl) :
    PE X (.Call (.Name "all" p) [.GeneratorExp elt [⟨.Tuple [.Name xa pa, .Name xb pb_] kt pt, iter, [], 0⟩] scope gpos] [] pos) (tAllP X P scope xa xb elt pb te) := by
  refine ⟨fun pins s σ H Q I h => ?_⟩
  refine wpAny_Call_Name_kw (ld_blt I hg mvd hb ?_)
  refine PyProof.Rows.callWith_builtin1 ?_ he (by rfl)
  rw [he]
  show wpAny _ _ (spliced ((false, eval (.GeneratorExp elt [⟨.Tuple [.Name xa pa, .Name xb pb_] kt pt, iter, [], 0⟩] scope gpos) X.env) :: backTo pos (starEach [] X.env))) _ _ s
  refine Calls.spliced_cons (gen_prs (pb := pb) (R := fun ps H1 => ∀ H2, GxR.Tabbed P H1 H2 → Q (.bl (ps.all pb)) H2) hr TB hcode S hi hs I h fun ps H1 g s5 hR hG => ?_)
  obtain ⟨ft, wt, G, F, St, W, hst, htr, hI⟩ := hG
  refine Calls.spliced_nil ?_
  refine call_all_walkS (W.self 0 _ _ _ hst ⟨g, ft, wt, G, _, F, St, _, rfl, W, hst, htr, fun s' hmv => ?_⟩)
  obtain ⟨H2, hT, J⟩ := hI s' hmv
  refine ⟨.bl _, H2, J, rfl, ?_⟩
  rw [all_trP]
  exact hR H2 hT
end

/-! ### tuples that are known to have no dict of their own: t.index(x) -/
def TF (H : Hp) (t : Addr) (xs : List V) : Prop := ∃ o : Obj, o.dict = none ∧ H t = some (.frz o (.tup xs))
theorem TF.sq {K : PySem.W.Frag} {H : Hp} {t : Addr} {xs : List V} (h : TF H t xs) : SqT K H t xs := by
  obtain ⟨o, _, e⟩ := h
  exact .inl (.inr ⟨o, e⟩)
theorem TF.same {H H' : Hp} {t : Addr} {xs : List V} (h : TF H t xs) (s : Same H H') : TF H' t xs := by
  obtain ⟨o, d, e⟩ := h
  exact ⟨o, d, s _ _ e⟩
theorem TF.new {H : Hp} {t : Addr} {xs : List V} {o : Obj} (d : o.dict = none) : TF (upd H t (.frz o (.tup xs))) t xs := ⟨o, d, upd_same⟩
section
variable {X : Cx} {es : List Expr} {t : TA} {pos : Pos}
def tTupF (t : TA) : TE := fun σ H Q => t σ H fun xs H1 => xs.length ≤ sizeLine ∧ ∀ p o, H1 p = none → o.dict = none → Q (.ref p) (upd H1 p (.frz o (.tup xs)))
theorem pe_tupF {x1} (h : PA X es t) : PE X (.Tuple es x1 pos) (tTupF t) := by
  refine ⟨fun pins s σ H Q I hq => ?_⟩
  refine wpAny_Tuple_spliced (thn (h.run pos pins s σ H _ I hq) fun us s1 ⟨xs, H1, I1, r, z, q⟩ => ⟨by rw [← r.length]; exact z, ?_⟩)
  have hf : H1 s1.heap.objs.size = none := I1.hok.fresh (Nat.le_refl _)
  refine ⟨.ref s1.heap.objs.size, upd H1 s1.heap.objs.size (.frz { cls := .type "tuple", data := .seq us.toArray } (.tup xs)), I1.laid (t' := s1.toks) (fun b u e => Heap.get?_push_of_some _ e) (Nat.le_refl _) ?_, rfl, q _ _ hf rfl⟩
  exact ⟨Heap.get?_push_size _ rfl, z, us, r, ⟨_, Heap.get?_push_size _ rfl, rfl, _, rfl⟩⟩
def rCatF (K : PySem.W.Frag) : R2 := fun x y H Q => ∃ a b xs ys, x = .ref a ∧ y = .ref b ∧ SqT K H a xs ∧ SqT K H b ys ∧ xs.length + ys.length ≤ sizeLine ∧
  (xs = [] → Q (.ref b) H) ∧ (xs ≠ [] → ys = [] → Q (.ref a) H) ∧ (xs ≠ [] → ys ≠ [] → ∀ p o, H p = none → o.dict = none → Q (.ref p) (upd H p (.frz o (.tup (xs ++ ys)))))
theorem op_catF : OpR X (binaryOp .Add) (rCatF X.K) := by
  intro pins s σ H x y v u Q I rx ry h
  obtain ⟨a, b, xs, ys, rfl, rfl, ha, hb, hz, q0, q1, q2⟩ := h
  cases rx
  cases ry
  obtain ⟨its, r1, p1, _⟩ := I.tuple ha
  obtain ⟨its2, r2, p2, _⟩ := I.tuple hb
  by_cases hx : xs = []
  · subst hx
    cases r1
    exact cat_tup0 p1 p2 ⟨.ref b, H, I, rfl, q0 rfl⟩
  · refine HT.cat_tup p1 p2 (fun z => hx (r1.nil_iff.mp z)) (fun z => ⟨.ref a, H, I, rfl, q1 hx (r2.nil_iff.mp z)⟩) (fun z => ?_) (by rw [← r1.length, ← r2.length]; exact hz)
    refine ⟨.ref s.heap.objs.size, _, I.laid (t' := s.toks) (o := .frz { cls := .type "tuple", data := .seq (its ++ its2).toArray } (.tup (xs ++ ys))) (fun b ob q => Heap.get?_push_of_some _ q) (Nat.le_refl _) ?_, rfl, q2 hx (fun w => z (r2.nil_iff.mpr w)) _ _ (I.hok.fresh (Nat.le_refl _)) rfl⟩
    exact ⟨Heap.get?_push_size _ rfl, by rw [List.length_append]; exact hz, _, r1.append r2, ⟨_, Heap.get?_push_size _ rfl, rfl, _, rfl⟩⟩
/-- t[lo:hi]: the whole of it is t itself -/
def rSlF (K : PySem.W.Frag) : V → Option Int → Option Int → Hp → VK → Prop := fun x lo hi H Q => ∃ a xs, x = .ref a ∧ SqT K H a xs ∧
  (HT.sIx xs.length 0 lo = 0 ∧ HT.sIx xs.length xs.length hi = xs.length → Q (.ref a) H) ∧ (¬ (HT.sIx xs.length 0 lo = 0 ∧ HT.sIx xs.length xs.length hi = xs.length) → ∀ p o, H p = none → o.dict = none → Q (.ref p) (upd H p (.frz o (.tup (cutV xs lo hi)))))
theorem sl_tupF : SlR X (rSlF X.K) := by
  intro pins s σ H x v vl vu lo hi sl Q I rx hs pl pu h
  obtain ⟨a, xs, rfl, hx, q1, q2⟩ := h
  cases rx
  obtain ⟨its, r, ht, hz⟩ := I.tuple hx
  have hlen : its.toArray.size = xs.length := by rw [List.size_toArray]; exact r.length.symm
  refine ⟨"tuple", _, PyProof.Rows.slot_tuple_getitem.lookup, ht.typeIs, ?_⟩
  by_cases hw : HT.sIx xs.length 0 lo = 0 ∧ HT.sIx xs.length xs.length hi = xs.length
  · exact getItem_tuple_whole ht hs pl pu (by rw [hlen]; exact hw) ⟨.ref a, H, I, rfl, q1 hw⟩
  · refine HT.getItem_tuple_cut ht hs pl pu (by rw [hlen]; exact hw) ?_ (by rw [hlen]; exact hz)
    rw [hlen]
    refine ⟨.ref s.heap.objs.size, _, I.laid (t' := s.toks) (o := .frz { cls := .type "tuple", data := .seq ((its.drop (HT.sIx xs.length 0 lo)).take (HT.sIx xs.length xs.length hi - HT.sIx xs.length 0 lo)).toArray } (.tup (cutV xs lo hi))) (fun b ob q => Heap.get?_push_of_some _ q) (Nat.le_refl _) ?_, rfl, q2 hw _ _ (I.hok.fresh (Nat.le_refl _)) rfl⟩
    exact ⟨Heap.get?_push_size _ rfl, Nat.le_trans (cutV_length xs lo hi) hz, _, (r.drop (HT.sIx xs.length 0 lo)).take (HT.sIx xs.length xs.length hi - HT.sIx xs.length 0 lo), ⟨_, Heap.get?_push_size _ rfl, rfl, _, rfl⟩⟩
end
theorem idx_le {z : Int} : ∀ {O : List Int} {m : Nat}, O[m]? = some z → O.idxOf z ≤ m
  | [], _, h => by cases h
  | a :: O, 0, h => by
    have e : a = z := Option.some.inj h
    rw [e, List.idxOf_cons_self]
    exact Nat.le_refl _
  | a :: O, m + 1, h => by
    rw [List.idxOf_cons]
    have := idx_le (O := O) (m := m) (z := z) h
    cases a == z with
    | true => exact Nat.zero_le _
    | false =>
      show O.idxOf z + 1 ≤ m + 1
      omega
/-- the call of tuple.index, for ints -/
theorem idx_call {prog : Program} {w : World} {A : Around} {E : Value → Shared → Prop} {s : Shared} {b : Addr} {its : List Value} {O : List Int} {z : Int} {u : Value} {Q : Value → Shared → Prop} (hT : s.heap.IsTuple b its.toArray) (rv : Vals (O.map V.int) its) (ru : L2.RelV (V.int z) u) (hz : z ∈ O)
    (q : Q (.int ((O.idxOf z : Nat) : Int) s.toks) { s with toks := s.toks + 1 }) : wpAny (model prog w) A (call (.builtin "tuple.index") [.ref b, u]) Q E s := by
  obtain ⟨⟨cls, dd, dt, sl⟩, ho, hc, n, hd⟩ := hT
  simp only at hc hd
  subst hc
  subst hd
  have hl : its.toArray.size = O.length := by rw [List.size_toArray, ← rv.length, List.length_map]
  have hi := List.idxOf_lt_length_of_mem hz
  have hj : O.idxOf z < its.toArray.size := by rw [hl]; exact hi
  have fl : (O.map V.int).all flatV = true := flI O
  refine call_meets PySem.F.slot_tuple_index ⟨_, ho, rfl⟩ PySem.F.entry_tuple_index (PySem.F.args_tuple_index_2 _ _) (TI.tuple_indexAt b its.toArray n dd sl u (eqU (V.int z)) (O.idxOf z) hj ?_ ?_)
    ⟨ho, fun v hv => mem_eqAt ru rfl rv fl v (by simpa using hv), q⟩
  · obtain ⟨v, hv, r⟩ := rv.get (i := O.idxOf z) (x := V.int z) (by rw [List.getElem?_map, List.getElem?_eq_getElem hi, List.getElem_idxOf hi]; rfl)
    have e : its.toArray[O.idxOf z] = v := by
      have := (List.getElem?_eq_some_iff.mp hv).2
      simpa using this
    rw [e, eqU_of r rfl]
    show decide _ = true
    simp
  · intro m hm hmj
    have hmo : m < O.length := by omega
    obtain ⟨v, hv, r⟩ := rv.get (i := m) (x := V.int O[m]) (by rw [List.getElem?_map, List.getElem?_eq_getElem hmo]; rfl)
    have e : its.toArray[m] = v := by
      have := (List.getElem?_eq_some_iff.mp hv).2
      simpa using this
    have ne : O[m] ≠ z := fun h => by
      have := idx_le (O := O) (z := z) (m := m) (by rw [List.getElem?_eq_getElem hmo, h])
      omega
    rw [e, eqU_of r rfl]
    show decide _ = false
    simpa using ne
section
variable {X : Cx} {o e : Expr} {to : TE} {t : TA} {apos cpos : Pos}
def rIdxF : V → List V → Hp → VK → Prop := fun x xs H Q => ∃ (t : Addr) (ns : List Int) (z : Int), x = .ref t ∧ xs = [.int z] ∧ TF H t (ns.map V.int) ∧ z ∈ ns ∧ Q (.int ((ns.idxOf z : Nat) : Int)) H
def tIdxF (to : TE) (t : TA) : TE := fun σ H Q => to σ H fun x H1 => (∃ a xs, x = .ref a ∧ TF H1 a xs) ∧ t σ H1 fun xs H2 => rIdxF x xs H2 Q
theorem tf_of {pins : List (Addr × Obj)} {σ : L2.St} {H : Hp} {s : Shared} {a : Addr} {xs : List V} (I : Inv X pins σ H s) (h : TF H a xs) : ∃ (ob : Obj) (its : List Value), s.heap.get? a = some ob ∧ ob.dict = none ∧ Vals xs its ∧ s.heap.IsTuple a its.toArray := by
  obtain ⟨its, r, p, _⟩ := I.tuple h.sq
  obtain ⟨ob, d, e⟩ := h
  obtain ⟨g, _⟩ := I.hok a _ e
  exact ⟨ob, its, g, d, r, p⟩
theorem pe_idxF (ho : PE X o to) (ha : PA X [e] t)
    (hbase : attributeBase o "index" X.env (eval o X.env) = eval o X.env := by rfl)
    (hfew : ((backTo cpos (starEach [e] X.env)).all (fun x => !x.1) && (backToKw cpos (keywordEach [] X.env)).all (fun x => x.1.isSome)
      && decide ([e].length + ([] : List Keyword).length + (if ([] : List Keyword).isEmpty then 0 else 1) < 30)) = true := by rfl)
    (hline : (apos.endLine == cpos.line) = true := by rfl) (hs : starEach [e] X.env = (false, eval e X.env) :: starEach [] X.env := by rfl) (hplain : (backTo cpos (starEach [] X.env)).any (·.1) = false := by rfl) :
    PE X (.Call (.Attribute o "index" apos) [e] [] cpos) (tIdxF to t) := by
  refine ⟨fun pins s σ H Q I h => ?_⟩
  refine wpAny_Call_method_late hbase hfew hline rfl (thn (ho.run pins s σ H _ I h) fun v s1 ⟨x, H1, I1, r1, ty, q1⟩ => ?_)
  obtain ⟨a, xs, rfl, hx⟩ := ty
  obtain rfl : v = Value.ref a := r1
  obtain ⟨ob, its, g, d, r, p⟩ := tf_of I1 hx
  refine ⟨"tuple", "tuple.index", PySem.F.plainAttrs_tuple, PySem.F.slot_tuple_index, PySem.F.type_tuple_index, p.typeIs, fun b eb => by cases eb; exact ⟨ob, g, d⟩, ?_⟩
  have hA := ha.run cpos pins s1 σ H1 _ I1 q1
  rw [hs] at hA ⊢
  refine Calls.callWith_builtin (by show (false || (backTo cpos (starEach [] X.env)).any (·.1)) = false; rw [hplain] <;> rfl) (Calls.evalArgs_plain ?_)
  refine thn hA fun us s2 ⟨vs, H2, I2, r2, q2⟩ => ?_
  obtain ⟨t', ns, z, e1, rfl, h2, hz, q⟩ := q2
  cases e1
  cases r2 with
  | cons ru rr =>
  cases rr
  obtain ⟨ob2, its2, g2, d2, rv2, p2⟩ := tf_of I2 h2
  exact idx_call p2 rv2 ru hz ⟨.int _, H2, I2.tok _, ⟨_, rfl⟩, q⟩
end
/-- order.index(a) < order.index(b), order a name of the def, a and b of the walk -/
theorem elt_idx {X : Cx} {pins : List (Addr × Obj)} {σ : L2.St} {H1 : Hp} {P b : Addr} {scope : Scope} {xa xb y : Str} {j : Nat} {O : List Int} {ps : List Pr} {p1 p2 p3 p4 p5 p6 p7 p8 p9 : Pos} (S : GenP X.env.scope scope xa xb) (hy : (y, NameKind.free) ∈ scope.names) (hy2 : scope.names.lookup y = some .free) (hc : X.env.scope.names.lookup y = some .cell)
    (hj : X.N[j]? = some y) (hs : σ[j]? = some (some (V.ref b))) (hb : TF H1 b (O.map V.int)) (tb : GxR.TabG H1 P) (hm : ∀ p ∈ ps, p.1 ∈ O ∧ p.2 ∈ O)
    (l1 : (p2.endLine == p4.line) = true) (l2 : (p6.endLine == p8.line) = true)
    (hd : (xa == ("__debug__" : Str)) = false := by decide) (hd1 : (xb == ("__debug__" : Str)) = false := by decide) (hd2 : (y == ("__debug__" : Str)) = false := by decide) (hn : (y == ("__classdict__" : Str)) = false := by decide) :
    EltP X pins σ H1 P scope xa xb (.Compare (.Call (.Attribute (.Name y p1) "index" p2) [.Name xa p3] [] p4) [.Lt] [.Call (.Attribute (.Name y p5) "index" p6) [.Name xb p7] [] p8] p9) ps (fun p => decide (O.idxOf p.1 < O.idxOf p.2)) := by
  intro cenv A' E' p u v s1 s2 m2 ecs ecc hp ru rv hns hma hmb I keep
  obtain ⟨tbx, hP, _⟩ := tb
  obtain ⟨hpa, hpb⟩ := hm p hp
  have nP : b ≠ P := fun z => by
    obtain ⟨o, _, e⟩ := hb
    rw [z, hP] at e
    cases e
  obtain ⟨m, hnm, hl⟩ := I.loc
  obtain ⟨ub, rb, look⟩ := hl j y (.ref b) hj hs (.inr (.inl hc))
  obtain rfl : ub = Value.ref b := rb
  obtain ⟨c, hcl, hcell⟩ : ∃ c, X.env.cells.lookup y = some c ∧ s1.heap.IsCell c (some (Value.ref b)) := by
    rcases look with ⟨z, _⟩ | ⟨_, a', ha', hcell⟩
    · have z' : X.env.scope.names.lookup y = some .local := z
      rw [hc] at z'
      cases z'
    · exact ⟨a', ha', hcell⟩
  have ncP : c ≠ P := fun z => by
    have := I.freeC y c hcl
    rw [z, hP] at this
    cases this
  have hcell2 : s2.heap.IsCell c (some (Value.ref b)) := by
    obtain ⟨o, ho, hd⟩ := hcell
    exact ⟨o, keep _ _ ncP ho, hd⟩
  have hcl2 : cenv.cells.lookup y = some c := by
    rw [ecc]
    exact NdefX.clo_has (fun y hy e => (S.free y hy e).elim (fun z => I.ok.has _ (.inl z)) fun z => I.ok.has _ (.inr z)) hy hcl
  obtain ⟨ob, its, g, d, r, pT⟩ := tf_of I hb
  have g2 : s2.heap.get? b = some ob := keep _ _ nP g
  have pT2 : s2.heap.IsTuple b its.toArray := by
    obtain ⟨o, e, q⟩ := _root_.id pT
    exact ⟨o, keep _ _ nP e, q⟩
  have one : ∀ {x : Str} {q1 q2 q3 q4 : Pos} {z : Int} {v : Value} {tk : Nat} {Q : Value → Shared → Prop}, (q2.endLine == q4.line) = true → (x == ("__debug__" : Str)) = false → scope.names.lookup x = some .local → m2 x = some v → L2.RelV (V.int z) v → z ∈ O →
      Q (.int ((O.idxOf z : Nat) : Int) tk) { s2 with toks := tk + 1 } → wpAny (model X.prog X.w) A' (eval (.Call (.Attribute (.Name y q1) "index" q2) [.Name x q3] [] q4) cenv) Q E' { s2 with toks := tk } := fun {x q1 q2 q3 q4 z v tk Q} l hdx lx mx rz hz q => by
    refine wpAny_Call_method_late (by rfl) (by rfl) l rfl ?_
    refine wpAny_Name (wpAny_loadName_free (by rw [ecs]; exact S.kind) (show cenv.scope.names.lookup y = some .free by rw [ecs]; exact hy2) hcl2 hcell2 ?_ hn) hd2
    refine ⟨"tuple", "tuple.index", PySem.F.plainAttrs_tuple, PySem.F.slot_tuple_index, PySem.F.type_tuple_index, pT2.typeIs, fun a ea => by cases ea; exact ⟨ob, g2, d⟩, ?_⟩
    refine Calls.callWith_builtin (by rfl) (Calls.evalArgs_plain (Calls.spliced_cons ?_))
    refine wpAny_Name (wpAny_loadName_local (by rw [ecs]; exact S.kind) (show cenv.scope.names.lookup x = some .local by rw [ecs]; exact lx) hns mx ?_) hdx
    refine Calls.spliced_nil ?_
    exact idx_call (s := { s2 with toks := tk }) pT2 r rz hz q
  refine wpAny_Compare1 ?_
  refine one l1 hd S.la hma ru hpa ?_
  refine one l2 hd1 S.lb hmb rv hpb ?_
  refine lt_int ⟨?_, ?_⟩
  · show Value.bool _ = Value.bool _
    congr 1
    simp
  · exact ⟨s2.heap, _, rfl, fun _ _ e => e⟩

/-! ### called_rooms, called_by_form, obeys_pairs, keeps_form -/
abbrev sCrm : Stmt := topS 11
abbrev sCbf : Stmt := topS 27
theorem sm_none {H H1 : Hp} {t : Addr} (s : Same H H1) (n : H1 t = none) : H t = none := by
  cases e : H t with
  | none => rfl
  | some o =>
    rw [s _ _ e] at n
    cases n
/-- the rooms with a word -/
def calF (ws : List (Option Str)) : List Int := ((List.range ws.length).filter fun i => (ws[i]?.join).isSome).map fun i : Nat => (i : Int)
section
variable {P : Program} {w : World} {K : PySem.W.Frag} {mg : Str → Option Value} {base : Heap}
theorem scCrm : FnScope ["words", "room", "word"] ["words"] (defScope sCrm) := ⟨rfl, rfl, rfl, by decide +kernel, rfl, by decide +kernel, by decide +kernel⟩
def spCrm : Sp := fun vs H Q _ => ∃ (l : Addr) (ws : List (Option Str)), vs = [.ref l] ∧ H l = some (.lst (ws.map optS)) ∧ ws.length ≤ 1000 ∧ ∀ t H', Same H H' → H t = none → H' t = some (.lst ((calF ws).map V.int)) → Q (.ref t) H'
theorem ok_crm {f : Addr} {fd : FuncData} (F : Fun K "called_rooms" "called_rooms" sCrm f fd) (T : Bi mg) : FnOk P w K mg base CX0 1 f fd ["words"] spCrm := by
  refine F.ok scCrm (fun vs H Q E h => ?_) (fun cdv A0 outer s H vs Q E hr h => ?_)
  · obtain ⟨l, ws, rfl, _⟩ := h
    rfl
  · obtain ⟨l, ws, rfl, hl, len, ret⟩ := h
    refine ⟨_, (pss_one (ps_ret (pe_lc (own := [("room", 1), ("word", 2)]) (g := gTup K 2 (gCons (gName 1) (gCons (gName 2) gNil))) (by rfl) scCrm.nd (pi_enum (by rfl) T.enumerate (pa_cons (pv 0) pa_nil)) (blkOk_by (N := ["words", "room", "word"]) (sc := defScope sCrm) (by decide +kernel)) (fun _ _ _ _ _ => pg_tup rfl (pgs_cons (pg_name (i := 1) scCrm.nd rfl (Or.inl rfl)) (pgs_cons (pg_name (i := 2) scCrm.nd rfl (Or.inl rfl)) pgs_nil))) (fun _ _ _ _ _ => (pts_one (pt_cmpR op_notN (pv 2) pe_non (nomark _)))) (fun _ _ _ _ _ => (pv 1))))), ?_⟩
    walk_at "rd"
    refine lcW ?_
    walk_at "rd"
    refine ⟨_, rfl, l, ws.map optS, rfl, SqL.of hl, fun c nc => ?_⟩
    obtain ⟨Pv, hPv⟩ : ∃ Pv : Nat → Hp → Prop, Pv = (fun i H' => Same H H' ∧ H' c = some (.lst ((((List.range i).filter fun j => (ws[j]?.join).isSome).map fun j : Nat => (j : Int)).map V.int))) := ⟨_, rfl⟩
    refine lc_it (walk_enum (xs := ws.map optS)) Pv (by rw [hPv]; exact ⟨same_upd nc, upd_same⟩) (fun i H' _ pv => by rw [hPv] at pv; exact SqL.of (pv.1 _ _ hl)) (fun i x Hx H' hi pv y => ?_) (fun H' pv => ?_)
    · rw [List.length_map] at hi
      have nxt : ∀ H', Same H H' → H' c = some (.lst ((((List.range (i + 1)).filter fun j => (ws[j]?.join).isSome).map fun j : Nat => (j : Int)).map V.int)) → Pv (i + 1) H' := fun H' h1 h2 => by
        rw [hPv]
        exact ⟨h1, h2⟩
      rw [hPv] at pv
      obtain ⟨sm, hc⟩ := pv
      obtain ⟨T0, x1, y1, rfl, nT, rfl, gx, gy⟩ := y
      obtain ⟨o, ho⟩ : ∃ o, ws[i]? = some o := ⟨ws[i], List.getElem?_eq_getElem hi⟩
      have ex : x1 = V.int (i : Nat) := (Option.some.inj gx).symm
      have ey : y1 = optS o := by
        have gy2 : (ws.map optS)[i]? = some y1 := gy
        rw [List.getElem?_map, ho] at gy2
        exact (Option.some.inj gy2).symm
      subst ex
      subst ey
      have ncT : c ≠ T0 := ne_of_none hc nT
      have rs : (((List.range (i + 1)).filter fun j => (ws[j]?.join).isSome).map fun j : Nat => (j : Int)) = (((List.range i).filter fun j => (ws[j]?.join).isSome).map fun j : Nat => (j : Int)) ++ (if o.isSome then [(i : Int)] else []) := by
        rw [List.range_succ, List.filter_append, List.map_append]
        congr 1
        rw [List.filter_cons, ho, List.filter_nil]
        cases o <;> rfl
      have rl : ((((List.range i).filter fun j => (ws[j]?.join).isSome).map fun j : Nat => (j : Int)).map V.int).length ≤ i := by
        rw [List.length_map, List.length_map]
        have := List.length_filter_le (fun j => (ws[j]?.join).isSome) (List.range i)
        rw [List.length_range] at this
        exact this
      simp only [wipe]
      walk_at "rd"
      refine ⟨_, SqT.of upd_same, rfl, _, _, rfl, _, _, rfl, ?_⟩
      refine ⟨rfl, ?_⟩
      cases o with
      | none =>
        refine nxt _ (sm.trans (same_upd nT)) ?_
        rw [upd_ne ncT, rs]
        show _ = some (HO.lst ((_ ++ []).map V.int))
        rw [List.append_nil]
        exact hc
      | some z =>
        refine ⟨_, (upd_ne ncT).trans hc, len_big (by omega), nxt _ (same_ch (sm.trans (same_upd nT)) nc) ?_⟩
        rw [upd_same, rs]
        show _ = some (HO.lst ((_ ++ [(i : Int)]).map V.int))
        rw [List.map_append]
        rfl
    · rw [hPv] at pv
      obtain ⟨sm, hc⟩ := pv
      rw [List.length_map] at hc
      exact ret c _ sm nc hc
/-- the called rooms of a log -/
def cldF (r : Nat) (L : List Cl) : List Int := (rg r).filter fun x => (wordP L [x]).isSome
theorem cal_rg (r : Nat) (L : List Cl) : calF ((rg r).map fun x => wordP L [x]) = cldF r L := by
  unfold calF cldF rg
  rw [List.length_map, List.length_map, List.length_range, List.filter_map]
  congr 1
  refine List.filter_congr fun i hi => ?_
  have := List.mem_range.mp hi
  rw [List.getElem?_map, List.getElem?_map, List.getElem?_range this]
  rfl
theorem cld_up (r : Nat) (L : List Cl) : Up (cldF r L) := List.Pairwise.filter _ (rg_up r)
theorem cld_mem {r : Nat} {L : List Cl} {x : Int} : x ∈ cldF r L ↔ x ∈ rg r ∧ wordP L [x] ≠ none := by
  unfold cldF
  rw [List.mem_filter]
  cases wordP L [x] <;> simp
theorem scCbf : FnScope ["form"] ["form"] (defScope sCbf) := ⟨rfl, rfl, rfl, by decide +kernel, rfl, by decide +kernel, by decide +kernel⟩
def spCbf : Sp := fun vs H Q _ => ∃ (v : V) (D : List Pr) (L : List Cl) (r : Nat), vs = [v] ∧ FormAt H 12 v (formF D r L) ∧ r ≤ 12 ∧ ∀ t H', Same H H' → H t = none → H' t = some (.lst ((cldF r L).map V.int)) → Q (.ref t) H'
theorem ok_cbf {f f1 f2 : Addr} {fd fd1 fd2 : FuncData} (F : Fun K "called_by_form" "called_by_form" sCbf f fd) (T : Bi mg) (d_words_by_form : Df P w K mg base "words_by_form" ["form"] 16 spWoF f1 fd1) (d_called_rooms : Df P w K mg base "called_rooms" ["words"] 1 spCrm f2 fd2) : FnOk P w K mg base CX0 17 f fd ["form"] spCbf := by
  refine F.ok scCbf (fun vs H Q E h => ?_) (fun cdv A0 outer s H vs Q E hr h => ?_)
  · obtain ⟨v, D, L, r, rfl, _⟩ := h
    rfl
  · obtain ⟨v, D, L, r, rfl, hf, r12, ret⟩ := h
    refine ⟨_, (pss_one (ps_ret (pe_call d_called_rooms.ok (hr.mono (by decide)) (by rfl) d_called_rooms.at_ d_called_rooms.kp d_called_rooms.b .nil pass0 (pa_cons (pe_call d_words_by_form.ok (hr.mono (by decide)) (by rfl) d_words_by_form.at_ d_words_by_form.kp d_words_by_form.b .nil pass0 (pa_cons (pv 0) pa_nil)) pa_nil)))), ?_⟩
    walk_at "rd"
    refine ⟨v, D, L, r, rfl, hf, r12, fun t1 H1 s1 n1 h1 => ?_⟩
    refine ⟨t1, (rg r).map fun x => wordP L [x], rfl, (by rw [List.map_map]; exact h1), (by rw [List.length_map, rg_len]; omega), fun t H2 s2 n2 h2 => ?_⟩
    rw [cal_rg] at h2
    exact ret t H2 (s1.trans s2) (sm_none s1 n2) h2
end
/-! ### obeys_pairs -/
abbrev sOb : Stmt := topS 2
def genOf : Stmt → Expr
  | .Return (some (.Call _ [e] _ _)) _ => e
  | _ => .Constant .none 0 ⟨0, 0, 0, 0⟩
def genScope : Expr → Scope
  | .GeneratorExp _ _ sc _ => sc
  | _ => defScope (.Pass ⟨0, 0, 0, 0⟩)
theorem tabbed_back {H H2 : Hp} {t : Addr} {o : HO} (ht : H t = some (TbO t)) (h : GxR.Tabbed t (upd H t o) H2) : upd H2 t (TbO t) = H := by
  funext b
  by_cases hb : b = t
  · rw [hb, upd_same, ht]
  · rw [upd_ne hb, h.2 b hb, upd_ne hb]
abbrev gOb : Expr := genOf ((defBody sOb).headD (.Pass ⟨0, 0, 0, 0⟩))
section
variable {P : Program} {w : World} {K : PySem.W.Frag} {mg : Str → Option Value} {base : Heap}
theorem scOb : FnScope ["order", "pairs"] ["order", "pairs"] (defScope sOb) := ⟨rfl, rfl, rfl, by decide +kernel, rfl, by decide +kernel, by decide +kernel⟩
theorem gsOb : GenP (defScope sOb) (genScope gOb) "a" "b" := ⟨by decide +kernel, by decide +kernel, by decide +kernel, by decide +kernel, by decide +kernel, by decide +kernel, by decide +kernel, by decide +kernel⟩
def obB (O : List Int) (ps : List Pr) : Bool := ps.all fun p => decide (O.idxOf p.1 < O.idxOf p.2)
def spOb0 (t : Addr) : Sp := fun vs H Q _ => ∃ (o l : Addr) (O : List Int) (ws : List V) (ps : List Pr), vs = [.ref o, .ref l] ∧ TF H o (O.map V.int) ∧ H l = some (.lst ws) ∧ PL H ws ps ∧ (∀ p ∈ ps, p.1 ∈ O ∧ p.2 ∈ O) ∧ GxR.TabG H t ∧ ∀ H2, GxR.Tabbed t H H2 → Q (.bl (obB O ps)) H2
theorem ok_ob0 {f c t : Addr} {fd : FuncData} (F : FunC K "obeys_pairs" "obeys_pairs" sOb f fd c) (am : mg "all" = none) (TB : GxR.TabB base mg c t) : FnOk P w K mg base CX0 2 f fd ["order", "pairs"] (spOb0 t) := by
  refine F.ok scOb (fun vs H Q E h => ?_) (fun A0 outer s H vs Q E hr h => ?_)
  · obtain ⟨o, l, O, ws, ps, rfl, _⟩ := h
    rfl
  · obtain ⟨o, l, O, ws, ps, rfl, ho, hl, pl, hm, tb, ret⟩ := h
    refine ⟨_, pss_one (ps_ret (pe_allP (c := c) (P := t) (pb := fun p => decide (O.idxOf p.1 < O.idxOf p.2)) hr (by rfl) am (by rfl) TB rfl gsOb (pv 1) (fun _ => by rfl))), ?_⟩
    exact ⟨.ref l, rfl, l, ws, ps, rfl, SqL.of hl, pl, fun pins => elt_idx (j := 0) gsOb (by decide +kernel) (by decide +kernel) (show (defScope sOb).names.lookup (Str.ofString "order") = some NameKind.cell by decide +kernel) rfl rfl ho tb hm rfl rfl, tb, fun H2 h2 => ret H2 h2⟩
def spOb (t : Addr) : Sp := fun vs H Q _ => ∃ (o l : Addr) (O : List Int) (ws : List V) (ps : List Pr), vs = [.ref o, .ref l] ∧ TF H o (O.map V.int) ∧ H l = some (.lst ws) ∧ PL H ws ps ∧ (∀ p ∈ ps, p.1 ∈ O ∧ p.2 ∈ O) ∧ H t = some (TbO t) ∧ Q (.bl (obB O ps)) H
theorem upd_tb {H : Hp} {a t : Addr} {u o : HO} (h : H a = some u) (n : u ≠ TbO t) (ht : H t = some (TbO t)) : upd H t o a = some u := by
  have ne : a ≠ t := fun z => by
    rw [z, ht] at h
    exact n (Option.some.inj h).symm
  rw [upd_ne ne]
  exact h
theorem ok_ob {f co tb_obeys_pairs : Addr} {fd : FuncData} (F : FunC K "obeys_pairs" "obeys_pairs" sOb f fd co) (am : mg "all" = none) (TB : GxR.TabB base mg co tb_obeys_pairs) : FnOk P w K mg base CX0 2 f fd ["order", "pairs"] (spOb tb_obeys_pairs) := by
  refine (FnOk.tb tb_obeys_pairs (ok_ob0 (P := P) (w := w) F am TB)).imp fun vs H Q E h => ?_
  obtain ⟨o, l, O, ws, ps, rfl, ho, hl, pl, hm, ht, q⟩ := h
  have nt := tbO_ne tb_obeys_pairs
  refine ⟨ht, fun tb htb => ⟨o, l, O, ws, ps, rfl, ?_, upd_tb hl (fun z => by unfold TbO at z; cases z) ht, pl.kt (fun a xs e => upd_tb e (fun z => by unfold TbO at z; cases z) ht), hm, ⟨tb, upd_same, htb⟩, fun H2 h2 => ?_⟩⟩
  · obtain ⟨ob, d, e⟩ := ho
    exact ⟨ob, d, upd_tb e (fun z => by unfold TbO at z; cases z) ht⟩
  · obtain ⟨ps', h3, h4⟩ := h2.1
    refine ⟨ps', h3, h4, ?_⟩
    rw [tabbed_back ht h2]
    exact q
end

/-! ### == and != of lists of ints -/
theorem ni_eqv : ∀ T U : List Int, PyData.eqvAll (T.map .int) (U.map .int) = true ↔ T = U
  | [], [] => by simp [PyData.eqvAll]
  | [], _ :: _ => by simp [PyData.eqvAll]
  | _ :: _, [] => by simp [PyData.eqvAll]
  | x :: T, y :: U => by
    simp only [List.map_cons, PyData.eqvAll, PyData.eqv, Bool.and_eq_true, beq_iff_eq, List.cons.injEq, ni_eqv T U]
theorem ni_lay : ∀ T : List Int, PyData.canLayAll0 (T.map .int) = true
  | [] => rfl
  | x :: T => by
    simp only [List.map_cons, PyData.canLayAll0, PyData.canLay0, ni_lay T, Bool.and_self]
theorem ni_dep : ∀ T : List Int, PyData.depthAll (T.map .int) = 0
  | [] => rfl
  | x :: T => by
    simp only [List.map_cons, PyData.depthAll, PyData.depth, ni_dep T, Nat.max_self]
theorem ni_dp {K : PySem.W.Frag} {H : Hp} : ∀ T : List Int, DpAll K H (T.map V.int) (T.map .int)
  | [] => .nil
  | x :: T => .cons (.int x) (ni_dp T)
theorem ni_shaped (T : List Int) : SeqAt.shaped (.list (T.map .int)) = true := by
  unfold SeqAt.shaped
  rw [show (PyData.list (T.map .int)).canLay0 = PyData.canLayAll0 (T.map .int) from rfl, ni_lay, Bool.true_and, decide_eq_true_iff, show (PyData.list (T.map .int)).depth = PyData.depthAll (T.map .int) + 1 from rfl, ni_dep]
  decide
theorem ni_ne {K : PySem.W.Frag} {H : Hp} {a b : Addr} {T U : List Int} {Q : VK} (ha : H a = some (.lst (T.map V.int))) (hb : H b = some (.lst (U.map V.int))) (q : Q (.bl (!decide (T = U))) H) : rNeD K (.ref a) (.ref b) H Q := by
  refine ⟨.list (T.map .int), .list (U.map .int), .lst (SqL.of ha) (ni_dp T), .lst (SqL.of hb) (ni_dp U), ni_shaped T, ni_shaped U, ?_⟩
  have e : PyData.eqv (.list (T.map .int)) (.list (U.map .int)) = decide (T = U) := by
    rw [Bool.eq_iff_iff, decide_eq_true_iff]
    exact ni_eqv T U
  rw [e]
  exact q

/-! ### keeps_form -/
abbrev sKf : Stmt := topS 32
theorem ni_eq {K : PySem.W.Frag} {H : Hp} {a b : Addr} {T U : List Int} {Q : VK} (ha : H a = some (.lst (T.map V.int))) (hb : H b = some (.lst (U.map V.int))) (q : Q (.bl (decide (T = U))) H) : rEqD K (.ref a) (.ref b) H Q := by
  refine ⟨.list (T.map .int), .list (U.map .int), .lst (SqL.of ha) (ni_dp T), .lst (SqL.of hb) (ni_dp U), ni_shaped T, ni_shaped U, ?_⟩
  have e : PyData.eqv (.list (T.map .int)) (.list (U.map .int)) = decide (T = U) := by
    rw [Bool.eq_iff_iff, decide_eq_true_iff]
    exact ni_eqv T U
  rw [e]
  exact q
theorem blk_top {D : List Pr} {L : List Cl} {k : Nat} {P : List Int} (p : Part D P) (l12 : P.length ≤ 12) {x : Int} (hx : x ∈ (blkP D L k P).t) (hw : wordP L P ≠ none) : wordP L [x] ≠ none ∧ x ∈ P := by
  cases e : wordP L P with
  | none => exact absurd e hw
  | some z =>
    rw [blkP_some e] at hx
    have hk := (upF_mem _ _).mp (show x ∈ upF (keepL D L 12 P) from hx)
    obtain ⟨m, f⟩ := (keepL_iff 12 P z l12 p e x).mp hk
    refine ⟨?_, m⟩
    rw [f [x] (one_part D x) (List.mem_singleton.mpr rfl) fun y hy => by rw [List.mem_singleton.mp hy]; exact m]
    exact fun z => nomatch z
/-- forced pairs are pairs of called rooms -/
theorem pair_called {D : List Pr} {L : List Cl} {r : Nat} (r12 : r ≤ 12) {p : Pr} (h : p ∈ pairsF D (formF D r L)) : p.1 ∈ cldF r L ∧ p.2 ∈ cldF r L := by
  unfold pairsF at h
  obtain ⟨bo, hbo, h⟩ := List.mem_flatMap.mp h
  obtain ⟨bi, hbi, h⟩ := List.mem_flatMap.mp h
  have len12 : ∀ {P : List Int}, Part D P → (∀ x ∈ P, x ∈ rg r) → P.length ≤ 12 := fun {P} part sub => by
    have := int_sub_len2 (up_nd part.1) sub
    rw [rg_len] at this
    omega
  obtain ⟨k, P, e, part, sub⟩ := pre_part 13 12 (rg r) bo hbo
  cases eo : wordP L P with
  | none =>
    rw [e, blkP_none eo, show (Blk.mk none P []).i = [] from rfl, preF_nil] at hbi
    cases hbi
  | some wo =>
    have hi2 := hbi
    rw [e, blkP_some eo] at hi2
    obtain ⟨k2, P2, e2, part2, sub2⟩ := pre_part 13 k _ bi hi2
    have sub3 : ∀ x ∈ P2, x ∈ rg r := fun x hx => sub x (List.mem_filter.mp (sub2 x hx)).1
    unfold pairB at h
    cases ew : bi.w with
    | none => rw [ew] at h; cases h
    | some z =>
      rw [ew] at h
      have wi : wordP L P2 ≠ none := fun q => by
        rw [e2, blkP_w, q] at ew
        cases ew
      by_cases c : bo.w = some z
      · simp only [c, if_true] at h; cases h
      · simp only [c, if_false] at h
        obtain ⟨x, hx, h⟩ := List.mem_flatMap.mp h
        by_cases c2 : besB D (rmsB bi) x = true
        · rw [if_pos c2] at h
          obtain ⟨y, hy, rfl⟩ := List.mem_map.mp h
          rw [e2] at hy
          rw [e] at hx
          obtain ⟨h1, h2⟩ := blk_top part2 (len12 part2 sub3) hy wi
          obtain ⟨h3, h4⟩ := blk_top part (len12 part sub) hx (by rw [eo]; exact fun z => nomatch z)
          exact ⟨cld_mem.mpr ⟨sub3 _ h2, h1⟩, cld_mem.mpr ⟨sub _ h4, h3⟩⟩
        · rw [if_neg c2] at h; cases h
theorem perm_up {A B : List Int} (p : A.Perm B) (h : A.Pairwise (· ≤ ·)) (k : B.Pairwise (· ≤ ·)) : A = B :=
  List.Perm.eq_of_pairwise (fun a b _ _ h1 h2 => by have h1' : a ≤ b := h1; have h2' : b ≤ a := h2; omega) h k p
open Classical in
noncomputable def keepB (D : List Pr) (r : Nat) (L : List Cl) (O : List Int) : Bool := decide (O.Perm (cldF r L)) && obB O (pairsF D (formF D r L))
section
variable {P : Program} {w : World} {K : PySem.W.Frag} {mg : Str → Option Value} {base : Heap}
theorem scKf : FnScope ["house", "form", "order"] ["house", "form", "order"] (defScope sKf) := ⟨rfl, rfl, rfl, by decide +kernel, rfl, by decide +kernel, by decide +kernel⟩
def spKf (C tb_obeys_pairs : Addr) : Sp := fun vs H Q _ => ∃ (p o : Addr) (v : V) (r : Nat) (D : List Pr) (own : List Addr) (L : List Cl) (O : List Int), vs = [.ref p, v, .ref o] ∧ HouseAt C H p r D own ∧ FormAt H 12 v (formF D r L) ∧ TF H o (O.map V.int) ∧ O.length ≤ 60 ∧ H tb_obeys_pairs = some (TbO tb_obeys_pairs) ∧ ∀ H', Same H H' → Q (.bl (keepB D r L O)) H'
theorem ok_kf {f C f1 f2 f3 tb_obeys_pairs : Addr} {fd fd1 fd2 fd3 : FuncData} (F : Fun K "keeps_form" "keeps_form" sKf f fd) (T : Bi mg) (d_called_by_form : Df P w K mg base "called_by_form" ["form"] 17 spCbf f1 fd1) (d_obeys_pairs : Df P w K mg base "obeys_pairs" ["order", "pairs"] 2 (spOb tb_obeys_pairs) f2 fd2) (d_forced_pairs : Df P w K mg base "forced_pairs" ["house", "form"] 18 (spFrp C) f3 fd3) : FnOk P w K mg base CX0 19 f fd ["house", "form", "order"] (spKf C tb_obeys_pairs) := by
  refine F.ok scKf (fun vs H Q E h => ?_) (fun cdv A0 outer s H vs Q E hr h => ?_)
  · obtain ⟨p, o, v, r, D, own, L, O, rfl, _⟩ := h
    rfl
  · obtain ⟨p, o, v, r, D, own, L, O, rfl, hh, hf, ho, len, ht, ret⟩ := h
    refine ⟨_, (pss_one (ps_ret (pe_and (pe_cmpR (op_eqD hr.units) (pe_callB cr_sortTup (by rfl) T.sorted (by decide +kernel) (pa_cons (pv 2) pa_nil)) (pe_call d_called_by_form.ok (hr.mono (by decide)) (by rfl) d_called_by_form.at_ d_called_by_form.kp d_called_by_form.b .nil pass0 (pa_cons (pv 1) pa_nil)) (nomark _)) (pe_one (pe_call d_obeys_pairs.ok (hr.mono (by decide)) (by rfl) d_obeys_pairs.at_ d_obeys_pairs.kp d_obeys_pairs.b .nil pass0 (pa_cons (pv 2) (pa_cons (pe_call d_forced_pairs.ok (hr.mono (by decide)) (by rfl) d_forced_pairs.at_ d_forced_pairs.kp d_forced_pairs.b .nil pass0 (pa_cons (pv 0) (pa_cons (pv 1) pa_nil))) pa_nil))))))), ?_⟩
    walk_at "rd"
    refine ⟨o, O, rfl, .inr ho.sq, by omega, fun S t1 pm so n1 => ?_⟩
    have s1 := same_upd (o := HO.lst (S.map V.int)) n1
    refine ⟨v, D, L, r, rfl, hf.kt (KT.same s1), hh.r12, fun t2 H2 s2 n2 h2 => ?_⟩
    have s12 := s1.trans s2
    refine ni_eq (s2 _ _ upd_same) h2 ?_
    refine ⟨_, rfl, ?_⟩
    have key : S = cldF r L ↔ O.Perm (cldF r L) := ⟨fun z => z ▸ pm.symm, fun z => perm_up (pm.trans z) so (List.Pairwise.imp (fun {a b} (h : a < b) => Int.le_of_lt h) (cld_up r L))⟩
    by_cases c : S = cldF r L
    · rw [if_pos (decide_eq_true c)]
      have hp := key.mp c
      refine ⟨p, v, r, D, own, L, rfl, hh.same s12, hf.kt (KT.same s12), fun ws E t H' sm nt hl pl pmE _ => ?_⟩
      have s13 := s12.trans sm
      refine ⟨o, t, O, ws, E, rfl, ho.same s13, hl, pl, fun q hq => ?_, s13 _ _ ht, ?_⟩
      · have := pair_called hh.r12 (pmE.mem_iff.mp hq)
        exact ⟨hp.mem_iff.mpr this.1, hp.mem_iff.mpr this.2⟩
      · have e : obB O E = keepB D r L O := by
          unfold keepB obB
          rw [decide_eq_true hp, Bool.true_and, Bool.eq_iff_iff, List.all_eq_true, List.all_eq_true]
          exact ⟨fun z x hx => z x (pmE.mem_iff.mpr hx), fun z x hx => z x (pmE.mem_iff.mp hx)⟩
        rw [e]
        exact ret _ s13
    · rw [if_neg (by rw [decide_eq_true_iff]; exact c)]
      have e : keepB D r L O = false := by
        unfold keepB
        rw [decide_eq_false (fun z => c (key.mpr z)), Bool.false_and]
      have q := ret _ s12
      rw [e] at q
      exact q
end

/-! ### _law_are_pairs -/
abbrev sLap : Stmt := topS 53
theorem cr_range1 {X : Cx} : CallR X (.type "range") (fun vs H Q => ∃ i, vs = [V.int i] ∧ ∀ p, H p = none → Q (.ref p) (upd H p (.rng 0 i))) := by
  intro pins s σ H vs us Q I r h
  obtain ⟨i, rfl, q⟩ := h
  obtain ⟨u1, rfl, ri⟩ := vals1 r
  obtain ⟨t, rfl⟩ := ri
  refine call_range_1 ⟨.ref s.heap.objs.size, upd H s.heap.objs.size (.rng 0 i), I.laid (t' := s.toks + 1 + 1) (fun b o e => Heap.get?_push_of_some _ e) (Nat.le_refl _) ?_, rfl, q _ (I.hok.fresh (Nat.le_refl _))⟩
  exact ⟨s.toks, t, s.toks + 1, Heap.get?_push_size _ rfl⟩
/-- i not in r -/
theorem op_nin_rng {X : Cx} : OpR X (compareOp .NotIn) (fun x y H Q => ∃ i a lo hi, x = V.int i ∧ y = V.ref a ∧ H a = some (.rng lo hi) ∧ Q (.bl (!decide (lo ≤ i ∧ i < hi))) H) := by
  intro pins s σ H x y v u Q I rx ry h
  obtain ⟨i, a, lo, hi, rfl, rfl, ha, q⟩ := h
  obtain ⟨k, rfl⟩ := rx
  obtain rfl : u = Value.ref a := ry
  obtain ⟨t1, t2, t3, ho⟩ := I.hok a _ ha
  show wpAny _ _ (do return Value.bool (!(← contains (Value.ref a) (Value.int i k)))) _ _ s
  refine wpAny_bind (wpAny_contains_slot (T := "range") ⟨_, ho, rfl⟩ PySem.F.slot_range_contains (call_meets PySem.F.slot_range_contains ⟨_, ho, rfl⟩ PySem.F.entry_range_contains (PySem.F.args_range_contains_2 _ _) (q_contains a lo hi i t1 t2 t3 k)
    ⟨ho, wpAny_truthy_bool (wpAny_pure ⟨.bl _, H, I, rfl, ?_⟩)⟩))
  rw [place1]
  exact q
section
variable {P : Program} {w : World} {K : PySem.W.Frag} {mg : Str → Option Value} {base : Heap}
theorem scLap : FnScope ["told", "rooms", "pair", "room"] ["told", "rooms"] (defScope sLap) := ⟨rfl, rfl, rfl, by decide +kernel, rfl, by decide +kernel, by decide +kernel⟩
def spLap : Sp := fun vs H Q _ => ∃ (l : Addr) (ws : List V) (E : List Pr) (r : Nat), vs = [.ref l, .int r] ∧ H l = some (.lst ws) ∧ PL H ws E ∧ (∀ p ∈ E, (0 ≤ p.1 ∧ p.1 < r) ∧ 0 ≤ p.2 ∧ p.2 < r) ∧ ∀ H', Same H H' → Q (.bl true) H'
theorem ok_lap {f : Addr} {fd : FuncData} (F : Fun K "_law_are_pairs" "_law_are_pairs" sLap f fd) (T : Bi mg) : FnOk P w K mg base CX0 1 f fd ["told", "rooms"] spLap := by
  refine F.ok scLap (fun vs H Q E h => ?_) (fun cdv A0 outer s H vs Q E hr h => ?_)
  · obtain ⟨l, ws, E, r, rfl, _⟩ := h
    rfl
  · obtain ⟨l, ws, E, r, rfl, hl, pl, inr, ret⟩ := h
    refine ⟨_, (pss_cons (ps_if (pt_not (pt_val (pe_callB cr_is5 (by rfl) T.isinstance (by decide +kernel) (pa_cons (pv 0) (pa_cons (pe_bltn (v := .ty "list") (by rfl) T.list (by decide +kernel) rfl) pa_nil)))))
      (pss_one (ps_ret pe_bl))
      pss_nil)
      (pss_cons (ps_for PassesOwn.never rfl (pi_list (pv 0)) (pg_name (i := 2) scLap.nd rfl (Or.inl rfl))
      (pss_cons (ps_if (PW.pt (pw_or (pt_not (pt_val (pe_callB cr_is5 (by rfl) T.isinstance (by decide +kernel) (pa_cons (pv 2) (pa_cons (pe_bltn (v := .ty "tuple") (by rfl) T.tuple (by decide +kernel) rfl) pa_nil))))) (pw_or1 (pt_cmpR op_neI (pe_callB call_len_seq (by rfl) T.len (by decide +kernel) (pa_cons (pv 2) pa_nil)) pe_int (nomark _)))))
        (pss_one (ps_ret pe_bl))
        pss_nil)
        (pss_one (ps_for PassesOwn.never rfl (pi_tup (pv 2)) (pg_name (i := 3) scLap.nd rfl (Or.inl rfl))
        (pss_one (ps_if (PW.pt (pw_or (pt_not (pt_val (pe_callB cr_is5 (by rfl) T.isinstance (by decide +kernel) (pa_cons (pv 3) (pa_cons (pe_bltn (v := .ty "int") (by rfl) T.int (by decide +kernel) rfl) pa_nil))))) (pw_or (pt_val (pe_callB cr_is5 (by rfl) T.isinstance (by decide +kernel) (pa_cons (pv 3) (pa_cons (pe_bltn (v := .ty "bool") (by rfl) T.bool (by decide +kernel) rfl) pa_nil)))) (pw_or1 (pt_cmpR op_nin_rng (pv 3) (pe_callTy cr_range1 (by rfl) T.range (by decide +kernel) (pa_cons (pv 1) pa_nil)) (by rfl))))))
          (pss_one (ps_ret pe_bl))
          pss_nil))))))
      (pss_one (ps_ret pe_bl)))), ?_⟩
    walk_at "rd"
    refine is5_of (.base (.lst hl)) (by decide) (by decide) ⟨true, rfl, ?_⟩
    rw [if_neg (by decide)]
    obtain ⟨Pv, hPv⟩ : ∃ Pv : Nat → L2.St → Hp → Prop, Pv = (fun i σ H' => ∃ v2 v3 : Option V, σ = [some (.ref l), some (.int r), v2, v3] ∧ Same H H') := ⟨_, rfl⟩
    refine for_iterW ?_
    walk_at "rd"
    refine ⟨⟨ws, SqL.of hl⟩, for_list (xs := ws) Pv (by rw [hPv]; exact ⟨none, none, rfl, fun _ _ e => e⟩) (fun i σ H' _ pv => by rw [hPv] at pv; obtain ⟨_, _, _, sm⟩ := pv; exact SqL.of (sm _ _ hl)) (fun i x σ H' gx pv => ?_) (fun σ H' pv => ?_)⟩
    · rw [hPv] at pv
      obtain ⟨v2, v3, rfl, sm⟩ := pv
      obtain ⟨d, gd, t, rfl, ht⟩ := pl.get gx
      have ht1 := sm _ _ ht
      have hin := inr d (List.mem_of_getElem? gd)
      walk_at "rd"
      refine is5_of (.base (.tup ht1)) (by decide) (by decide) ⟨true, rfl, ?_⟩
      rw [if_neg (by decide)]
      refine ⟨_, .inr (SqT.of ht1), ?_⟩
      rw [if_neg (by simp)]
      refine for_iterW ?_
      walk_at "rd"
      obtain ⟨Pw, hPw⟩ : ∃ Pw : Nat → L2.St → Hp → Prop, Pw = (fun i σ H' => ∃ v3 : Option V, σ = [some (.ref l), some (.int r), some (.ref t), v3] ∧ Same H H') := ⟨_, rfl⟩
      refine ⟨_, rfl, t, rfl, ⟨_, SqT.of ht1⟩, for_tup (K := K) (a := t) (xs := [V.int d.1, V.int d.2]) Pw (by rw [hPw]; exact ⟨_, rfl, sm⟩) (fun i σ H' _ pw => by rw [hPw] at pw; obtain ⟨_, _, sm⟩ := pw; exact SqT.of (sm _ _ ht)) (fun i x σ H' gx pw => ?_) (fun σ H' pw => ?_)⟩
      · rw [hPw] at pw
        obtain ⟨v3, rfl, sm⟩ := pw
        obtain ⟨z, rfl, z0, z1⟩ : ∃ z : Int, x = V.int z ∧ 0 ≤ z ∧ z < r := by
          rcases List.mem_cons.mp (List.mem_of_getElem? gx) with e | e
          · exact ⟨_, e, hin.1⟩
          · rcases List.mem_cons.mp e with e | e
            · exact ⟨_, e, hin.2⟩
            · cases e
        walk_at "rd"
        refine is5_of (.base (.int _)) (by decide) (by decide) ⟨true, rfl, ?_⟩
        rw [if_neg (by decide)]
        refine is5_of (.base (.int _)) (by decide) (by decide) ⟨false, rfl, ?_⟩
        rw [if_neg (by decide)]
        refine fun p np => ⟨0, r, upd_same, ?_⟩
        rw [if_neg (by rw [decide_eq_true ⟨z0, z1⟩]; decide), hPw]
        exact ⟨_, rfl, sm.trans (same_upd np)⟩
      · rw [hPw] at pw
        obtain ⟨v3, rfl, sm⟩ := pw
        rw [hPv]
        exact ⟨_, _, rfl, sm⟩
    · rw [hPv] at pv
      obtain ⟨v2, v3, rfl, sm⟩ := pv
      walk_at "rd"
      exact ret _ sm
end
/-! ### _law_orders -/
abbrev sLor : Stmt := topS 46
/-- v is a tuple of these ints -/
def IsO (H : Hp) (v : V) (O : List Int) : Prop := ∃ t, v = .ref t ∧ TF H t (O.map V.int)
theorem IsO.same {H H' : Hp} {v : V} {O : List Int} (h : IsO H v O) (s : Same H H') : IsO H' v O := by
  obtain ⟨t, e, h⟩ := h
  exact ⟨t, e, h.same s⟩
theorem isos_same {H H' : Hp} (s : Same H H') {ws : List V} {Os : List (List Int)} (h : Paired (IsO H) ws Os) : Paired (IsO H') ws Os := Paired.mapP h fun _ _ q => q.same s
def fc : Nat → Nat
  | 0 => 1
  | n + 1 => (n + 1) * fc n
theorem fc_pos : ∀ n, 1 ≤ fc n
  | 0 => Nat.le_refl _
  | n + 1 => Nat.mul_pos (Nat.succ_pos _) (fc_pos n)
theorem fc_mono : ∀ {m n : Nat}, m ≤ n → fc m ≤ fc n := fun {m n} h => by
  induction n with
  | zero => rw [Nat.le_zero.mp h]; exact Nat.le_refl _
  | succ n ih =>
    rcases Nat.lt_or_ge m (n + 1) with c | c
    · exact Nat.le_trans (ih (by omega)) (Nat.le_mul_of_pos_left _ (Nat.succ_pos _))
    · rw [show m = n + 1 by omega]; exact Nat.le_refl _
theorem perm_out {R U : List Int} {z : Int} (nd : R.Nodup) (zm : z ∈ R) (p : U.Perm (R.filter fun y => decide (y ≠ z))) : (z :: U).Perm R := by
  have ndU : U.Nodup := p.nodup_iff.mpr (nd.filter _)
  refine (List.perm_ext_iff_of_nodup (List.nodup_cons.mpr ⟨fun h => ?_, ndU⟩) nd).mpr fun x => ?_
  · have := (List.mem_filter.mp (p.mem_iff.mp h)).2
    simp at this
  · rw [List.mem_cons, p.mem_iff, List.mem_filter]
    by_cases c : x = z
    · subst c
      exact ⟨fun _ => zm, fun _ => .inl rfl⟩
    · simp [c]
section
variable {P : Program} {w : World} {K : PySem.W.Frag} {mg : Str → Option Value} {base : Heap}
theorem scLor : FnScope ["rooms", "found", "room", "rest", "r"] ["rooms"] (defScope sLor) := ⟨rfl, rfl, rfl, by decide +kernel, rfl, by decide +kernel, by decide +kernel⟩
def spLor (n : Nat) : Sp := fun vs H Q _ => ∃ (l : Addr) (R : List Int), vs = [.ref l] ∧ H l = some (.lst (R.map V.int)) ∧ R.Nodup ∧ R.length ≤ n ∧ n ≤ 6 ∧
  ∀ ws Os t H', Same H H' → H t = none → H' t = some (.lst ws) → Paired (IsO H') ws Os → Os ≠ [] → (∀ O ∈ Os, O.Perm R) → Os.length ≤ fc n → Q (.ref t) H'
theorem ok_lor {f : Addr} {fd : FuncData} (F : Fun K "_law_orders" "_law_orders" sLor f fd) (T : Bi mg) (bd : Binds K fd ["rooms"] []) (hmg : mg "_law_orders" = some (.ref f)) : ∀ n, FnOk P w K mg base CX0 (n + 1) f fd ["rooms"] (spLor n) := by
  intro n
  induction n with
  | zero =>
    refine F.ok scLor (fun vs H Q E h => ?_) (fun cdv A0 outer s H vs Q E hr h => ?_)
    · obtain ⟨l, R, rfl, _⟩ := h
      rfl
    · obtain ⟨l, R, rfl, hl, nd, rl, n6, ret⟩ := h
      refine ⟨_, (pss_cons (ps_if (pt_cmpR op_eqI (pe_callB call_len_seq (by rfl) T.len (by decide +kernel) (pa_cons (pv 0) pa_nil)) pe_int (nomark _))
      (pss_one (ps_ret (pe_lst (pa_cons (pe_tupF pa_nil) pa_nil))))
      pss_nil)
      (pss_cons (ps_set (i := 1) scLor.nd rfl (Or.inl rfl) (pe_lst pa_nil))
      (pss_cons (ps_never)
      (pss_one (ps_ret (pv 1)))))), ?_⟩
      walk_at "rd"
      have eR : R = [] := List.length_eq_zero_iff.mp (Nat.le_zero.mp rl)
      subst eR
      refine ⟨_, .inl (SqL.of hl), ?_⟩
      rw [if_pos (by simp)]
      unfold tTupF
      walk_at "rd"
      refine ⟨by decide, fun p0 o0 n0 d0 => ⟨by decide, fun t1 n1 => ?_⟩⟩
      have s0 := same_upd (o := HO.frz o0 (.tup [])) n0
      have s1 := s0.trans (same_upd (o := HO.lst [V.ref p0]) n1)
      refine ret _ [[]] t1 _ s1 (sm_none s0 n1) upd_same (.cons ⟨p0, rfl, ?_⟩ .nil) (by simp) (fun O hO => by rw [List.mem_singleton.mp hO]) (by simp [fc])
      exact (TF.new d0).same (same_upd n1)
  | succ n ih =>
    refine F.ok scLor (fun vs H Q E h => ?_) (fun cdv A0 outer s H vs Q E hr h => ?_)
    · obtain ⟨l, R, rfl, _⟩ := h
      rfl
    · obtain ⟨l, R, rfl, hl, nd, rl, n6, ret⟩ := h
      refine ⟨_, (pss_cons (ps_if (pt_cmpR op_eqI (pe_callB call_len_seq (by rfl) T.len (by decide +kernel) (pa_cons (pv 0) pa_nil)) pe_int (nomark _))
      (pss_one (ps_ret (pe_lst (pa_cons (pe_tupF pa_nil) pa_nil))))
      pss_nil)
      (pss_cons (ps_set (i := 1) scLor.nd rfl (Or.inl rfl) (pe_lst pa_nil))
      (pss_cons (ps_for PassesOwn.never rfl (pi_list (pv 0)) (pg_name (i := 2) scLor.nd rfl (Or.inr rfl))
      (pss_one (ps_for PassesOwn.never rfl (pi_list (pe_call ih hr (by rfl) hmg F.kp bd .nil pass0 (pa_cons (pe_lc (own := [("r", 4)]) (by rfl) scLor.nd (pi_list (pv 0)) (blkOk_by (N := ["rooms", "found", "room", "rest", "r"]) (sc := defScope sLor) (by decide +kernel)) (fun _ _ _ _ _ => pg_name (i := 4) scLor.nd rfl (Or.inl rfl)) (fun _ _ _ _ _ => (pts_one (pt_cmpR op_neI (pv 4) (pv 2) (nomark _)))) (fun _ _ _ _ _ => (pv 4))) pa_nil))) (pg_name (i := 3) scLor.nd rfl (Or.inl rfl))
        (pss_one (ps_expr (pe_bm PySem.F.plainAttrs_list PySem.F.slot_list_append PySem.F.type_list_append mt_append (pv 1) (pa_cons (pe_op op_catF (pe_tupF (pa_cons (pv 2) pa_nil)) (pv 3)) pa_nil)))))))
      (pss_one (ps_ret (pv 1)))))), ?_⟩
      walk_at "rd"
      refine ⟨_, .inl (SqL.of hl), ?_⟩
      by_cases e0 : R = []
      · subst e0
        rw [if_pos (by simp)]
        unfold tTupF
        walk_at "rd"
        refine ⟨by decide, fun p0 o0 n0 d0 => ⟨by decide, fun t1 n1 => ?_⟩⟩
        have s0 := same_upd (o := HO.frz o0 (.tup [])) n0
        have s1 := s0.trans (same_upd (o := HO.lst [V.ref p0]) n1)
        refine ret _ [[]] t1 _ s1 (sm_none s0 n1) upd_same (.cons ⟨p0, rfl, ?_⟩ .nil) (by simp) (fun O hO => by rw [List.mem_singleton.mp hO]) (fc_pos (n + 1))
        exact (TF.new d0).same (same_upd n1)
      · rw [if_neg (by rw [List.length_map]; intro z; exact e0 (List.length_eq_zero_iff.mp (by omega)))]
        refine ⟨by decide, fun c nc => ?_⟩
        have hc0 := upd_same (H := H) (a := c) (o := HO.lst [])
        have sc0 := same_upd (o := HO.lst []) nc
        refine for_iterW ?_
        walk_at "rd"
        obtain ⟨Pv, hPv⟩ : ∃ Pv : Nat → L2.St → Hp → Prop, Pv = (fun i σ H' => ∃ (v2 v3 : Option V) (ws : List V) (Os : List (List Int)), σ = [some (.ref l), some (.ref c), v2, v3, none] ∧ Same H H' ∧ H' c = some (.lst ws) ∧ Paired (IsO H') ws Os ∧ (1 ≤ i → Os ≠ []) ∧ (∀ O ∈ Os, O.Perm R) ∧ Os.length ≤ i * fc n) := ⟨_, rfl⟩
        refine ⟨⟨_, SqL.of (sc0 _ _ hl)⟩, for_list (xs := R.map V.int) Pv (by rw [hPv]; exact ⟨none, none, [], [], rfl, sc0, hc0, .nil, (fun z => absurd z (by decide)), (fun O hO => nomatch hO), Nat.zero_le _⟩) (fun i σ H' _ pv => by rw [hPv] at pv; obtain ⟨_, _, _, _, _, sm, _⟩ := pv; exact SqL.of (sm _ _ hl)) (fun i x σ H' gx pv => ?_) (fun σ H' pv => ?_)⟩
        · rw [hPv] at pv
          obtain ⟨v2, v3, ws, Os, rfl, sm, hc, po, ne, pm, ol⟩ := pv
          obtain ⟨z, gz, rfl⟩ : ∃ z, R[i]? = some z ∧ V.int z = x := by
            rw [List.getElem?_map] at gx
            cases e : R[i]? with
            | none => rw [e] at gx; cases gx
            | some z => rw [e] at gx; exact ⟨z, rfl, Option.some.inj gx⟩
          walk_at "rd"
          refine for_iterW ?_
          walk_at "rd"
          refine lcW ?_
          walk_at "rd"
          have zm : z ∈ R := List.mem_of_getElem? gz
          refine ⟨⟨_, SqL.of (sm _ _ hl)⟩, lc_filtL (p := fun y => decide (y ≠ z)) (sm _ _ hl) (by omega) (by simp) (fun y Hy B ym sy hB => ?_) fun q2 H2 s2 n2 h2 => ?_⟩
          · walk_at "rd"
            by_cases cy : y = z
            · subst cy
              simpa using hB
            · simpa [cy] using hB
          have rl2 : (R.filter fun y => decide (y ≠ z)).length ≤ n := by
            have := filter_lt (p := fun y => decide (y ≠ z)) zm (by simp)
            omega
          refine ⟨q2, _, rfl, h2, nd.filter _, rl2, by omega, fun vs Us u H3 s3 n3 h3 pu une upm ulen => ?_⟩
          have s23 := s2.trans s3
          have sm3 := sm.trans s23
          have hc3 := s23 _ _ hc
          have po3 := isos_same s23 po
          have ul : vs.length = Us.length := pu.length
          have b720 : fc n ≤ 720 := fc_mono (show n ≤ 6 by omega)
          have il : i < R.length := (List.getElem?_eq_some_iff.mp gz).1
          have wl : ws.length = Os.length := po.length
          have b1 : i * fc n ≤ 6 * 720 := Nat.mul_le_mul (by omega) b720
          obtain ⟨Pw, hPw⟩ : ∃ Pw : Nat → L2.St → Hp → Prop, Pw = (fun k σ H' => ∃ (v3 : Option V) (xs : List V) (Xs : List (List Int)), σ = [some (.ref l), some (.ref c), some (.int z), v3, none] ∧ Same H H' ∧ H' u = some (.lst vs) ∧ Paired (IsO H') vs Us ∧ H' c = some (.lst xs) ∧ Paired (IsO H') xs Xs ∧ (∀ O ∈ Xs, O.Perm R) ∧ Xs.length = Os.length + k) := ⟨_, rfl⟩
          have ncu : c ≠ u := ne_of_none (s2 _ _ hc) n3
          refine ⟨u, rfl, ⟨_, SqL.of h3⟩, for_list (xs := vs) Pw (by rw [hPw]; exact ⟨v3, ws, Os, rfl, sm3, h3, pu, hc3, po3, pm, rfl⟩) (fun k σ H' _ pw => by rw [hPw] at pw; obtain ⟨_, _, _, _, _, hu, _⟩ := pw; exact SqL.of hu) (fun k y σ H' gy pw => ?_) (fun σ H' pw => ?_)⟩
          · rw [hPw] at pw
            obtain ⟨v3', xs, Xs, rfl, sm4, hu4, pu4, hc4, px4, pmx, xl⟩ := pw
            obtain ⟨U, gU, tu, rfl, hU⟩ := pget pu4 gy
            have kl : k < vs.length := (List.getElem?_eq_some_iff.mp gy).1
            walk_at "rd"
            refine ⟨.inl ⟨rfl, _, SqL.of hc4⟩, ?_⟩
            unfold tTupF
            walk_at "rd"
            refine ⟨by decide, fun p0 o0 n0 d0 => ?_⟩
            have t0 := same_upd (o := HO.frz o0 (.tup [V.int z])) n0
            have h0 : TF (upd H' p0 (.frz o0 (.tup [V.int z]))) p0 [V.int z] := TF.new d0
            have ncp : c ≠ p0 := ne_of_none hc4 n0
            generalize upd H' p0 (.frz o0 (.tup [V.int z])) = H4 at t0 h0 ⊢
            have hU4 := hU.same t0
            have xl2 : xs.length = Xs.length := px4.length
            have pmU := upm U (List.mem_of_getElem? gU)
            have ulen2 := pmU.length_eq
            have done : ∀ (H5 : Hp) (q5 : Addr), Same H4 H5 → TF H5 q5 ((z :: U).map V.int) → ∃ x_1, H5 c = some (HO.lst x_1) ∧ x_1.length < sizeLine ∧ Pw (k + 1) [some (V.ref l), some (V.ref c), some (V.int z), some (V.ref tu), none] (upd H5 c (HO.lst (x_1 ++ [V.ref q5]))) := fun H5 q5 s5 h5 => by
              have s05 := t0.trans s5
              have hc5 := s05 _ _ hc4
              refine ⟨xs, hc5, len_big (by omega), ?_⟩
              rw [hPw]
              have nq : q5 ≠ c := fun e => by
                obtain ⟨ob, _, e2⟩ := h5
                rw [e, hc5] at e2
                cases e2
              have smc := sm4.trans s05
              have chg : ∀ {v : V} {O : List Int}, IsO H5 v O → IsO (upd H5 c (HO.lst (xs ++ [V.ref q5]))) v O := fun {v O} h => by
                obtain ⟨t, e, ob, d, e2⟩ := h
                refine ⟨t, e, ob, d, ?_⟩
                rw [upd_ne (fun e3 => by rw [e3, hc5] at e2; cases e2)]
                exact e2
              refine ⟨_, xs ++ [V.ref q5], Xs ++ [z :: U], rfl, same_ch smc nc, ?_, ?_, upd_same, ?_, ?_, ?_⟩
              · rw [upd_ne (fun e => ncu e.symm)]
                exact s05 _ _ hu4
              · exact Paired.mapP (isos_same s05 pu4) fun _ _ h => chg h
              · exact Paired.snoc (Paired.mapP (isos_same s05 px4) fun _ _ h => chg h) (chg ⟨q5, rfl, h5⟩)
              · intro O hO
                rcases List.mem_append.mp hO with e | e
                · exact pmx O e
                · rw [List.mem_singleton.mp e]
                  exact perm_out nd zm pmU
              · rw [List.length_append, xl]
                rfl
            refine ⟨p0, tu, _, _, rfl, rfl, h0.sq, hU4.sq, (by rw [List.length_map]; exact Nat.le_of_lt (len_big (by simp; omega))), (fun e => by cases e), fun _ e => ?_, fun _ _ q5 o5 n5 d5 => ?_⟩
            · have eU : U = [] := List.map_eq_nil_iff.mp e
              subst eU
              exact done _ _ (fun _ _ e => e) h0
            · exact done _ _ (same_upd n5) (TF.new d5)
          · rw [hPw] at pw
            obtain ⟨v3', xs, Xs, rfl, sm4, hu4, pu4, hc4, px4, pmx, xl⟩ := pw
            rw [hPv]
            refine ⟨_, _, xs, Xs, rfl, sm4, hc4, px4, fun _ z => ?_, pmx, ?_⟩
            · rw [z] at xl
              have := List.length_pos_iff.mpr une
              simp at xl
              omega
            · rw [Nat.add_mul, Nat.one_mul]
              omega
        · rw [hPv] at pv
          obtain ⟨v2, v3, ws, Os, rfl, sm, hc, po, ne, pm, ol⟩ := pv
          walk_at "rd"
          rw [List.length_map] at ne ol
          refine ret ws Os c _ sm nc hc po (ne (List.length_pos_iff.mpr e0)) pm (Nat.le_trans ol ?_)
          exact Nat.mul_le_mul_right _ rl
end

/-! ### k35: _law_keeps, _law_leaves -/
abbrev sLkp : Stmt := topS 50
abbrev sLle : Stmt := topS 54
theorem gc_tupS {β : Type} {K : PySem.W.Frag} {a : Addr} {xs : List V} {i : Nat} {tt : TT} {te : TE} {σ : L2.St} {H1 : Hp} {Q : VK} (rel : Hp → V → β → Prop) (up : ∀ H H' v b, rel H v b → KT H H' → rel H' v b) (sel : Nat → Option β) (ha : ∀ H', Same H1 H' → SqT K H' a xs) (len : xs.length ≤ 100000)
    (step : ∀ (j : Nat) (x : V) (Hx : Hp) (A : VK) (B : Hp → Prop), xs[j]? = some x → Same H1 Hx → (∀ v b Hy, sel j = some b → Same Hx Hy → rel Hy v b → A v Hy) → (∀ Hy, sel j = none → Same Hx Hy → B Hy) → tt (σ.set i (some x)) Hx fun c H3 => if c = true then te (σ.set i (some x)) H3 A else B H3)
    (q : ∀ o ys H', Same H1 H' → H1 o = none → H' o = some (.lst ys) → Paired (rel H') ys ((List.range xs.length).filterMap sel) → Q (.ref o) H') :
    tLc (fun _ H R => R (Itt K a) H) (gName i) tt te [i] σ H1 Q := by
  intro D nD
  obtain ⟨Pv, hPv⟩ : ∃ Pv : Nat → Hp → Prop, Pv = (fun j Hx => ∃ ys, Same H1 Hx ∧ Hx D = some (.lst ys) ∧ Paired (rel Hx) ys ((List.range j).filterMap sel)) := ⟨_, rfl⟩
  refine lc_tup (K := K) (a := a) (xs := xs) Pv (by rw [hPv]; exact ⟨[], same_upd nD, upd_same, Paired.nil⟩) (fun j H' _ pv => by rw [hPv] at pv; obtain ⟨_, sm, _⟩ := pv; exact ha _ sm) (fun j x H' gx pv => ?_) (fun H' pv => ?_)
  · rw [hPv] at pv
    obtain ⟨ys, sm, hD, pr⟩ := pv
    have jl := (List.getElem?_eq_some_iff.mp gx).1
    have yl : ys.length ≤ j := by rw [pr.length]; exact fm_len sel j
    have ew : (wipe σ [i]).set i (some x) = σ.set i (some x) := by show (σ.set i none).set i (some x) = _; rw [List.set_set]
    show wipe ((wipe σ [i]).set i (some x)) [i] = wipe σ [i] ∧ tt ((wipe σ [i]).set i (some x)) H' fun c H3 => if c = true then te ((wipe σ [i]).set i (some x)) H3 _ else _
    rw [ew]
    refine ⟨by show (σ.set i (some x)).set i none = σ.set i none; rw [List.set_set], ?_⟩
    refine step j x H' _ _ gx sm (fun v b Hy es sy r => ?_) (fun Hy es sy => ?_)
    · have hD2 := sy _ _ hD
      refine ⟨ys, hD2, len_big (by omega), ?_⟩
      rw [hPv]
      refine ⟨ys ++ [v], same_ch (sm.trans sy) nD, upd_same, ?_⟩
      rw [fm_step, es]
      have kt : KT Hy (upd Hy D (HO.lst (ys ++ [v]))) := KT.lst hD2
      exact Paired.snoc (Paired.mapP pr fun v b h => up _ _ _ _ (up _ _ _ _ h (KT.same sy)) kt) (up _ _ _ _ r kt)
    · rw [hPv]
      refine ⟨ys, sm.trans sy, sy _ _ hD, ?_⟩
      rw [fm_step, es, List.append_nil]
      exact Paired.mapP pr fun v b h => up _ _ _ _ h (KT.same sy)
  · rw [hPv] at pv
    obtain ⟨ys, sm, hD, pr⟩ := pv
    exact q D ys H' sm nD hD pr
theorem lc_filtR {p : Int → Bool} {n i : Nat} {tt : TT} {σ : L2.St} {H1 : Hp} {Q : VK} (len : n ≤ 100000) (hi : i < σ.length)
    (step : ∀ (x : Int) (Hx : Hp) (B : Bool → Hp → Prop), x ∈ rg n → Same H1 Hx → B (p x) Hx → tt (σ.set i (some (.int x))) Hx B)
    (q : ∀ o H', Same H1 H' → H1 o = none → H' o = some (.lst (((rg n).filter p).map V.int)) → Q (.ref o) H') :
    tLc (fun _ H R => R (Itr 0 n) H) (gName i) tt (tVar i) [i] σ H1 Q := by
  refine gc_range IsI (fun _ _ _ _ h _ => h) (fun j => if p (j : Int) = true then some (j : Int) else none) len (fun j Hx A B jl sx hA hB => ?_) (fun o ys H' s no ho pr => ?_)
  · rw [Int.zero_add]
    refine step _ Hx _ (List.mem_map.mpr ⟨j, List.mem_range.mpr jl, rfl⟩) sx ?_
    by_cases c : p (j : Int) = true
    · rw [if_pos c]
      exact ⟨_, by rw [List.getElem?_set_self hi], hA _ _ Hx (if_pos c) (Same.refl _) rfl⟩
    · rw [if_neg c]
      exact hB Hx (if_neg c) (Same.refl _)
  · refine q o H' s no ?_
    have e := isI_map pr
    rw [fm_rg n (fun x => if p x = true then some x else none), fm_if] at e
    rw [e] at ho
    exact ho
def wD : Option Str → PyData
  | none => .none
  | some w => .str w
theorem eqv_w : ∀ o p : Option Str, PyData.eqv (wD o) (wD p) = true ↔ o = p
  | none, none => by simp [wD, PyData.eqv]
  | none, some _ => by simp [wD, PyData.eqv]
  | some _, none => by simp [wD, PyData.eqv]
  | some x, some y => by simp [wD, PyData.eqv]
theorem os_eqv : ∀ T U : List (Option Str), PyData.eqvAll (T.map wD) (U.map wD) = true ↔ T = U
  | [], [] => by simp [PyData.eqvAll]
  | [], _ :: _ => by simp [PyData.eqvAll]
  | _ :: _, [] => by simp [PyData.eqvAll]
  | x :: T, y :: U => by
    simp only [List.map_cons, PyData.eqvAll, Bool.and_eq_true, List.cons.injEq, os_eqv T U, eqv_w]
theorem os_lay : ∀ T : List (Option Str), (∀ z, some z ∈ T → PyData.strOk z = true) → PyData.canLayAll0 (T.map wD) = true
  | [], _ => rfl
  | o :: T, h => by
    have ih := os_lay T fun z hz => h z (List.mem_cons_of_mem _ hz)
    cases o with
    | none => simp only [List.map_cons, wD, PyData.canLayAll0, PyData.canLay0, ih, Bool.and_self]
    | some z => simp only [List.map_cons, wD, PyData.canLayAll0, PyData.canLay0, ih, h z List.mem_cons_self, Bool.and_self]
theorem os_dep : ∀ T : List (Option Str), PyData.depthAll (T.map wD) = 0
  | [] => rfl
  | o :: T => by cases o <;> simp only [List.map_cons, wD, PyData.depthAll, PyData.depth, os_dep T, Nat.max_self]
theorem os_dp {K : PySem.W.Frag} {H : Hp} : ∀ T : List (Option Str), DpAll K H (T.map optS) (T.map wD)
  | [] => .nil
  | none :: T => .cons .non (os_dp T)
  | some z :: T => .cons (.str z) (os_dp T)
theorem os_shaped {T : List (Option Str)} (h : ∀ z, some z ∈ T → PyData.strOk z = true) : SeqAt.shaped (.list (T.map wD)) = true := by
  unfold SeqAt.shaped
  rw [show (PyData.list (T.map wD)).canLay0 = PyData.canLayAll0 (T.map wD) from rfl, os_lay T h, Bool.true_and, decide_eq_true_iff, show (PyData.list (T.map wD)).depth = PyData.depthAll (T.map wD) + 1 from rfl, os_dep]
  decide
theorem os_eq {K : PySem.W.Frag} {H : Hp} {a b : Addr} {T U : List (Option Str)} {Q : VK} (ha : H a = some (.lst (T.map optS))) (hb : H b = some (.lst (U.map optS))) (hT : ∀ z, some z ∈ T → PyData.strOk z = true) (hU : ∀ z, some z ∈ U → PyData.strOk z = true) (q : Q (.bl (decide (T = U))) H) : rEqD K (.ref a) (.ref b) H Q := by
  refine ⟨.list (T.map wD), .list (U.map wD), .lst (SqL.of ha) (os_dp T), .lst (SqL.of hb) (os_dp U), os_shaped hT, os_shaped hU, ?_⟩
  have e : PyData.eqv (.list (T.map wD)) (.list (U.map wD)) = decide (T = U) := by
    rw [Bool.eq_iff_iff, decide_eq_true_iff]
    exact os_eqv T U
  rw [e]
  exact q
section
variable {P : Program} {w : World} {K : PySem.W.Frag} {mg : Str → Option Value} {base : Heap}
theorem scLkp : FnScope ["pairs", "order", "a", "b"] ["pairs", "order"] (defScope sLkp) := ⟨rfl, rfl, rfl, by decide +kernel, rfl, by decide +kernel, by decide +kernel⟩
def lkB (O : List Int) (ps : List Pr) : Bool := ps.all fun p => !decide (O.idxOf p.2 < O.idxOf p.1)
def spLkp : Sp := fun vs H Q _ => ∃ (l o : Addr) (O : List Int) (ws : List V) (E : List Pr), vs = [.ref l, .ref o] ∧ H l = some (.lst ws) ∧ PL H ws E ∧ TF H o (O.map V.int) ∧ (∀ p ∈ E, p.1 ∈ O ∧ p.2 ∈ O) ∧ Q (.bl (lkB O E)) H
theorem ok_lkp {f : Addr} {fd : FuncData} (F : Fun K "_law_keeps" "_law_keeps" sLkp f fd) : FnOk P w K mg base CX0 1 f fd ["pairs", "order"] spLkp := by
  refine F.ok scLkp (fun vs H Q E h => ?_) (fun cdv A0 outer s H vs Q E hr h => ?_)
  · obtain ⟨l, o, O, ws, E, rfl, _⟩ := h
    rfl
  · obtain ⟨l, o, O, ws, E, rfl, hl, pl, ho, hm, q⟩ := h
    refine ⟨_, (pss_cons (ps_for PassesOwn.never rfl (pi_list (pv 0)) (pg_tup rfl (pgs_cons (pg_name (i := 2) scLkp.nd rfl (Or.inl rfl)) (pgs_cons (pg_name (i := 3) scLkp.nd rfl (Or.inl rfl)) pgs_nil)))
      (pss_one (ps_if (PW.pt (pw_or (pt_cmpR op_notIn_seq (pv 2) (pv 1) (by rfl)) (pw_or (pt_cmpR op_notIn_seq (pv 3) (pv 1) (by rfl)) (pw_or1 (pt_cmpR op_gt (pe_idxF (pv 1) (pa_cons (pv 2) pa_nil)) (pe_idxF (pv 1) (pa_cons (pv 3) pa_nil)) (nomark _))))))
        (pss_one (ps_ret pe_bl))
        pss_nil)))
      (pss_one (ps_ret pe_bl))), ?_⟩
    walk_at "rd"
    obtain ⟨Pv, hPv⟩ : ∃ Pv : Nat → L2.St → Hp → Prop, Pv = (fun i σ H' => ∃ v2 v3 : Option V, σ = [some (.ref l), some (.ref o), v2, v3] ∧ H = H' ∧ lkB O (E.take i) = true) := ⟨_, rfl⟩
    refine for_iterW ?_
    walk_at "rd"
    refine ⟨⟨_, SqL.of hl⟩, for_list (xs := ws) Pv (by rw [hPv]; exact ⟨none, none, rfl, rfl, rfl⟩) (fun i σ H' _ pv => by rw [hPv] at pv; obtain ⟨_, _, _, rfl, _⟩ := pv; exact SqL.of hl) (fun i x σ H' gx pv => ?_) (fun σ H' pv => ?_)⟩
    · rw [hPv] at pv
      obtain ⟨v2, v3, rfl, rfl, ok⟩ := pv
      obtain ⟨d, gd, t, rfl, ht⟩ := pl.get gx
      have hin := hm d (List.mem_of_getElem? gd)
      walk_at "rd"
      refine ⟨_, SqT.of ht, rfl, _, _, rfl, _, _, rfl, rfl, ?_⟩
      refine ⟨o, O.map V.int, rfl, .inr ho.sq, rfl, flI O, ⟨_, rfl, ?_⟩⟩
      rw [if_neg (by rw [inI, decide_eq_true hin.1]; decide)]
      refine ⟨o, O.map V.int, rfl, .inr ho.sq, rfl, flI O, ⟨_, rfl, ?_⟩⟩
      rw [if_neg (by rw [inI, decide_eq_true hin.2]; decide)]
      unfold tIdxF
      walk_at "rd"
      refine ⟨⟨_, ho⟩, o, O, d.1, rfl, rfl, ho, hin.1, ⟨_, ho⟩, o, O, d.2, rfl, rfl, ho, hin.2, _, rfl, _, rfl, ?_⟩
      by_cases c : ((O.idxOf d.2 : Nat) : Int) < ((O.idxOf d.1 : Nat) : Int)
      · rw [if_pos c]
        have e : lkB O E = false := by
          unfold lkB
          rw [List.all_eq_false]
          exact ⟨d, List.mem_of_getElem? gd, by simp; omega⟩
        rw [e] at q
        exact q
      · rw [if_neg c, hPv]
        refine ⟨_, _, rfl, rfl, ?_⟩
        unfold lkB at ok ⊢
        rw [List.take_add_one, gd, List.all_append, ok]
        simp
        omega
    · rw [hPv] at pv
      obtain ⟨v2, v3, rfl, rfl, ok⟩ := pv
      rw [pl.len, List.take_length] at ok
      walk_at "rd"
      rw [ok] at q
      exact q
theorem wordP_wk {n : Nat} {L : List Cl} (ok : ∀ c ∈ L, wk n c.2) {R : List Int} {z : Str} (h : wordP L R = some z) : wk n z := by
  unfold wordP at h
  cases e : lastIn R L with
  | none => rw [e] at h; cases h
  | some c =>
    rw [e] at h
    have e2 : c.2 = z := Option.some.inj h
    unfold lastIn at e
    rw [← e2]
    exact ok c (List.mem_reverse.mp (List.mem_of_find?_eq_some e))
theorem paired_map {α β : Type} {f : β → α} : ∀ {xs : List α} {ys : List β}, Paired (fun v b => v = f b) xs ys → xs = ys.map f
  | _, _, .nil => rfl
  | _, _, .cons r t => by rw [List.map_cons, ← r, ← paired_map t]
/-- the log of an order of called rooms -/
def ordL (L : List Cl) (O : List Int) : List Cl := O.map fun x => (x, (wordP L [x]).getD (Str.ofString ""))
theorem scLle : FnScope ["parts", "heard", "words", "order", "log", "r", "room", "part"] ["parts", "heard", "words", "order"] (defScope sLle) := ⟨rfl, rfl, rfl, by decide +kernel, rfl, by decide +kernel, by decide +kernel⟩
def spLle (K : PySem.W.Frag) : Sp := fun vs H Q _ => ∃ (a b c o : Addr) (us : List V) (r : Nat) (L : List Cl) (O : List Int) (Ps : List (List Int)), vs = [.ref a, .ref b, .ref c, .ref o] ∧ H a = some (.lst us) ∧ RL H us Ps ∧ H b = some (.lst ((Ps.map (wordP L)).map optS)) ∧ H c = some (.lst ((rg r).map fun x => optS (wordP L [x]))) ∧ TF H o (O.map V.int) ∧ O.length ≤ 60 ∧ r ≤ 12 ∧ Ps.length ≤ 100 ∧ (∀ c ∈ L, wk 17 c.2) ∧
  ∀ k H', Same H H' → (k = true ↔ O.Perm (cldF r L) ∧ ∀ P ∈ Ps, wordP (ordL L O) P = wordP L P) → Q (.bl k) H'
theorem ok_lle {f f1 : Addr} {fd fd1 : FuncData} (F : Fun K "_law_leaves" "_law_leaves" sLle f fd) (T : Bi mg) (d__law_word_of : Df P w K mg base "_law_word_of" ["log", "rooms"] 1 (spTopR K optW) f1 fd1) : FnOk P w K mg base CX0 2 f fd ["parts", "heard", "words", "order"] (spLle K) := by
  refine F.ok scLle (fun vs H Q E h => ?_) (fun cdv A0 outer s H vs Q E hr h => ?_)
  · obtain ⟨a, b, c, o, us, r, L, O, Ps, rfl, _⟩ := h
    rfl
  · obtain ⟨a, b, c, o, us, r, L, O, Ps, rfl, ha, rl, hb, hc, ho, ol, r12, pl, kL, ret⟩ := h
    refine ⟨_, (pss_cons (ps_if (pt_cmpR (op_neD hr.units) (pe_callB cr_sortTup (by rfl) T.sorted (by decide +kernel) (pa_cons (pv 3) pa_nil)) (pe_lc (own := [("r", 5)]) (tt := tTest (tOp (fun x y H Q => y = V.non ∧ Q (V.bl !decide (x = V.non)) H) (tOp (rIxL K) (tVar 2) (tVar 5)) (tC V.non))) (by rfl) scLle.nd (pi_range1 (by rfl) T.range (pa_cons (pe_callB call_len_seq (by rfl) T.len (by decide +kernel) (pa_cons (pv 2) pa_nil)) pa_nil)) (blkOk_by (N := ["parts", "heard", "words", "order", "log", "r", "room", "part"]) (sc := defScope sLle) (by decide +kernel)) (fun _ _ _ _ _ => pg_name (i := 5) scLle.nd rfl (Or.inl rfl)) (fun _ _ _ _ _ => (pts_one (pt_cmpR op_notN (pe_ix ix_list (pv 2) (pv 5) (fun _ _ => rfl)) pe_non (nomark _)))) (fun _ _ _ _ _ => (pv 5))) (nomark _))
      (pss_one (ps_ret pe_bl))
      pss_nil)
      (pss_cons (ps_set (i := 4) scLle.nd rfl (Or.inr rfl) (pe_lc (own := [("room", 6)]) (te := tTup (tCons (tVar 6) (tCons (tOp (rIxL K) (tVar 2) (tVar 6)) tNil))) (by rfl) scLle.nd (pi_tup (pv 3)) (blkOk_by (N := ["parts", "heard", "words", "order", "log", "r", "room", "part"]) (sc := defScope sLle) (by decide +kernel)) (fun _ _ _ _ _ => pg_name (i := 6) scLle.nd rfl (Or.inl rfl)) (fun _ _ _ _ _ => pts_nil) (fun _ _ _ _ _ => (pe_tup (pa_cons (pv 6) (pa_cons (pe_ix ix_list (pv 2) (pv 6) (fun _ _ => rfl)) pa_nil))))))
      (pss_one (ps_ret (pe_cmpR (op_eqD hr.units) (pe_lc (own := [("part", 7)]) (by rfl) scLle.nd (pi_list (pv 0)) (blkOk_by (N := ["parts", "heard", "words", "order", "log", "r", "room", "part"]) (sc := defScope sLle) (by decide +kernel)) (fun _ _ _ _ _ => pg_name (i := 7) scLle.nd rfl (Or.inl rfl)) (fun _ _ _ _ _ => pts_nil) (fun _ _ _ _ _ => (pe_call d__law_word_of.ok (hr.mono (by decide)) (by rfl) d__law_word_of.at_ d__law_word_of.kp d__law_word_of.b .nil pass0 (pa_cons (pv 4) (pa_cons (pv 7) pa_nil))))) (pv 1) (nomark _)))))), ?_⟩
    walk_at "rd"
    refine ⟨o, O, rfl, .inr ho.sq, by omega, fun S t1 pm so n1 => ?_⟩
    have s1 := same_upd (o := HO.lst (S.map V.int)) n1
    have h1 := upd_same (H := H) (a := t1) (o := HO.lst (S.map V.int))
    generalize upd H t1 (HO.lst (S.map V.int)) = H1 at s1 h1 ⊢
    refine lcW ?_
    walk_at "rd"
    have hc1 := s1 _ _ hc
    have at_ : ∀ x ∈ rg r, ∃ j : Nat, x = (j : Int) ∧ ((rg r).map fun x => optS (wordP L [x]))[j]? = some (optS (wordP L [x])) := fun x hx => by
      obtain ⟨j, hj, rfl⟩ := List.mem_map.mp hx
      refine ⟨j, rfl, ?_⟩
      unfold rg
      rw [List.getElem?_map, List.getElem?_map, List.getElem?_range (List.mem_range.mp hj)]
      rfl
    refine ⟨_, .inl (SqL.of hc1), ?_⟩
    rw [List.length_map, rg_len]
    refine ⟨by omega, by omega, ?_⟩
    rw [Int.toNat_natCast]
    refine lc_filtR (p := fun x => (wordP L [x]).isSome) (by omega) (by simp) (fun x Hx B xm sx hB => ?_) fun t2 H2 s2 n2 h2 => ?_
    · obtain ⟨j, rfl, hj⟩ := at_ x xm
      walk_at "rd"
      refine ⟨_, SqL.of (sx _ _ hc1), _, atI_nat hj, ?_⟩
      have e : (!decide (optS (wordP L [(j : Int)]) = V.non)) = (wordP L [(j : Int)]).isSome := by cases wordP L [(j : Int)] <;> rfl
      rw [e]
      exact hB
    have s12 := s1.trans s2
    refine ni_ne (s2 _ _ h1) h2 ⟨_, rfl, ?_⟩
    rw [show (rg r).filter (fun x => (wordP L [x]).isSome) = cldF r L from rfl]
    have key : S = cldF r L ↔ O.Perm (cldF r L) := ⟨fun z => z ▸ pm.symm, fun z => perm_up (pm.trans z) so (List.Pairwise.imp (fun {a b} (h : a < b) => Int.le_of_lt h) (cld_up r L))⟩
    by_cases e0 : S = cldF r L
    rotate_left
    · rw [decide_eq_false e0, if_pos (by decide)]
      exact ret false _ s12 ⟨fun z => (nomatch z), fun z => absurd (key.mpr z.1) e0⟩
    rw [decide_eq_true e0, if_neg (by decide)]
    have hp := key.mp e0
    have ho2 := ho.same s12
    have wd : ∀ x ∈ O, ∃ z, wordP L [x] = some z ∧ x ∈ rg r := fun x hx => by
      have := cld_mem.mp (hp.mem_iff.mp hx)
      cases e : wordP L [x] with
      | none => exact absurd e this.2
      | some z => exact ⟨z, rfl, this.1⟩
    refine lcW ?_
    walk_at "rd"
    refine ⟨_, rfl, o, rfl, ⟨_, ho2.sq⟩, gc_tupS IsC (fun H H' v b h k => by obtain ⟨t, e, h⟩ := h; exact ⟨t, e, k _ _ h⟩) (fun j => O[j]?.bind fun x => some (x, (wordP L [x]).getD (Str.ofString ""))) (fun H' sm => (ho2.same sm).sq) (by rw [List.length_map]; omega) (fun j x Hy A B gx sy hA hB => ?_) fun g gs H3 s3 n3 h3 pg => ?_⟩
    · rw [List.getElem?_map] at gx
      cases e : O[j]? with
      | none => rw [e] at gx; cases gx
      | some z =>
        rw [e] at gx hA
        have ex : x = V.int z := (Option.some.inj gx).symm
        subst ex
        obtain ⟨wz, ew, zr⟩ := wd z (List.mem_of_getElem? e)
        obtain ⟨i, rfl, hi⟩ := at_ z zr
        walk_at "rd"
        rw [if_pos trivial]
        refine ⟨_, SqL.of ((s12.trans sy) _ _ hc), _, atI_nat hi, by decide, fun p0 np0 => hA _ _ _ rfl (same_upd np0) ⟨p0, rfl, ?_⟩⟩
        rw [upd_same, ew]
        rfl
    · have e3 : (List.range (O.map V.int).length).filterMap (fun j => O[j]?.bind fun x => some ((x, (wordP L [x]).getD (Str.ofString "")) : Cl)) = ordL L O := by
        rw [List.length_map, fm_range (L := O) (fun x => some ((x, (wordP L [x]).getD (Str.ofString "")) : Cl))]
        unfold ordL
        show List.filterMap (some ∘ fun x => ((x, (wordP L [x]).getD (Str.ofString "")) : Cl)) O = _
        rw [List.filterMap_eq_map]
      rw [e3] at pg
      have s13 := s12.trans s3
      refine lcW ?_
      walk_at "rd"
      have rl3 : RL H3 us Ps := rl.kt (KT.same s13)
      refine ⟨⟨_, SqL.of (s13 _ _ ha)⟩, gc_list (fun _ v b => v = optS b) (fun _ _ _ _ h _ => h) (fun j => Ps[j]?.bind fun P => some (wordP (ordL L O) P)) (s13 _ _ ha) (by rw [rl3.length]; omega) (fun j x Hy A B gx sy hA hB => ?_) fun t4 ys H4 s4 n4 h4 p4 => ?_⟩
      · obtain ⟨P, gP, tp, rfl, htp⟩ := pget rl3 gx
        rw [gP] at hA
        walk_at "rd"
        rw [if_pos trivial]
        refine ⟨g, tp, gs, ordL L O, P, rfl, sy _ _ h3, (show LG H3 gs (ordL L O) from pg).kt (KT.same sy), .inr (SqT.of (sy _ _ htp)), hA _ _ _ rfl (Same.refl _) ?_⟩
        unfold wordP
        cases lastIn P (ordL L O) <;> rfl
      · have e4 : (List.range us.length).filterMap (fun j => Ps[j]?.bind fun P => some (wordP (ordL L O) P)) = Ps.map (wordP (ordL L O)) := by
          rw [rl3.length, fm_range (L := Ps) (fun P => some (wordP (ordL L O) P))]
          show List.filterMap (some ∘ wordP (ordL L O)) Ps = _
          rw [List.filterMap_eq_map]
        rw [e4] at p4
        have ey : ys = (Ps.map (wordP (ordL L O))).map optS := paired_map p4
        rw [ey] at h4
        have s14 := s13.trans s4
        have kO : ∀ c ∈ ordL L O, wk 17 c.2 := fun c hc => by
          obtain ⟨x, hx, rfl⟩ := List.mem_map.mp hc
          obtain ⟨z, ez, _⟩ := wd x hx
          show wk 17 ((wordP L [x]).getD _)
          rw [ez]
          exact wordP_wk kL ez
        refine os_eq h4 (s14 _ _ hb) (fun z hz => ?_) (fun z hz => ?_) (ret _ H4 s14 ?_)
        · obtain ⟨P, _, e⟩ := List.mem_map.mp hz
          exact (wordP_wk kO e).2
        · obtain ⟨P, _, e⟩ := List.mem_map.mp hz
          exact (wordP_wk kL e).2
        · rw [decide_eq_true_iff]
          constructor
          · intro h
            exact ⟨hp, fun P hP => List.map_inj_left.mp h P hP⟩
          · rintro ⟨_, h⟩
            exact List.map_inj_left.mpr h
end

/-! ### k35: _law_wrong -/
abbrev sLwg : Stmt := topS 55
theorem catF_ok {K : PySem.W.Frag} {H : Hp} {a b : Addr} {xs ys : List Int} {Q : VK} (ha : TF H a (xs.map V.int)) (hb : TF H b (ys.map V.int)) (len : xs.length + ys.length ≤ 1000) (q : ∀ (t2 : Addr) (H' : Hp), Same H H' → TF H' t2 ((xs ++ ys).map V.int) → Q (.ref t2) H') : rCatF K (.ref a) (.ref b) H Q := by
  refine ⟨a, b, _, _, rfl, rfl, ha.sq, hb.sq, by rw [List.length_map, List.length_map]; exact Nat.le_of_lt (len_big (by omega)), fun e => q b H (Same.refl _) ?_, fun _ e => q a H (Same.refl _) ?_, fun _ _ p o np d => q p _ (same_upd np) ?_⟩
  · rw [List.map_eq_nil_iff.mp e]
    exact hb
  · rw [List.map_eq_nil_iff.mp e, List.append_nil]
    exact ha
  · rw [List.map_append]
    exact TF.new d
theorem slF_ok {K : PySem.W.Frag} {H : Hp} {t : Addr} {O : List Int} {lo hi : Option Int} {Q : VK} (ht : TF H t (O.map V.int)) (q : ∀ (t2 : Addr) (H' : Hp) (O' : List Int), Same H H' → O'.length ≤ O.length → TF H' t2 (O'.map V.int) → Q (.ref t2) H') : rSlF K (.ref t) lo hi H Q := by
  refine ⟨t, _, rfl, ht.sq, fun _ => q t H O (Same.refl _) (Nat.le_refl _) ht, fun _ p o np d => ?_⟩
  have e : cutV (O.map V.int) lo hi = ((O.drop (HT.sIx O.length 0 lo)).take (HT.sIx O.length O.length hi - HT.sIx O.length 0 lo)).map V.int := by
    unfold cutV
    rw [List.length_map, List.map_take, List.map_drop]
  rw [e]
  refine q p _ _ (same_upd np) ?_ (TF.new d)
  rw [List.length_take, List.length_drop]
  omega
section
variable {P : Program} {w : World} {K : PySem.W.Frag} {mg : Str → Option Value} {base : Heap}
theorem scLwg : FnScope ["order", "rooms", "number", "room", "place", "wrong", "extra"] ["order", "rooms", "number"] (defScope sLwg) := ⟨rfl, rfl, rfl, by decide +kernel, rfl, by decide +kernel, by decide +kernel⟩
def spLwg : Sp := fun vs H Q _ => ∃ (o : Addr) (r : Nat) (x : Int) (O : List Int), vs = [.ref o, .int r, .int x] ∧ TF H o (O.map V.int) ∧ O.length ≤ 20 ∧ 1 ≤ r ∧
  ∀ ws Os p H', Same H H' → H p = none → H' p = some (.lst ws) → Paired (IsO H') ws Os → (∀ U ∈ Os, U.length ≤ 60) → Os.length ≤ 20 → Q (.ref p) H'
theorem ok_lwg {f : Addr} {fd : FuncData} (F : Fun K "_law_wrong" "_law_wrong" sLwg f fd) (T : Bi mg) : FnOk P w K mg base CX0 1 f fd ["order", "rooms", "number"] spLwg := by
  refine F.ok scLwg (fun vs H Q E h => ?_) (fun cdv A0 outer s H vs Q E hr h => ?_)
  · obtain ⟨o, r, x, O, rfl, _⟩ := h
    rfl
  · obtain ⟨o, r, x, O, rfl, ho, ol, r1, ret⟩ := h
    refine ⟨_, (pss_cons (ps_set (i := 3) scLwg.nd rfl (Or.inl rfl) (pe_op op_mod (pe_callTy cr_intI (by rfl) T.int (by decide +kernel) (pa_cons (pv 2) pa_nil)) (pv 1)))
      (pss_cons (ps_set (i := 4) scLwg.nd rfl (Or.inl rfl) (pe_op op_mod (pe_op op_fdiv (pe_callTy cr_intI (by rfl) T.int (by decide +kernel) (pa_cons (pv 2) pa_nil)) pe_int) (pe_op op_add (pe_callB call_len_seq (by rfl) T.len (by decide +kernel) (pa_cons (pv 0) pa_nil)) pe_int)))
      (pss_cons (ps_set (i := 5) scLwg.nd rfl (Or.inl rfl) (pe_lst (pa_cons (pe_op op_catF (pe_slice sl_tupF (pv 0) po_none (po_some (pv 4))) (pe_slice sl_tupF (pv 0) (po_some (pe_op op_add (pv 4) pe_int)) po_none)) (pa_cons (pe_op op_catF (pe_slice sl_tupF (pv 0) po_none (po_some pe_int)) (pv 0)) (pa_cons (pe_op op_catF (pv 0) (pe_slice sl_tupF (pv 0) po_none (po_some pe_int))) pa_nil)))))
      (pss_cons (ps_for PassesOwn.never rfl (pi_list (pe_lst (pa_cons (pv 3) (pa_cons (pv 1) (pa_cons (pe_un un_neg pe_int) (pa_cons (pe_op op_pow pe_int pe_int) pa_nil)))))) (pg_name (i := 6) scLwg.nd rfl (Or.inl rfl))
      (pss_cons (ps_expr (pe_bm PySem.F.plainAttrs_list PySem.F.slot_list_append PySem.F.type_list_append mt_append (pv 5) (pa_cons (pe_op op_catF (pe_op op_catF (pe_slice sl_tupF (pv 0) po_none (po_some (pv 4))) (pe_tupF (pa_cons (pv 6) pa_nil))) (pe_slice sl_tupF (pv 0) (po_some (pv 4)) po_none)) pa_nil)))
        (pss_one (ps_expr (pe_bm PySem.F.plainAttrs_list PySem.F.slot_list_append PySem.F.type_list_append mt_append (pv 5) (pa_cons (pe_op op_catF (pe_op op_catF (pe_slice sl_tupF (pv 0) po_none (po_some (pv 4))) (pe_tupF (pa_cons (pv 6) pa_nil))) (pe_slice sl_tupF (pv 0) (po_some (pe_op op_add (pv 4) pe_int)) po_none)) pa_nil))))))
      (pss_one (ps_ret (pe_op op_cat (pv 5) (pe_lst (pa_cons (pe_tupF pa_nil) pa_nil))))))))), ?_⟩
    refine sq2 fun N hN => ?_
    walk_at "rd"
    refine ⟨by omega, ⟨by decide, by decide⟩, _, .inr ho.sq, by omega, ?_⟩
    refine hN _ _ ?_
    clear hN N
    generalize x % (r : Int) = rm
    generalize x / 5 % (((O.map V.int).length : Nat) + 1 : Int) = pl
    refine sq1 fun N hN => ?_
    walk_at "rd"
    refine slF_ok ho fun t1 H1 O1 s1 l1 h1 => ?_
    have ho1 := ho.same s1
    refine slF_ok ho1 fun t2 H2 O2 s2 l2 h2 => ?_
    refine catF_ok (h1.same s2) h2 (by omega) fun u1 H3 s3 k1 => ?_
    have s13 := (s1.trans s2).trans s3
    refine slF_ok (ho.same s13) fun t3 H4 O3 s4 l3 h3 => ?_
    have s14 := s13.trans s4
    refine catF_ok h3 (ho.same s14) (by omega) fun u2 H5 s5 k2 => ?_
    have s15 := s14.trans s5
    refine slF_ok (ho.same s15) fun t4 H6 O4 s6 l4 h4 => ?_
    have s16 := s15.trans s6
    refine catF_ok (ho.same s16) h4 (by omega) fun u3 H7 s7 k3 => ?_
    have s17 := s16.trans s7
    refine ⟨by decide, fun c nc => hN _ _ ?_⟩
    clear hN N
    have n0 := sm_none s17 nc
    have w1 := same_upd (o := HO.lst [V.ref u1, V.ref u2, V.ref u3]) nc
    have sc := s17.trans w1
    have hc := upd_same (H := H7) (a := c) (o := HO.lst [V.ref u1, V.ref u2, V.ref u3])
    have po : Paired (IsO (upd H7 c (HO.lst [V.ref u1, V.ref u2, V.ref u3]))) [V.ref u1, V.ref u2, V.ref u3] [O1 ++ O2, O3 ++ O, O ++ O4] := .cons ⟨u1, rfl, k1.same (((s4.trans s5).trans s6).trans (s7.trans w1))⟩ (.cons ⟨u2, rfl, k2.same (s6.trans (s7.trans w1))⟩ (.cons ⟨u3, rfl, k3.same w1⟩ .nil))
    have lo : ∀ U ∈ [O1 ++ O2, O3 ++ O, O ++ O4], U.length ≤ 60 := fun U hU => by
      simp only [List.mem_cons, List.not_mem_nil, or_false] at hU
      rcases hU with rfl | rfl | rfl <;> rw [List.length_append] <;> omega
    generalize upd H7 c (HO.lst [V.ref u1, V.ref u2, V.ref u3]) = H8 at sc hc po
    refine sq1 fun N hN => ?_
    refine for_iterW ?_
    walk_at "rd"
    refine ⟨⟨by decide, by decide⟩, by decide, fun d nd => ?_⟩
    have sd := same_upd (o := HO.lst [V.int rm, V.int (r : Int), V.int (-1), V.int (10 ^ Int.toNat 30)]) nd
    have hd := upd_same (H := H8) (a := d) (o := HO.lst [V.int rm, V.int (r : Int), V.int (-1), V.int (10 ^ Int.toNat 30)])
    generalize upd H8 d (HO.lst [V.int rm, V.int (r : Int), V.int (-1), V.int (10 ^ Int.toNat 30)]) = H9 at sd hd ⊢
    obtain ⟨ex, hex⟩ : ∃ ex : List V, ex = [V.int rm, V.int (r : Int), V.int (-1), V.int (10 ^ Int.toNat 30)] := ⟨_, rfl⟩
    have exi : ∀ v ∈ ex, ∃ z, v = V.int z := fun v hv => by
      rw [hex] at hv
      simp only [List.mem_cons, List.not_mem_nil, or_false] at hv
      rcases hv with h | h | h | h <;> exact ⟨_, h⟩
    have exl : ex.length = 4 := by rw [hex]; rfl
    rw [← hex] at hd
    obtain ⟨Pv, hPv⟩ : ∃ Pv : Nat → L2.St → Hp → Prop, Pv = (fun i σ H' => ∃ (v6 : Option V) (ws : List V) (Os : List (List Int)), σ = [some (.ref o), some (.int r), some (.int x), some (.int rm), some (.int pl), some (.ref c), v6] ∧ Same H H' ∧ H' c = some (.lst ws) ∧ H' d = some (.lst ex) ∧ Paired (IsO H') ws Os ∧ (∀ U ∈ Os, U.length ≤ 60) ∧ Os.length = 3 + 2 * i) := ⟨_, rfl⟩
    have ncd : c ≠ d := ne_of_none hc nd
    have app : ∀ {H' : Hp} {ws : List V} {Os : List (List Int)} {q5 : Addr} {U : List Int}, Same H H' → H' c = some (.lst ws) → H' d = some (.lst ex) → Paired (IsO H') ws Os → TF H' q5 (U.map V.int) → Same H (upd H' c (HO.lst (ws ++ [V.ref q5]))) ∧ upd H' c (HO.lst (ws ++ [V.ref q5])) c = some (HO.lst (ws ++ [V.ref q5])) ∧ upd H' c (HO.lst (ws ++ [V.ref q5])) d = some (.lst ex) ∧ Paired (IsO (upd H' c (HO.lst (ws ++ [V.ref q5])))) (ws ++ [V.ref q5]) (Os ++ [U]) ∧ ∀ O, TF H' o O → TF (upd H' c (HO.lst (ws ++ [V.ref q5]))) o O := fun {H' ws Os q5 U} sm hc5 hd5 po h5 => by
      have tf : ∀ {t : Addr} {O : List V}, TF H' t O → TF (upd H' c (HO.lst (ws ++ [V.ref q5]))) t O := fun {t O} h => by
        obtain ⟨ob, d, e2⟩ := h
        refine ⟨ob, d, ?_⟩
        rw [upd_ne (fun e3 => by rw [e3, hc5] at e2; cases e2)]
        exact e2
      have chg : ∀ {v : V} {O : List Int}, IsO H' v O → IsO (upd H' c (HO.lst (ws ++ [V.ref q5]))) v O := fun {v O} h => by
        obtain ⟨t, e, h⟩ := h
        exact ⟨t, e, tf h⟩
      refine ⟨same_ch sm n0, upd_same, ?_, Paired.snoc (Paired.mapP po fun _ _ h => chg h) (chg ⟨q5, rfl, h5⟩), fun O h => tf h⟩
      rw [upd_ne (fun e => ncd e.symm)]
      exact hd5
    refine ⟨⟨_, SqL.of hd⟩, for_list (xs := ex) Pv (by rw [hPv]; exact ⟨none, _, _, rfl, sc.trans sd, sd _ _ hc, hd, isos_same sd po, lo, rfl⟩) (fun i σ H' _ pv => by rw [hPv] at pv; obtain ⟨_, _, _, _, _, _, hd, _⟩ := pv; exact SqL.of hd) (fun i v σ H' gx pv => ?_) (fun σ H' pv => ?_)⟩
    · rw [hPv] at pv
      obtain ⟨v6, ws, Os, rfl, sm, hcx, hdx, px, lx, olx⟩ := pv
      obtain ⟨z, rfl⟩ := exi v (List.mem_of_getElem? gx)
      have il : i < 4 := by rw [← exl]; exact (List.getElem?_eq_some_iff.mp gx).1
      have wl : ws.length = Os.length := px.length
      unfold tTupF
      walk_at "rd"
      have piece : ∀ {G : Hp} {lo : Option Int} {R : VK}, Same H G → (∀ (q5 : Addr) (G' : Hp) (U : List Int), Same G G' → U.length ≤ 60 → TF G' q5 (U.map V.int) → R (.ref q5) G') → rSlF K (V.ref o) none (some pl) G fun x_1 H1 => 1 ≤ sizeLine ∧ ∀ (p : Addr) (o_1 : Obj), H1 p = none → o_1.dict = none → rCatF K x_1 (V.ref p) (upd H1 p (.frz o_1 (.tup [V.int z]))) fun x_2 H1 => rSlF K (V.ref o) lo none H1 fun y H2 => rCatF K x_2 y H2 R := fun {G lo R} sg q => by
        refine slF_ok (ho.same sg) fun a1 G1 U1 g1 m1 f1 => ⟨by decide, fun a2 o2 na2 d2 => ?_⟩
        have g2 := same_upd (o := HO.frz o2 (.tup [V.int z])) na2
        refine catF_ok (xs := U1) (ys := [z]) (f1.same g2) (TF.new d2) (by simp; omega) fun a3 G3 g3 f3 => ?_
        have g13 := (g1.trans g2).trans g3
        refine slF_ok (ho.same (sg.trans g13)) fun a4 G4 U4 g4 m4 f4 => ?_
        refine catF_ok (f3.same g4) f4 (by rw [List.length_append]; simp; omega) fun a5 G5 g5 f5 => ?_
        refine q a5 G5 _ ((g13.trans g4).trans g5) ?_ f5
        rw [List.length_append, List.length_append]
        simp
        omega
      refine ⟨.inl ⟨rfl, _, SqL.of hcx⟩, piece sm fun q5 G5 U5 g5 b5 f5 => ?_⟩
      have hc5 := g5 _ _ hcx
      have hd5 := g5 _ _ hdx
      obtain ⟨s6, hc6, hd6, p6, _⟩ := app (sm.trans g5) hc5 hd5 (isos_same g5 px) f5
      refine ⟨ws, hc5, len_big (by omega), .inl ⟨rfl, _, SqL.of upd_same⟩, piece s6 fun q7 G7 U7 g7 b7 f7 => ?_⟩
      have hc7 := g7 _ _ hc6
      have hd7 := g7 _ _ hd6
      obtain ⟨s8, hc8, hd8, p8, _⟩ := app (s6.trans g7) hc7 hd7 (isos_same g7 p6) f7
      refine ⟨_, hc7, len_big (by rw [List.length_append]; simp; omega), ?_⟩
      rw [hPv]
      refine ⟨_, _, _, rfl, s8, hc8, hd8, p8, fun U hU => ?_, ?_⟩
      · rcases List.mem_append.mp hU with e | e
        · rcases List.mem_append.mp e with e | e
          · exact lx U e
          · rw [List.mem_singleton.mp e]; exact b5
        · rw [List.mem_singleton.mp e]; exact b7
      · rw [List.length_append, List.length_append, olx]
        show 3 + 2 * i + 1 + 1 = 3 + 2 * (i + 1)
        omega
    · rw [hPv] at pv
      obtain ⟨v6, ws, Os, rfl, sm, hcx, hdx, px, lx, olx⟩ := pv
      have wl : ws.length = Os.length := px.length
      refine hN _ _ ?_
      unfold tTupF
      walk_at "rd"
      refine ⟨Nat.zero_le _, fun p o9 np d9 => ⟨by decide, fun p1 np1 => ?_⟩⟩
      have g1 := same_upd (o := HO.frz o9 (.tup [])) np
      have g2 := same_upd (o := HO.lst [V.ref p]) np1
      have s9 := (sm.trans g1).trans g2
      have hc9 := (g1.trans g2) _ _ hcx
      refine ⟨c, p1, _, _, rfl, rfl, hc9, upd_same, Nat.le_of_lt (len_big (by rw [exl] at olx; simp; omega)), fun p2 np2 => ?_⟩
      have g3 := same_upd (o := HO.lst (ws ++ [V.ref p])) np2
      have s10 := s9.trans g3
      refine ret (ws ++ [V.ref p]) (Os ++ [[]]) p2 _ s10 (sm_none s9 np2) upd_same (Paired.snoc (isos_same ((g1.trans g2).trans g3) px) ⟨p, rfl, (TF.new (xs := []) d9).same (g2.trans g3)⟩) (fun U hU => ?_) (by rw [List.length_append, olx, exl]; simp)
      rcases List.mem_append.mp hU with e | e
      · exact lx U e
      · rw [List.mem_singleton.mp e]; exact Nat.zero_le _
end

/-! ### an order keeps a form exactly if its log leaves every part its word -/
theorem lastF_subK : ∀ L : List Cl, ∀ c ∈ lastF L, c ∈ L := by
  intro L
  induction L with
  | nil => intro c hc; cases hc
  | cons d L ih =>
    intro c hc
    by_cases m : d.1 ∈ L.map (·.1)
    · have e : lastF (d :: L) = lastF L := if_pos m
      rw [e] at hc
      exact List.mem_cons_of_mem _ (ih c hc)
    · have e : lastF (d :: L) = d :: lastF L := if_neg m
      rw [e] at hc
      rcases List.mem_cons.mp hc with z | z
      · rw [z]; exact List.mem_cons_self
      · exact List.mem_cons_of_mem _ (ih c z)
theorem lastF_ndK : ∀ L : List Cl, ((lastF L).map (·.1)).Nodup := by
  intro L
  induction L with
  | nil => exact List.nodup_nil
  | cons d L ih =>
    by_cases m : d.1 ∈ L.map (·.1)
    · have e : lastF (d :: L) = lastF L := if_pos m
      rw [e]
      exact ih
    · have e : lastF (d :: L) = d :: lastF L := if_neg m
      rw [e, List.map_cons]
      refine List.nodup_cons.mpr ⟨fun z => m ?_, ih⟩
      obtain ⟨c, hc, ec⟩ := List.mem_map.mp z
      exact List.mem_map.mpr ⟨c, lastF_subK L c hc, ec⟩
theorem rg_mem2 {r : Nat} {x : Int} (h : x ∈ rg r) : 0 ≤ x ∧ x < (r : Int) := by
  obtain ⟨j, hj, rfl⟩ := List.mem_map.mp h
  have := List.mem_range.mp hj
  show 0 ≤ ((j : Nat) : Int) ∧ ((j : Nat) : Int) < (r : Int)
  omega
theorem ip_of {D : List Pr} {r : Nat} {Q : List Int} (h : Part D Q) (b : ∀ x ∈ Q, x ∈ rg r) : IsPart D r Q := by
  obtain ⟨h1, s, hs, hr⟩ := h
  have ne : Q ≠ [] := fun z => by rw [z] at hs; cases hs
  refine ⟨ne, h1, fun x hx => rg_mem2 (b x hx), fun x hx => ?_⟩
  have hd : hdI Q ∈ Q := by
    cases Q with
    | nil => exact absurd rfl ne
    | cons y ys => exact hdI_mem (List.mem_cons_self (a := y))
  exact (hr _ hd).symm.trans (hr x hx)
theorem ip_part {D : List Pr} {r : Nat} {ys : List Int} (h : IsPart D r ys) : Part D ys ∧ ∀ x ∈ ys, x ∈ rg r := by
  obtain ⟨h1, h2, h3, h4⟩ := h
  refine ⟨⟨h2, hdI ys, ?_, h4⟩, fun x hx => List.mem_map.mpr ⟨x.toNat, List.mem_range.mpr (by have := h3 x hx; omega), by have := h3 x hx; show ((x.toNat : Nat) : Int) = x; omega⟩⟩
  cases ys with
  | nil => exact absurd rfl h1
  | cons x ys => exact hdI_mem (List.mem_cons_self (a := x))
theorem ord_log {r : Nat} {L : List Cl} {O : List Int} (p : O.Perm (cldF r L)) : OrdLog L (ordL L O) O := by
  refine ⟨?_, p.nodup_iff.mpr (up_nd (cld_up r L)), fun c hc => ?_⟩
  · unfold ordL
    rw [List.map_map]
    show O.map (fun x => x) = O
    exact List.map_id _
  · obtain ⟨x, hx, rfl⟩ := List.mem_map.mp hc
    have := (cld_mem.mp (p.mem_iff.mp hx)).2
    show wordP L [x] = some ((wordP L [x]).getD _)
    cases e : wordP L [x] with
    | none => exact absurd e this
    | some z => rfl
theorem idx_get {O : List Int} {z : Int} (h : z ∈ O) : O[O.idxOf z]? = some z := by
  have hi := List.idxOf_lt_length_of_mem h
  rw [List.getElem?_eq_getElem hi, List.getElem_idxOf hi]
theorem bef_idx {O : List Int} (nd : O.Nodup) {a b : Int} (ha : a ∈ O) (hb : b ∈ O) : Bef O a b ↔ O.idxOf a < O.idxOf b := by
  constructor
  · rintro ⟨i, j, h1, h2, lt⟩
    rw [nd_pos nd (idx_get ha) h1, nd_pos nd (idx_get hb) h2]
    exact lt
  · intro lt
    exact ⟨_, _, idx_get ha, idx_get hb, lt⟩
theorem keep_iff {D : List Pr} {r : Nat} {L : List Cl} {O : List Int} {Ps : List (List Int)} (r12 : r ≤ 12) (dok : ∀ d ∈ D, d.1 < d.2) (hP : ∀ ys, ys ∈ Ps ↔ IsPart D r ys) : keepB D r L O = true ↔ O.Perm (cldF r L) ∧ ∀ P ∈ Ps, wordP (ordL L O) P = wordP L P := by
  unfold keepB obB
  rw [Bool.and_eq_true, decide_eq_true_iff, List.all_eq_true]
  refine ⟨fun ⟨p, h⟩ => ⟨p, ?_⟩, fun ⟨p, h⟩ => ⟨p, ?_⟩⟩
  · have om := ord_log p
    have al := obey_alk r12 dok om (fun x hx => by rw [p.mem_iff, cld_mem]; exact ⟨fun z => z.2, fun z => ⟨hx, z⟩⟩) (fun x hx => (cld_mem.mp (p.mem_iff.mp hx)).2) fun zx hz => by
      have := pair_called r12 hz
      exact (bef_idx om.nd (p.mem_iff.mpr this.1) (p.mem_iff.mpr this.2)).mpr (of_decide_eq_true (h zx hz))
    intro P hPm
    obtain ⟨h1, h2⟩ := ip_part ((hP P).mp hPm)
    exact al P h1 h2
  · have om := ord_log p
    intro zx hz
    have := pair_called r12 hz
    exact decide_eq_true ((bef_idx om.nd (p.mem_iff.mpr this.1) (p.mem_iff.mpr this.2)).mp (alk_obey r12 om (fun Q hQ sub => h Q ((hP Q).mpr (ip_of hQ sub))) zx hz))
/-- the rooms of a forced pair are two -/
theorem pair_ne {D : List Pr} {r : Nat} {L : List Cl} (r12 : r ≤ 12) {p : Pr} (h : p ∈ pairsF D (formF D r L)) : p.1 ≠ p.2 := fun e => by
  obtain ⟨A, B, c, e1, cx, hz⟩ := forced_last (z := p.1) (x := p.2) r12 h
  have nd := lastF_ndK L
  rw [e1, List.map_append, List.map_cons] at nd
  have := (List.nodup_append.mp nd).2.2 p.1 hz c.1 List.mem_cons_self
  exact this (e.trans cx.symm)
theorem lk_ob {D : List Pr} {r : Nat} {L : List Cl} {O : List Int} {E : List Pr} (r12 : r ≤ 12) (p : O.Perm (cldF r L)) (pm : E.Perm (pairsF D (formF D r L))) : lkB O E = keepB D r L O := by
  have nd := (ord_log p).nd
  unfold keepB lkB obB
  rw [decide_eq_true p, Bool.true_and, Bool.eq_iff_iff, List.all_eq_true, List.all_eq_true]
  have one : ∀ q ∈ pairsF D (formF D r L), ((!decide (O.idxOf q.2 < O.idxOf q.1)) = true ↔ decide (O.idxOf q.1 < O.idxOf q.2) = true) := fun q hq => by
    have hc := pair_called r12 hq
    have ne := pair_ne r12 hq
    have ni : O.idxOf q.1 ≠ O.idxOf q.2 := fun e => by
      have h1 := idx_get (p.mem_iff.mpr hc.1)
      rw [e, idx_get (p.mem_iff.mpr hc.2)] at h1
      exact ne (Option.some.inj h1).symm
    simp
    omega
  exact ⟨fun h q hq => (one q hq).mp (h q (pm.mem_iff.mpr hq)), fun h q hq => (one q (pm.mem_iff.mp hq)).mpr (h q (pm.mem_iff.mp hq))⟩

/-! ### k35: the law -/
abbrev sLaw : Stmt := topS 56
theorem paired_revK {α β : Type} {F : α → β → Prop} : ∀ {as : List α} {bs : List β}, Paired F as bs → Paired F as.reverse bs.reverse
  | _, _, .nil => .nil
  | _, _, .cons r t => by
    rw [List.reverse_cons, List.reverse_cons]
    exact paired_append (paired_revK t) (.cons r .nil)
theorem own_map (r : Nat) (f : Int → Option Str) {ys : List V} (p : Paired (fun v b => v = optS b) ys ((List.range r).filterMap fun j : Nat => some (f (j : Int)))) : ys = (rg r).map fun x => optS (f x) := by
  rw [paired_map p]
  have e : ((List.range r).filterMap fun j : Nat => some (f (j : Int))) = (List.range r).map fun j : Nat => f (j : Int) := by
    show List.filterMap (some ∘ fun j : Nat => f (j : Int)) (List.range r) = _
    rw [List.filterMap_eq_map]
  rw [e, List.map_map]
  unfold rg
  rw [List.map_map]
  rfl
section
variable {P : Program} {w : World} {K : PySem.W.Frag} {mg : Str → Option Value} {base : Heap}
theorem scLaw : FnScope ["script", "n", "rooms", "doors", "m", "words", "log", "form", "house", "pairs", "parts", "heard", "own", "orders", "order", "due", "number", "turned", "turned_own", "turned_heard", "told", "part", "r"] ["script"] (defScope sLaw) := ⟨rfl, rfl, rfl, by decide +kernel, rfl, by decide +kernel, by decide +kernel⟩
set_option maxHeartbeats 4000000 in
theorem ok_law {f C fi f1 f2 f3 f4 f5 f6 f7 f8 f9 f10 f11 f12 f13 f14 f15 f16 f17 f18 tb_obeys_pairs tb_form_of tb_build_form : Addr} {fd fdi fd1 fd2 fd3 fd4 fd5 fd6 fd7 fd8 fd9 fd10 fd11 fd12 fd13 fd14 fd15 fd16 fd17 fd18 : FuncData} (F : Fun K "law" "law" sLaw f fd) (T : Bi mg) (U : Hs K mg C) (M : Mk K C fi) (Gi : FnOk P w K mg base CX0 2 fi fdi ["self", "rooms", "doors"] (spHinit C)) (bi : Binds K fdi ["self", "rooms", "doors"] [])
    (d__law_cell : Df P w K mg base "_law_cell" ["script", "k"] 1 (spCell K) f1 fd1) (d__law_numbers : Df P w K mg base "_law_numbers" ["cell", "count"] 1 (spNum K) f2 fd2) (d__law_doors : Df P w K mg base "_law_doors" ["numbers", "rooms"] 2 (spDrs K) f3 fd3) (d__law_choice : Df P w K mg base "_law_choice" ["numbers"] 2 (spCho K) f4 fd4)
    (d__law_log : Df P w K mg base "_law_log" ["numbers", "at", "many", "rooms", "words"] 1 (spLlg K) f5 fd5) (d__law_calls : Df P w K mg base "_law_calls" ["script", "at", "rooms", "words", "most"] 2 (spLcs K) f6 fd6) (d__law_form : Df P w K mg base "_law_form" ["doors", "log", "rooms"] 29 (spLf 12) f7 fd7) (d_forced_pairs : Df P w K mg base "forced_pairs" ["house", "form"] 18 (spFrp C) f8 fd8)
    (d_form_of : Df P w K mg base "form_of" ["house", "log"] 50 (spFo C [(tb_form_of, nmFo), (tb_build_form, nmBf)]) f9 fd9) (d__law_same : Df P w K mg base "_law_same" ["got", "due"] 28 (spSame 27) f10 fd10) (d__law_are_pairs : Df P w K mg base "_law_are_pairs" ["told", "rooms"] 1 spLap f11 fd11) (d__law_parts : Df P w K mg base "_law_parts" ["doors", "rooms"] 2 spLpr f12 fd12) (d__law_word_of : Df P w K mg base "_law_word_of" ["log", "rooms"] 1 (spTopR K optW) f13 fd13)
    (d__law_orders : Df P w K mg base "_law_orders" ["rooms"] 6 (spLor 5) f14 fd14) (d__law_leaves : Df P w K mg base "_law_leaves" ["parts", "heard", "words", "order"] 2 (spLle K) f15 fd15) (d_keeps_form : Df P w K mg base "keeps_form" ["house", "form", "order"] 19 (spKf C tb_obeys_pairs) f16 fd16) (d__law_keeps : Df P w K mg base "_law_keeps" ["pairs", "order"] 1 spLkp f17 fd17) (d__law_wrong : Df P w K mg base "_law_wrong" ["order", "rooms", "number"] 1 spLwg f18 fd18) : FnOk P w K mg base CX0 52 f fd ["script"] (spLawM K [tb_obeys_pairs] [tb_form_of, tb_build_form]) := by
  refine F.ok scLaw (fun vs H Q E h => ?_) (fun cdv A0 outer s H vs Q E hr h => ?_)
  · obtain ⟨a, ns, rfl, _⟩ := h
    rfl
  · obtain ⟨a, ss, rfl, hS, s63, hTo, hTb, q⟩ := h
    have hT0 : NdefX.TabsN [(tb_form_of, nmFo), (tb_build_form, nmBf)] H := tabs2 (hTb _ (by simp)) (hTb _ (by simp))
    have hTo := hTo tb_obeys_pairs (by simp)
    refine ⟨_, (pss_cons (ps_set (i := 1) scLaw.nd rfl (Or.inl rfl) (pe_call d__law_numbers.ok (hr.mono (by decide)) (by rfl) d__law_numbers.at_ d__law_numbers.kp d__law_numbers.b .nil pass0 (pa_cons (pe_call d__law_cell.ok (hr.mono (by decide)) (by rfl) d__law_cell.at_ d__law_cell.kp d__law_cell.b .nil pass0 (pa_cons (pv 0) (pa_cons pe_int pa_nil))) (pa_cons pe_int pa_nil))))
      (pss_cons (ps_set (i := 2) scLaw.nd rfl (Or.inl rfl) (pe_op op_add pe_int (pe_op op_mod (pe_callTy cr_intI (by rfl) T.int (by decide +kernel) (pa_cons (pe_ix ix_list (pv 1) pe_int (fun _ _ => rfl)) pa_nil)) pe_int)))
      (pss_cons (ps_set (i := 3) scLaw.nd rfl (Or.inl rfl) (pe_call d__law_doors.ok (hr.mono (by decide)) (by rfl) d__law_doors.at_ d__law_doors.kp d__law_doors.b .nil pass0 (pa_cons (pv 1) (pa_cons (pv 2) pa_nil))))
      (pss_cons (ps_set (i := 4) scLaw.nd rfl (Or.inl rfl) (pe_call d__law_numbers.ok (hr.mono (by decide)) (by rfl) d__law_numbers.at_ d__law_numbers.kp d__law_numbers.b .nil pass0 (pa_cons (pe_call d__law_cell.ok (hr.mono (by decide)) (by rfl) d__law_cell.at_ d__law_cell.kp d__law_cell.b .nil pass0 (pa_cons (pv 0) (pa_cons pe_int pa_nil))) (pa_cons pe_int pa_nil))))
      (pss_cons (ps_set (i := 5) scLaw.nd rfl (Or.inl rfl) (pe_call d__law_choice.ok (hr.mono (by decide)) (by rfl) d__law_choice.at_ d__law_choice.kp d__law_choice.b .nil pass0 (pa_cons (pv 4) pa_nil)))
      (pss_cons (ps_set (i := 6) scLaw.nd rfl (Or.inr rfl) (pe_op op_cat (pe_call d__law_log.ok (hr.mono (by decide)) (by rfl) d__law_log.at_ d__law_log.kp d__law_log.b .nil pass0 (pa_cons (pv 4) (pa_cons pe_int (pa_cons (pe_op op_mod (pe_callTy cr_intI (by rfl) T.int (by decide +kernel) (pa_cons (pe_ix ix_list (pv 4) pe_int (fun _ _ => rfl)) pa_nil)) pe_int) (pa_cons (pv 2) (pa_cons (pv 5) pa_nil)))))) (pe_call d__law_calls.ok (hr.mono (by decide)) (by rfl) d__law_calls.at_ d__law_calls.kp d__law_calls.b .nil pass0 (pa_cons (pv 0) (pa_cons pe_int (pa_cons (pv 2) (pa_cons (pv 5) (pa_cons pe_int pa_nil))))))))
      (pss_cons (ps_set (i := 7) scLaw.nd rfl (Or.inl rfl) (pe_call d__law_form.ok (hr.mono (by decide)) (by rfl) d__law_form.at_ d__law_form.kp d__law_form.b .nil pass0 (pa_cons (pv 3) (pa_cons (pv 6) (pa_cons (pe_listRg rfl (by rfl) T.list (prg_1 (by rfl) T.range (pv 2))) pa_nil)))))
      (pss_cons (ps_set (i := 8) scLaw.nd rfl (Or.inl rfl) (pe_make M Gi (hr.mono (by decide)) (by rfl) U.mgC bi .nil pass0 (pa_cons (pv 2) (pa_cons (pe_callTy call_list_of (by rfl) T.list (by decide +kernel) (pa_cons (pv 3) pa_nil)) pa_nil))))
      (pss_cons (ps_set (i := 9) scLaw.nd rfl (Or.inl rfl) (pe_call d_forced_pairs.ok (hr.mono (by decide)) (by rfl) d_forced_pairs.at_ d_forced_pairs.kp d_forced_pairs.b .nil pass0 (pa_cons (pv 8) (pa_cons (pv 7) pa_nil))))
      (pss_cons (ps_if (PW.pt (pw_or (pt_not (pt_val (pe_call d__law_same.ok (hr.mono (by decide)) (by rfl) d__law_same.at_ d__law_same.kp d__law_same.b .nil pass0 (pa_cons (pe_call d_form_of.ok (hr.mono (by decide)) (by rfl) d_form_of.at_ d_form_of.kp d_form_of.b .nil pass0 (pa_cons (pv 8) (pa_cons (pe_callTy call_list_of (by rfl) T.list (by decide +kernel) (pa_cons (pv 6) pa_nil)) pa_nil))) (pa_cons (pv 7) pa_nil))))) (pw_or1 (pt_not (pt_truth (pe_call d__law_are_pairs.ok (hr.mono (by decide)) (by rfl) d__law_are_pairs.at_ d__law_are_pairs.kp d__law_are_pairs.b .nil pass0 (pa_cons (pv 9) (pa_cons (pv 2) pa_nil))) (by intro _; rfl))))))
      (pss_one (ps_ret pe_bl))
      pss_nil)
      (pss_cons (ps_set (i := 10) scLaw.nd rfl (Or.inl rfl) (pe_call d__law_parts.ok (hr.mono (by decide)) (by rfl) d__law_parts.at_ d__law_parts.kp d__law_parts.b .nil pass0 (pa_cons (pv 3) (pa_cons (pv 2) pa_nil))))
      (pss_cons (ps_setLc (i := 11) (own := [("part", 21)]) (by rfl) scLaw.nd rfl rfl (sw_true rfl rfl rfl (by decide +kernel)) (pi_list (pv 10)) (blkOk_by (N := ["script", "n", "rooms", "doors", "m", "words", "log", "form", "house", "pairs", "parts", "heard", "own", "orders", "order", "due", "number", "turned", "turned_own", "turned_heard", "told", "part", "r"]) (sc := defScope sLaw) (by decide +kernel)) (fun _ _ _ _ _ => pg_name (i := 21) scLaw.nd rfl (Or.inl rfl)) (fun _ _ _ _ _ => pts_nil) (fun _ _ _ _ _ => (pe_call d__law_word_of.ok (hr.mono (by decide)) (by rfl) d__law_word_of.at_ d__law_word_of.kp d__law_word_of.b .nil pass0 (pa_cons (pv 6) (pa_cons (pv 21) pa_nil)))))
      (pss_cons (ps_set (i := 12) scLaw.nd rfl (Or.inr rfl) (pe_lc (own := [("r", 22)]) (by rfl) scLaw.nd (pi_range1 (by rfl) T.range (pa_cons (pv 2) pa_nil)) (blkOk_by (N := ["script", "n", "rooms", "doors", "m", "words", "log", "form", "house", "pairs", "parts", "heard", "own", "orders", "order", "due", "number", "turned", "turned_own", "turned_heard", "told", "part", "r"]) (sc := defScope sLaw) (by decide +kernel)) (fun _ _ _ _ _ => pg_name (i := 22) scLaw.nd rfl (Or.inl rfl)) (fun _ _ _ _ _ => pts_nil) (fun _ _ _ _ _ => (pe_call d__law_word_of.ok (hr.mono (by decide)) (by rfl) d__law_word_of.at_ d__law_word_of.kp d__law_word_of.b .nil pass0 (pa_cons (pv 6) (pa_cons (pe_lst (pa_cons (pv 22) pa_nil)) pa_nil))))))
      (pss_cons (ps_set (i := 13) scLaw.nd rfl (Or.inl rfl) (pe_call d__law_orders.ok (hr.mono (by decide)) (by rfl) d__law_orders.at_ d__law_orders.kp d__law_orders.b .nil pass0 (pa_cons (pe_lc (own := [("r", 22)]) (tt := tTest (tOp (fun x y H Q => y = V.non ∧ Q (V.bl !decide (x = V.non)) H) (tOp (rIxL K) (tVar 12) (tVar 22)) (tC V.non))) (by rfl) scLaw.nd (pi_range1 (by rfl) T.range (pa_cons (pv 2) pa_nil)) (blkOk_by (N := ["script", "n", "rooms", "doors", "m", "words", "log", "form", "house", "pairs", "parts", "heard", "own", "orders", "order", "due", "number", "turned", "turned_own", "turned_heard", "told", "part", "r"]) (sc := defScope sLaw) (by decide +kernel)) (fun _ _ _ _ _ => pg_name (i := 22) scLaw.nd rfl (Or.inl rfl)) (fun _ _ _ _ _ => (pts_one (pt_cmpR op_notN (pe_ix ix_list (pv 12) (pv 22) (fun _ _ => rfl)) pe_non (nomark _)))) (fun _ _ _ _ _ => (pv 22))) pa_nil)))
      (pss_cons (ps_for PassesOwn.never rfl (pi_list (pv 13)) (pg_name (i := 14) scLaw.nd rfl (Or.inl rfl))
      (pss_cons (ps_set (i := 15) scLaw.nd rfl (Or.inl rfl) (pe_call d__law_leaves.ok (hr.mono (by decide)) (by rfl) d__law_leaves.at_ d__law_leaves.kp d__law_leaves.b .nil pass0 (pa_cons (pv 10) (pa_cons (pv 11) (pa_cons (pv 12) (pa_cons (pv 14) pa_nil))))))
        (pss_one (ps_if (PW.pt (pw_or (pt_not (pt_val (pe_call d__law_same.ok (hr.mono (by decide)) (by rfl) d__law_same.at_ d__law_same.kp d__law_same.b .nil pass0 (pa_cons (pe_call d_keeps_form.ok (hr.mono (by decide)) (by rfl) d_keeps_form.at_ d_keeps_form.kp d_keeps_form.b .nil pass0 (pa_cons (pv 8) (pa_cons (pv 7) (pa_cons (pv 14) pa_nil)))) (pa_cons (pv 15) pa_nil))))) (pw_or1 (pt_cmpR op_ne (pe_call d__law_keeps.ok (hr.mono (by decide)) (by rfl) d__law_keeps.at_ d__law_keeps.kp d__law_keeps.b .nil pass0 (pa_cons (pv 9) (pa_cons (pv 14) pa_nil))) (pv 15) (nomark _)))))
        (pss_one (ps_ret pe_bl))
        pss_nil))))
      (pss_cons (ps_set (i := 16) scLaw.nd rfl (Or.inl rfl) (pe_callTy cr_intI (by rfl) T.int (by decide +kernel) (pa_cons (pe_call d__law_cell.ok (hr.mono (by decide)) (by rfl) d__law_cell.at_ d__law_cell.kp d__law_cell.b .nil pass0 (pa_cons (pv 0) (pa_cons pe_int pa_nil))) pa_nil)))
      (pss_cons (ps_for PassesOwn.never rfl (pi_list (pe_call d__law_wrong.ok (hr.mono (by decide)) (by rfl) d__law_wrong.at_ d__law_wrong.kp d__law_wrong.b .nil pass0 (pa_cons (pe_ix ix_list (pv 13) (pe_op op_mod (pv 16) (pe_callB call_len_seq (by rfl) T.len (by decide +kernel) (pa_cons (pv 13) pa_nil))) (fun _ _ => rfl)) (pa_cons (pv 2) (pa_cons (pe_op op_fdiv (pv 16) pe_int) pa_nil))))) (pg_name (i := 14) scLaw.nd rfl (Or.inl rfl))
      (pss_one (ps_if (pt_not (pt_val (pe_call d__law_same.ok (hr.mono (by decide)) (by rfl) d__law_same.at_ d__law_same.kp d__law_same.b .nil pass0 (pa_cons (pe_call d_keeps_form.ok (hr.mono (by decide)) (by rfl) d_keeps_form.at_ d_keeps_form.kp d_keeps_form.b .nil pass0 (pa_cons (pv 8) (pa_cons (pv 7) (pa_cons (pv 14) pa_nil)))) (pa_cons (pe_call d__law_leaves.ok (hr.mono (by decide)) (by rfl) d__law_leaves.at_ d__law_leaves.kp d__law_leaves.b .nil pass0 (pa_cons (pv 10) (pa_cons (pv 11) (pa_cons (pv 12) (pa_cons (pv 14) pa_nil))))) pa_nil)))))
        (pss_one (ps_ret pe_bl))
        pss_nil)))
      (pss_cons (ps_set (i := 14) scLaw.nd rfl (Or.inl rfl) (pe_ix ix_list (pv 13) (pe_op op_mod (pv 16) (pe_callB call_len_seq (by rfl) T.len (by decide +kernel) (pa_cons (pv 13) pa_nil))) (fun _ _ => rfl)))
      (pss_cons (ps_set (i := 17) scLaw.nd rfl (Or.inr rfl) (pe_revL (pv 6)))
      (pss_cons (ps_setLc (i := 18) (own := [("r", 22)]) (by rfl) scLaw.nd rfl rfl (sw_true rfl rfl rfl (by decide +kernel)) (pi_range1 (by rfl) T.range (pa_cons (pv 2) pa_nil)) (blkOk_by (N := ["script", "n", "rooms", "doors", "m", "words", "log", "form", "house", "pairs", "parts", "heard", "own", "orders", "order", "due", "number", "turned", "turned_own", "turned_heard", "told", "part", "r"]) (sc := defScope sLaw) (by decide +kernel)) (fun _ _ _ _ _ => pg_name (i := 22) scLaw.nd rfl (Or.inl rfl)) (fun _ _ _ _ _ => pts_nil) (fun _ _ _ _ _ => (pe_call d__law_word_of.ok (hr.mono (by decide)) (by rfl) d__law_word_of.at_ d__law_word_of.kp d__law_word_of.b .nil pass0 (pa_cons (pv 17) (pa_cons (pe_lst (pa_cons (pv 22) pa_nil)) pa_nil)))))
      (pss_cons (ps_setLc (i := 19) (own := [("part", 21)]) (by rfl) scLaw.nd rfl rfl (sw_true rfl rfl rfl (by decide +kernel)) (pi_list (pv 10)) (blkOk_by (N := ["script", "n", "rooms", "doors", "m", "words", "log", "form", "house", "pairs", "parts", "heard", "own", "orders", "order", "due", "number", "turned", "turned_own", "turned_heard", "told", "part", "r"]) (sc := defScope sLaw) (by decide +kernel)) (fun _ _ _ _ _ => pg_name (i := 21) scLaw.nd rfl (Or.inl rfl)) (fun _ _ _ _ _ => pts_nil) (fun _ _ _ _ _ => (pe_call d__law_word_of.ok (hr.mono (by decide)) (by rfl) d__law_word_of.at_ d__law_word_of.kp d__law_word_of.b .nil pass0 (pa_cons (pv 17) (pa_cons (pv 21) pa_nil)))))
      (pss_cons (ps_set (i := 20) scLaw.nd rfl (Or.inl rfl) (pe_call d_keeps_form.ok (hr.mono (by decide)) (by rfl) d_keeps_form.at_ d_keeps_form.kp d_keeps_form.b .nil pass0 (pa_cons (pv 8) (pa_cons (pe_call d__law_form.ok (hr.mono (by decide)) (by rfl) d__law_form.at_ d__law_form.kp d__law_form.b .nil pass0 (pa_cons (pv 3) (pa_cons (pv 17) (pa_cons (pe_listRg rfl (by rfl) T.list (prg_1 (by rfl) T.range (pv 2))) pa_nil)))) (pa_cons (pv 14) pa_nil)))))
      (pss_cons (ps_if (pt_not (pt_val (pe_call d__law_same.ok (hr.mono (by decide)) (by rfl) d__law_same.at_ d__law_same.kp d__law_same.b .nil pass0 (pa_cons (pv 20) (pa_cons (pe_call d__law_leaves.ok (hr.mono (by decide)) (by rfl) d__law_leaves.at_ d__law_leaves.kp d__law_leaves.b .nil pass0 (pa_cons (pv 10) (pa_cons (pv 19) (pa_cons (pv 18) (pa_cons (pv 14) pa_nil))))) pa_nil)))))
      (pss_one (ps_ret pe_bl))
      pss_nil)
      (pss_one (ps_ret (pe_call d__law_same.ok (hr.mono (by decide)) (by rfl) d__law_same.at_ d__law_same.kp d__law_same.b .nil pass0 (pa_cons (pe_call d_keeps_form.ok (hr.mono (by decide)) (by rfl) d_keeps_form.at_ d_keeps_form.kp d_keeps_form.b .nil pass0 (pa_cons (pv 8) (pa_cons (pv 7) (pa_cons (pv 14) pa_nil)))) (pa_cons (pe_call d__law_leaves.ok (hr.mono (by decide)) (by rfl) d__law_leaves.at_ d__law_leaves.kp d__law_leaves.b .nil pass0 (pa_cons (pv 10) (pa_cons (pv 11) (pa_cons (pv 12) (pa_cons (pv 14) pa_nil))))) pa_nil)))))))))))))))))))))))))))), ?_⟩
    refine sq6 fun N hN => ?_
    walk_at "rd"
    refine ⟨a, ss, 0, rfl, hS, fun c0 _ => ⟨c0, 80, rfl, by decide, fun nl ln H1 N1 s1 fn1 hln => ?_⟩⟩
    obtain ⟨n79, g79⟩ : ∃ x, (nl.map V.int)[79]? = some (.int x) := ⟨nl[79]'(by rw [N1.1]; decide), by rw [List.getElem?_map, List.getElem?_eq_getElem (by rw [N1.1]; decide)]; rfl⟩
    refine ⟨ln, rfl, _, SqL.of hln, .int n79, at_of (j := 79) rfl g79, n79, rfl, by decide, ?_⟩
    obtain ⟨r, er, hr1, hr5⟩ : ∃ r : Nat, 1 + n79 % 5 = (r : Int) ∧ 1 ≤ r ∧ r ≤ 5 := ⟨(1 + n79 % 5).toNat, by omega, by omega, by omega⟩
    have hr12 : r ≤ 12 := by omega
    rw [er]
    clear er
    refine ⟨ln, nl, r, rfl, SqL.of hln, by rw [N1.1]; omega, hr1, hr12, fun D us ld H2 drs s2 nld hld pD => ?_⟩
    have s02 := s1.trans s2
    refine ⟨a, ss, 1, rfl, s02.seq hS, fun c1 _ => ⟨c1, 98, rfl, by decide, fun ml lm H3 N3 s3 fm3 hlm => ?_⟩⟩
    have s03 := s02.trans s3
    refine ⟨lm, ml, rfl, SqL.of hlm, by rw [N3.1]; omega, fun Z zp H4 z1 z12 zw s4 nzp hzp => ?_⟩
    have zw17 : ∀ z ∈ Z, wk 17 z := fun z hz => (zw z hz).1
    have s34 := s4
    obtain ⟨m25, g25⟩ : ∃ x, (ml.map V.int)[25]? = some (.int x) := ⟨ml[25]'(by rw [N3.1]; decide), by rw [List.getElem?_map, List.getElem?_eq_getElem (by rw [N3.1]; decide)]; rfl⟩
    refine ⟨lm, rfl, _, SqL.of (s4 _ _ hlm), .int m25, at_of (j := 25) rfl g25, m25, rfl, by decide, ?_⟩
    have u0 := Int.emod_nonneg m25 (show (13 : Int) ≠ 0 by decide)
    have u1 := Int.emod_lt_of_pos m25 (show (0 : Int) < 13 by decide)
    obtain ⟨mm, em⟩ : ∃ mm : Nat, m25 % 13 = mm := ⟨(m25 % 13).toNat, by omega⟩
    rw [em]
    have s04 := s03.trans s4
    refine ⟨lm, zp, ml, 26, mm, r, Z, rfl, SqL.of (s4 _ _ hlm), by rw [N3.1]; omega, by omega, hr1, hzp, z1, zw17, fun L1 w1 g1 H5 l1 inr1 wk1 s5 ng1 hg1 lg1 => ?_⟩
    have s05 := s04.trans s5
    refine ⟨a, zp, ss, 3, 20, r, 17, Z, rfl, s05.seq hS, s63, by decide, by decide, hr1, s5 _ _ hzp, z1, zw17, fun L2 w2 g2 H6 l2 inr2 wk2 _ s6 ng2 hg2 lg2 => ?_⟩
    have wl1 := lg1.len
    have wl2 := lg2.len
    refine ⟨g1, g2, w1, w2, rfl, rfl, s6 _ _ hg1, hg2, Nat.le_of_lt (len_big (by omega)), fun lc nlc => ?_⟩
    have s7 := same_upd (o := HO.lst (w1 ++ w2)) nlc
    have hlc := upd_same (H := H6) (a := lc) (o := HO.lst (w1 ++ w2))
    have lgc : LG (upd H6 lc (HO.lst (w1 ++ w2))) (w1 ++ w2) (L1 ++ L2) := paired_append (lg1.kt (KT.same (s6.trans s7))) (lg2.kt (KT.same s7))
    have inrc : InR r (L1 ++ L2) := fun c hc => (List.mem_append.mp hc).elim (inr1 c) (inr2 c)
    have wkc : ∀ c ∈ L1 ++ L2, wk 17 c.2 := fun c hc => (List.mem_append.mp hc).elim (wk1 c) (wk2 c)
    have lenL : (L1 ++ L2).length ≤ 100 := by rw [List.length_append]; omega
    generalize upd H6 lc (HO.lst (w1 ++ w2)) = H7 at s7 hlc lgc ⊢
    generalize w1 ++ w2 = gs at hlc lgc
    generalize L1 ++ L2 = L at lgc inrc lenL wkc
    have s27 := (((s3.trans s4).trans s5).trans s6).trans s7
    have s07 := s02.trans s27
    have hld7 := s27 _ _ hld
    have pD7 := pD.kt (KT.same s27)
    refine hN _ _ ?_
    clear hN N hld pD s27 s04 s03 s02 s05 s34 hg1 hg2 lg1 lg2 wl1 wl2 wk1 wk2 inr1 inr2 hzp zw zw17 s1 s2 s3 s4 s5 s6 s7 nzp nlc em u0 u1 g25 g79 hlm hln
    refine sq3 fun N hN => ?_
    walk_at "rd"
    refine ⟨RgOk.of_le (by omega) (by omega) (by omega) (by omega), fun e1 ne1 => ?_⟩
    rw [rgV_rg]
    have v1 := same_upd (o := HO.lst ((rg r).map V.int)) ne1
    have he1 := upd_same (H := H7) (a := e1) (o := HO.lst ((rg r).map V.int))
    generalize upd H7 e1 (HO.lst ((rg r).map V.int)) = G1 at v1 he1 ⊢
    refine ⟨ld, lc, e1, us, gs, D, L, rg r, rfl, v1 _ _ hld7, pD7.kt (KT.same v1), v1 _ _ hlc, lgc.kt (KT.same v1), he1, by rw [rg_len]; exact hr12, by decide, fun x hx => (rg_mem2 hx).1, fun v G2 v2 hf => ?_⟩
    have v12 := v1.trans v2
    refine ⟨us, .inl (SqL.of (v12 _ _ hld7)), fun ol fol y dy ny ndy ney => ?_⟩
    have v3 := v12.trans (same_upd (o := HO.lst us) fol)
    have hf3 : FormAt (upd G2 ol (HO.lst us)) 12 v (formF D r L) := FormAt.kt hf (KT.same (same_upd fol))
    refine use_init ny ndy upd_same (pD7.kt (KT.same v3)) (by rw [mm2_same drs]) drs hr1 hr12 fun own G3 hh v4 _ => ⟨rfl, ?_⟩
    have hf4 := hf3.kt (KT.same v4)
    refine ⟨y, v, r, D, own, L, rfl, hh, hf4, fun ws E lp G0 v5 nlp hlp plE pmE _ => hN _ _ ?_⟩
    have wG := (v3.trans v4).trans v5
    have hf5 := hf4.kt (KT.same v5)
    have hh5 := hh.same v5
    have s0G := s07.trans wG
    have hldG := wG _ _ hld7
    have pDG := pD7.kt (KT.same wG)
    have hlcG := wG _ _ hlc
    have lgG := lgc.kt (KT.same wG)
    have hTG := tabs_same hT0 s0G
    have hToG := s0G _ _ hTo
    have hSG := s0G.seq hS
    have qG : ∀ H', Xt G0 H' → Q (.bl true) H' := fun H' x => q H' ((Xt.of s0G).trans x)
    clear hN N hld7 pD7 hlc lgc wG s07 s0G v1 v2 v3 v4 v5 v12 he1 hf hf3 hf4 hh hT0 hTo hS q
    refine sq1 fun N hN => ?_
    walk_at "rd"
    refine ⟨gs, .inl (SqL.of hlcG), fun ol fol => ?_⟩
    have v1 := same_upd (o := HO.lst gs) fol
    refine ⟨y, ol, r, D, own, gs, L, rfl, hh5.same v1, upd_same, lgG.kt (KT.same v1), by omega, tabs_same hTG v1, fun u G1 x1 _ hu => ?_⟩
    have x01 := (Xt.of v1).trans x1
    have hf1 := hf5.kt (KT.xt x01)
    refine ⟨u, v, rfl, sm_up (sm_form hu hf1) (by decide), ⟨true, rfl, ?_⟩⟩
    rw [if_neg (by decide)]
    refine ⟨lp, ws, E, r, rfl, x01.lst hlp, plE.kt (KT.xt x01), fun p hp => ?_, fun G2 v2 => ⟨true, rfl, ?_⟩⟩
    · have := pair_called hr12 (pmE.mem_iff.mp hp)
      exact ⟨rg_mem2 (cld_mem.mp this.1).1, rg_mem2 (cld_mem.mp this.2).1⟩
    rw [if_neg (by decide)]
    have x02 := x01.trans (Xt.of v2)
    have hf2 := hf1.kt (KT.same v2)
    have hh2 := hh5.xt x02
    have hld2 := x02.lst hldG
    have pD2 := pDG.kt (KT.xt x02)
    have hlc2 := x02.lst hlcG
    have lg2 := lgG.kt (KT.xt x02)
    have hlp2 := x02.lst hlp
    have pl2 := plE.kt (KT.xt x02)
    have hTo2 := x02.tb hToG
    have hS2 := x02.seq hSG
    have q2 : ∀ H', Same G2 H' → Q (.bl true) H' := fun H' x => qG H' (x02.trans (Xt.of x))
    refine hN _ _ ?_
    clear hN N hldG pDG hlcG lgG hlp plE hToG hSG qG x02 v2 x01 hf1 hf5 hh5 v1 x1 hu hTG
    have dok : ∀ d ∈ D, d.1 < d.2 := fun d hd => (drs.ok d hd).2.1
    refine sq2 fun N hN => ?_
    walk_at "rd"
    refine ⟨ld, us, D, r, rfl, hld2, pD2, by omega, fun Ps pw lps G3 hPs lenP v3 np3 hps rlP => ?_⟩
    have hlc3 := v3 _ _ hlc2
    have lg3 := lg2.kt (KT.same v3)
    refine lcW ?_
    walk_at "rd"
    refine ⟨⟨_, SqL.of hps⟩, gc_list (fun _ v b => v = optS b) (fun _ _ _ _ h _ => h) (fun j => Ps[j]?.bind fun P => some (wordP L P)) hps (by rw [rlP.length]; omega) (fun j x Hy A B gx sy hA hB => ?_) fun lhe ys G4 v4 n4 h4 p4 => ?_⟩
    · obtain ⟨P, gP, tp, rfl, htp⟩ := pget rlP gx
      rw [gP] at hA
      walk_at "rd"
      rw [if_pos trivial]
      refine ⟨lc, tp, gs, L, P, rfl, sy _ _ hlc3, lg3.kt (KT.same sy), .inr (SqT.of (sy _ _ htp)), hA _ _ _ rfl (Same.refl _) ?_⟩
      unfold wordP
      cases lastIn P L <;> rfl
    have e4 : (List.range pw.length).filterMap (fun j => Ps[j]?.bind fun P => some (wordP L P)) = Ps.map (wordP L) := by
      rw [rlP.length, fm_range (L := Ps) (fun P => some (wordP L P))]
      show List.filterMap (some ∘ wordP L) Ps = _
      rw [List.filterMap_eq_map]
    rw [e4] at p4
    have ey : ys = (Ps.map (wordP L)).map optS := paired_map p4
    rw [ey] at h4
    clear ey e4 p4
    have v24 := v3.trans v4
    refine hN _ _ ?_
    clear hN N
    refine sq2 fun N hN => ?_
    walk_at "rd"
    refine lcW ?_
    walk_at "rd"
    have hlc4 := v24 _ _ hlc2
    have lg4 := lg2.kt (KT.same v24)
    refine ⟨by omega, by omega, ?_⟩
    rw [Int.toNat_natCast]
    refine gc_range (fun _ v b => v = optS b) (fun _ _ _ _ h _ => h) (fun j : Nat => some (wordP L [(j : Int)])) (by omega) (fun j Hy A B jl sy hA hB => ?_) fun low ys G5 v5 n5 h5 p5 => ?_
    · rw [Int.zero_add]
      walk_at "rd"
      rw [if_pos trivial]
      refine ⟨by decide, fun p0 np0 => ?_⟩
      have t0 := same_upd (o := HO.lst [V.int (j : Int)]) np0
      have s0 := sy.trans t0
      refine ⟨lc, p0, gs, L, [(j : Int)], rfl, s0 _ _ hlc4, lg4.kt (KT.same s0), .inl (SqL.of upd_same), hA _ _ _ rfl t0 ?_⟩
      unfold wordP
      cases lastIn [(j : Int)] L <;> rfl
    rw [own_map r (fun x => wordP L [x]) p5] at h5
    clear p5
    refine lcW ?_
    walk_at "rd"
    refine ⟨by omega, by omega, ?_⟩
    rw [Int.toNat_natCast]
    have at_ : ∀ x ∈ rg r, ∃ j : Nat, x = (j : Int) ∧ ((rg r).map fun x => optS (wordP L [x]))[j]? = some (optS (wordP L [x])) := fun x hx => by
      obtain ⟨j, hj, rfl⟩ := List.mem_map.mp hx
      refine ⟨j, rfl, ?_⟩
      unfold rg
      rw [List.getElem?_map, List.getElem?_map, List.getElem?_range (List.mem_range.mp hj)]
      rfl
    refine lc_filtR (p := fun x => (wordP L [x]).isSome) (by omega) (by simp) (fun x Hx B xm sx hB => ?_) fun t2 G6 v6 n6 h6 => ?_
    · obtain ⟨j, rfl, hj⟩ := at_ x xm
      walk_at "rd"
      refine ⟨_, SqL.of (sx _ _ h5), _, atI_nat hj, ?_⟩
      have e : (!decide (optS (wordP L [(j : Int)]) = V.non)) = (wordP L [(j : Int)]).isSome := by cases wordP L [(j : Int)] <;> rfl
      rw [e]
      exact hB
    have ndc := up_nd (cld_up r L)
    have lenC : (cldF r L).length ≤ r := by
      have := int_sub_len2 ndc (R := rg r) fun x hx => (cld_mem.mp hx).1
      rw [rg_len] at this
      exact this
    refine ⟨t2, cldF r L, rfl, h6, ndc, by omega, by decide, fun wo Os lo G7 v7 n7 h7 pO One permO lenO => hN _ _ ?_⟩
    clear hN N at_
    have lenO : Os.length ≤ 1000 := Nat.le_trans lenO (by decide)
    have v47 := (v5.trans v6).trans v7
    have v27 := v24.trans v47
    have hps7 := (v4.trans v47) _ _ hps
    have rlP7 := rlP.kt (KT.same (v4.trans v47))
    have hhe7 := v47 _ _ h4
    have how7 := (v6.trans v7) _ _ h5
    have hf7 := hf2.kt (KT.same v27)
    have hh7 := hh2.same v27
    have hld7 := v27 _ _ hld2
    have pD7 := pD2.kt (KT.same v27)
    have hlc7 := v27 _ _ hlc2
    have lg7 := lg2.kt (KT.same v27)
    have hlp7 := v27 _ _ hlp2
    have pl7 := pl2.kt (KT.same v27)
    have hTo7 := v27 _ _ hTo2
    have hS7 := v27.seq hS2
    have q7 : ∀ H', Same G7 H' → Q (.bl true) H' := fun H' x => q2 H' (v27.trans x)
    clear v27 v47 v24 v5 v6 v7 v3 v4 hps rlP h4 h5 h6 hf2 hh2 hld2 pD2 hlc2 lg2 hlp2 pl2 hTo2 hS2 q2 hlc3 lg3 hlc4 lg4
    refine sq1 fun N hN => ?_
    refine for_iterW ?_
    walk_at "rd"
    obtain ⟨Pv, hPv⟩ : ∃ Pv : Nat → _root_.L2.St → Hp → Prop, Pv = (fun i σ H' => ∃ v14 v15 : Option V, σ = [some (.ref a), some (.ref ln), some (.int r), some (.ref ld), some (.ref lm), some (.ref zp), some (.ref lc), some v, some (.ref y), some (.ref lp), some (.ref lps), some (.ref lhe), some (.ref low), some (.ref lo), v14, v15, none, none, none, none, none, none, none] ∧ Same G7 H') := ⟨_, rfl⟩
    refine ⟨⟨_, SqL.of h7⟩, for_list (xs := wo) Pv (by rw [hPv]; exact ⟨none, none, rfl, fun _ _ e => e⟩) (fun i σ H' _ pv => by rw [hPv] at pv; obtain ⟨_, _, _, sm⟩ := pv; exact SqL.of (sm _ _ h7)) (fun i x σ H' gx pv => ?_) (fun σ H' pv => ?_)⟩
    · rw [hPv] at pv
      obtain ⟨v14, v15, rfl, sm⟩ := pv
      obtain ⟨O, gO, to, rfl, hO⟩ := pget pO gx
      have hp := permO O (List.mem_of_getElem? gO)
      have lO : O.length ≤ 60 := by rw [hp.length_eq]; omega
      have hO := hO.same sm
      walk_at "rd"
      refine ⟨lps, lhe, low, to, pw, r, L, O, Ps, rfl, sm _ _ hps7, rlP7.kt (KT.same sm), sm _ _ hhe7, sm _ _ how7, hO, lO, hr12, by omega, wkc, fun k H1 s1 hk => ?_⟩
      have sm1 := sm.trans s1
      have hO1 := hO.same s1
      refine ⟨y, to, v, r, D, own, L, O, rfl, hh7.same sm1, hf7.kt (KT.same sm1), hO1, lO, sm1 _ _ hTo7, fun H2 s2 => ?_⟩
      have sm2 := sm1.trans s2
      have ek : keepB D r L O = k := by
        rw [Bool.eq_iff_iff, hk]
        exact keep_iff hr12 dok hPs
      rw [ek]
      refine ⟨_, _, rfl, Sm.flat rfl, ⟨true, rfl, ?_⟩⟩
      rw [if_neg (by decide)]
      refine ⟨lp, to, O, ws, E, rfl, sm2 _ _ hlp7, pl7.kt (KT.same sm2), hO1.same s2, fun p hp2 => ?_, ?_⟩
      · have := pair_called hr12 (pmE.mem_iff.mp hp2)
        exact ⟨hp.mem_iff.mpr this.1, hp.mem_iff.mpr this.2⟩
      rw [lk_ob hr12 hp pmE, ek]
      refine (show rNe (V.bl k) (V.bl k) H2 _ from ⟨rfl, _, rfl, ?_⟩)
      rw [if_neg (by simp), hPv]
      exact ⟨_, _, rfl, sm2⟩
    · rw [hPv] at pv
      obtain ⟨v14, v15, rfl, sm⟩ := pv
      refine hN _ _ ?_
      clear hN N
      clear hPv Pv
      have h7 := sm _ _ h7
      have pO := isos_same sm pO
      have hps7 := sm _ _ hps7
      have rlP7 := rlP7.kt (KT.same sm)
      have hhe7 := sm _ _ hhe7
      have how7 := sm _ _ how7
      have hf7 := hf7.kt (KT.same sm)
      have hh7 := hh7.same sm
      have hld7 := sm _ _ hld7
      have pD7 := pD7.kt (KT.same sm)
      have hlc7 := sm _ _ hlc7
      have lg7 := lg7.kt (KT.same sm)
      have hTo7 := sm _ _ hTo7
      have hS7 := sm.seq hS7
      have q7 : ∀ H'', Same H' H'' → Q (.bl true) H'' := fun H'' x => q7 H'' (sm.trans x)
      refine sq2 fun N hN => ?_
      walk_at "rd"
      refine ⟨a, ss, 2, rfl, hS7, fun c2 _ => ⟨c2, rfl, ?_⟩⟩
      have lw : wo.length = Os.length := pO.length
      have lpos : 0 < wo.length := by rw [lw]; exact List.length_pos_iff.mpr One
      obtain ⟨j0, ej, hj0⟩ : ∃ j : Nat, c2 % ((wo.length : Nat) : Int) = (j : Int) ∧ j < wo.length := ⟨(c2 % ((wo.length : Nat) : Int)).toNat, by have := Int.emod_nonneg c2 (show ((wo.length : Nat) : Int) ≠ 0 by omega); omega, by have := Int.emod_lt_of_pos c2 (show (0 : Int) < ((wo.length : Nat) : Int) by omega); have := Int.emod_nonneg c2 (show ((wo.length : Nat) : Int) ≠ 0 by omega); omega⟩
      obtain ⟨x0, gx0⟩ : ∃ x, wo[j0]? = some x := ⟨wo[j0], List.getElem?_eq_getElem hj0⟩
      obtain ⟨O0, gO0, t0, rfl, hO0⟩ := pget pO gx0
      have hp0 := permO O0 (List.mem_of_getElem? gO0)
      have lO0 : O0.length ≤ 20 := by rw [hp0.length_eq]; omega
      refine for_iterW ?_
      walk_at "rd"
      refine ⟨_, .inl (SqL.of h7), by omega, ?_⟩
      rw [ej]
      refine ⟨_, SqL.of h7, _, atI_nat gx0, ⟨by decide, by decide⟩, ?_⟩
      refine ⟨t0, r, c2 / 120, O0, rfl, hO0, lO0, hr1, fun wr Us lwr H1 s1 n1 h1 pU lU lenU => ?_⟩
      obtain ⟨Pv, hPv⟩ : ∃ Pv : Nat → _root_.L2.St → Hp → Prop, Pv = (fun i σ H'' => ∃ v14 : Option V, σ = [some (.ref a), some (.ref ln), some (.int r), some (.ref ld), some (.ref lm), some (.ref zp), some (.ref lc), some v, some (.ref y), some (.ref lp), some (.ref lps), some (.ref lhe), some (.ref low), some (.ref lo), v14, v15, some (.int c2), none, none, none, none, none, none] ∧ Same H1 H'') := ⟨_, rfl⟩
      refine ⟨lwr, rfl, ⟨_, SqL.of h1⟩, for_list (K := K) (a := lwr) (xs := wr) Pv (by rw [hPv]; exact ⟨v14, rfl, fun _ _ e => e⟩) (fun i σ H'' _ pv => by rw [hPv] at pv; obtain ⟨_, _, sm⟩ := pv; exact SqL.of (sm _ _ h1)) (fun i x σ H'' gx pv => ?_) (fun σ H'' pv => ?_)⟩
      · rw [hPv] at pv
        obtain ⟨v14, rfl, sm⟩ := pv
        obtain ⟨O, gO, to, rfl, hO⟩ := pget pU gx
        have lO := lU O (List.mem_of_getElem? gO)
        have hO := hO.same sm
        have sm0 := sm
        have sm := s1.trans sm
        walk_at "rd"
        refine ⟨y, to, v, r, D, own, L, O, rfl, hh7.same sm, hf7.kt (KT.same sm), hO, lO, sm _ _ hTo7, fun H2 s2 => ?_⟩
        have sm2 := sm.trans s2
        refine ⟨lps, lhe, low, to, pw, r, L, O, Ps, rfl, sm2 _ _ hps7, rlP7.kt (KT.same sm2), sm2 _ _ hhe7, sm2 _ _ how7, hO.same s2, lO, hr12, by omega, wkc, fun k H3 s3 hk => ?_⟩
        have ek : keepB D r L O = k := by
          rw [Bool.eq_iff_iff, hk]
          exact keep_iff hr12 dok hPs
        rw [ek]
        refine ⟨_, _, rfl, Sm.flat rfl, ⟨true, rfl, ?_⟩⟩
        rw [if_neg (by decide), hPv]
        refine ⟨_, rfl, ?_⟩
        exact (sm0.trans s2).trans s3
      · rw [hPv] at pv
        obtain ⟨v14, rfl, sm⟩ := pv
        have sm := s1.trans sm
        refine hN _ _ ?_
        clear hN N
        clear hPv Pv
        have h7 := sm _ _ h7
        have hO0 := hO0.same sm
        have hps7 := sm _ _ hps7
        have rlP7 := rlP7.kt (KT.same sm)
        have hhe7 := sm _ _ hhe7
        have how7 := sm _ _ how7
        have hf7 := hf7.kt (KT.same sm)
        have hh7 := hh7.same sm
        have hld7 := sm _ _ hld7
        have pD7 := pD7.kt (KT.same sm)
        have hlc7 := sm _ _ hlc7
        have lg7 := lg7.kt (KT.same sm)
        have hTo7 := sm _ _ hTo7
        have q7 : ∀ H3, Same H'' H3 → Q (.bl true) H3 := fun H3 x => q7 H3 (sm.trans x)
        clear s1 n1 h1 pU sm
        refine sq2 fun N hN => ?_
        unfold tRevL
        walk_at "rd"
        refine ⟨_, .inl (SqL.of h7), by omega, _, SqL.of h7, V.ref t0, (by rw [ej]; exact atI_nat gx0), _, SqL.of hlc7, fun rv nrv => hN _ _ ?_⟩
        clear hN N
        have w1 := same_upd (o := HO.lst gs.reverse) nrv
        have hrv := upd_same (H := H'') (a := rv) (o := HO.lst gs.reverse)
        generalize upd H'' rv (HO.lst gs.reverse) = G8 at w1 hrv ⊢
        have lgr : LG G8 gs.reverse L.reverse := paired_revK (lg7.kt (KT.same w1))
        have wkr : ∀ c ∈ L.reverse, wk 17 c.2 := fun c hc => wkc c (List.mem_reverse.mp hc)
        have lenR : L.reverse.length ≤ 100 := by rw [List.length_reverse]; exact lenL
        generalize L.reverse = Lr at lgr wkr lenR
        generalize gs.reverse = gr at hrv lgr
        have hps8 := w1 _ _ hps7
        have rlP8 := rlP7.kt (KT.same w1)
        refine sq2 fun N hN => ?_
        walk_at "rd"
        refine lcW ?_
        walk_at "rd"
        refine ⟨by omega, by omega, ?_⟩
        rw [Int.toNat_natCast]
        refine gc_range (fun _ v b => v = optS b) (fun _ _ _ _ h _ => h) (fun j : Nat => some (wordP Lr [(j : Int)])) (by omega) (fun j Hy A B jl sy hA hB => ?_) fun low2 ys G9 v9 n9 h9 p9 => ?_
        · rw [Int.zero_add]
          walk_at "rd"
          rw [if_pos trivial]
          refine ⟨by decide, fun p0 np0 => ?_⟩
          have t0 := same_upd (o := HO.lst [V.int (j : Int)]) np0
          have s0 := sy.trans t0
          refine ⟨rv, p0, gr, Lr, [(j : Int)], rfl, s0 _ _ hrv, lgr.kt (KT.same s0), .inl (SqL.of upd_same), hA _ _ _ rfl t0 ?_⟩
          unfold wordP
          cases lastIn [(j : Int)] Lr <;> rfl
        rw [own_map r (fun x => wordP Lr [x]) p9] at h9
        clear p9
        have hrv9 := v9 _ _ hrv
        have lgr9 := lgr.kt (KT.same v9)
        refine lcW ?_
        walk_at "rd"
        have hps9 := v9 _ _ hps8
        have rlP9 := rlP8.kt (KT.same v9)
        refine ⟨⟨_, SqL.of hps9⟩, gc_list (fun _ v b => v = optS b) (fun _ _ _ _ h _ => h) (fun j => Ps[j]?.bind fun P => some (wordP Lr P)) hps9 (by rw [rlP9.length]; omega) (fun j x Hy A B gx sy hA hB => ?_) fun lhe2 ys GA vA nA hA pA => hN _ _ ?_⟩
        · obtain ⟨P, gP, tp, rfl, htp⟩ := pget rlP9 gx
          rw [gP] at hA
          walk_at "rd"
          rw [if_pos trivial]
          refine ⟨rv, tp, gr, Lr, P, rfl, sy _ _ hrv9, lgr9.kt (KT.same sy), .inr (SqT.of (sy _ _ htp)), hA _ _ _ rfl (Same.refl _) ?_⟩
          unfold wordP
          cases lastIn P Lr <;> rfl
        have eA : (List.range pw.length).filterMap (fun j => Ps[j]?.bind fun P => some (wordP Lr P)) = Ps.map (wordP Lr) := by
          rw [rlP9.length, fm_range (L := Ps) (fun P => some (wordP Lr P))]
          show List.filterMap (some ∘ wordP Lr) Ps = _
          rw [List.filterMap_eq_map]
        rw [eA] at pA
        have ey : ys = (Ps.map (wordP Lr)).map optS := paired_map pA
        rw [ey] at hA
        clear ey eA pA hN N
        have w3 := (w1.trans v9).trans vA
        refine sq1 fun N hN => ?_
        walk_at "rd"
        refine ⟨RgOk.of_le (by omega) (by omega) (by omega) (by omega), fun e1 ne1 => ?_⟩
        rw [rgV_rg]
        have x1 := same_upd (o := HO.lst ((rg r).map V.int)) ne1
        have he1 := upd_same (H := GA) (a := e1) (o := HO.lst ((rg r).map V.int))
        generalize upd GA e1 (HO.lst ((rg r).map V.int)) = GB at x1 he1 ⊢
        have w4 := w3.trans x1
        have y4 := (v9.trans vA).trans x1
        refine ⟨ld, rv, e1, us, gr, D, Lr, rg r, rfl, w4 _ _ hld7, pD7.kt (KT.same w4), y4 _ _ hrv, lgr.kt (KT.same y4), he1, by rw [rg_len]; exact hr12, by decide, fun x hx => (rg_mem2 hx).1, fun v2 GC x2 hfr => ?_⟩
        have w5 := w4.trans x2
        refine ⟨y, t0, v2, r, D, own, Lr, O0, rfl, hh7.same w5, hfr, hO0.same w5, by omega, w5 _ _ hTo7, fun GD x3 => hN _ _ ?_⟩
        clear hN N
        have w6 := w5.trans x3
        have z6 := (vA.trans x1).trans (x2.trans x3)
        refine sq1 fun N hN => ?_
        walk_at "rd"
        have z7 := (x1.trans x2).trans x3
        refine ⟨lps, lhe2, low2, t0, pw, r, Lr, O0, Ps, rfl, w6 _ _ hps7, rlP7.kt (KT.same w6), z7 _ _ hA, z6 _ _ h9, hO0.same w6, by omega, hr12, by omega, wkr, fun k GE x4 hk => ?_⟩
        have ek : keepB D r Lr O0 = k := by
          rw [Bool.eq_iff_iff, hk]
          exact keep_iff hr12 dok hPs
        rw [ek]
        refine ⟨_, _, rfl, Sm.flat rfl, ⟨true, rfl, ?_⟩⟩
        rw [if_neg (by decide)]
        refine hN _ _ ?_
        clear hN N
        have w7 := w6.trans x4
        walk_at "rd"
        refine ⟨y, t0, v, r, D, own, L, O0, rfl, hh7.same w7, hf7.kt (KT.same w7), hO0.same w7, by omega, w7 _ _ hTo7, fun GF x5 => ?_⟩
        have w8 := w7.trans x5
        refine ⟨lps, lhe, low, t0, pw, r, L, O0, Ps, rfl, w8 _ _ hps7, rlP7.kt (KT.same w8), w8 _ _ hhe7, w8 _ _ how7, hO0.same w8, by omega, hr12, by omega, wkc, fun k GG x6 hk => ?_⟩
        have ek : keepB D r L O0 = k := by
          rw [Bool.eq_iff_iff, hk]
          exact keep_iff hr12 dok hPs
        rw [ek]
        exact ⟨_, _, rfl, Sm.flat rfl, q7 _ (w8.trans x6)⟩
end

set_option maxHeartbeats 8000000 in
theorem all_mk {l : PySem.W.OpenLaw} {w : World} {K : PySem.W.Frag} {h : Heap} {mg : Str → Option Value} {fa : Addr} (X : K.In h) (G : h.Ns mainGlobals mg) (hfa : mg "law" = some (.ref fa))
    {f_check_room_count : Addr} {od_check_room_count an_check_room_count : Option Addr} {sl_check_room_count : Array (Option Value)} {oc_check_room_count kV_check_room_count dc_check_room_count pm_check_room_count cd_check_room_count ct_check_room_count : Value}
    {f_checked_doors : Addr} {od_checked_doors an_checked_doors : Option Addr} {sl_checked_doors : Array (Option Value)} {oc_checked_doors kV_checked_doors dc_checked_doors pm_checked_doors cd_checked_doors ct_checked_doors : Value}
    {f__law_cell : Addr} {od__law_cell an__law_cell : Option Addr} {sl__law_cell : Array (Option Value)} {oc__law_cell kV__law_cell dc__law_cell pm__law_cell cd__law_cell ct__law_cell : Value}
    {f__law_numbers : Addr} {od__law_numbers an__law_numbers : Option Addr} {sl__law_numbers : Array (Option Value)} {oc__law_numbers kV__law_numbers dc__law_numbers pm__law_numbers cd__law_numbers ct__law_numbers : Value}
    {f__law_names : Addr} {od__law_names an__law_names : Option Addr} {sl__law_names : Array (Option Value)} {oc__law_names kV__law_names dc__law_names pm__law_names cd__law_names ct__law_names : Value}
    {f__law_joined : Addr} {od__law_joined an__law_joined : Option Addr} {sl__law_joined : Array (Option Value)} {oc__law_joined kV__law_joined dc__law_joined pm__law_joined cd__law_joined ct__law_joined : Value}
    {f__law_doors : Addr} {od__law_doors an__law_doors : Option Addr} {sl__law_doors : Array (Option Value)} {oc__law_doors kV__law_doors dc__law_doors pm__law_doors cd__law_doors ct__law_doors : Value}
    {f__law_pool : Addr} {od__law_pool an__law_pool : Option Addr} {sl__law_pool : Array (Option Value)} {oc__law_pool kV__law_pool dc__law_pool pm__law_pool cd__law_pool ct__law_pool : Value}
    {f__law_choice : Addr} {od__law_choice an__law_choice : Option Addr} {sl__law_choice : Array (Option Value)} {oc__law_choice kV__law_choice dc__law_choice pm__law_choice cd__law_choice ct__law_choice : Value}
    {f__law_log : Addr} {od__law_log an__law_log : Option Addr} {sl__law_log : Array (Option Value)} {oc__law_log kV__law_log dc__law_log pm__law_log cd__law_log ct__law_log : Value}
    {f__law_calls : Addr} {od__law_calls an__law_calls : Option Addr} {sl__law_calls : Array (Option Value)} {oc__law_calls kV__law_calls dc__law_calls pm__law_calls cd__law_calls ct__law_calls : Value}
    {f__law_reach : Addr} {od__law_reach an__law_reach : Option Addr} {sl__law_reach : Array (Option Value)} {oc__law_reach kV__law_reach dc__law_reach pm__law_reach cd__law_reach ct__law_reach : Value}
    {f__law_pieces : Addr} {od__law_pieces an__law_pieces : Option Addr} {sl__law_pieces : Array (Option Value)} {oc__law_pieces kV__law_pieces dc__law_pieces pm__law_pieces cd__law_pieces ct__law_pieces : Value}
    {f__law_top : Addr} {od__law_top an__law_top : Option Addr} {sl__law_top : Array (Option Value)} {oc__law_top kV__law_top dc__law_top pm__law_top cd__law_top ct__law_top : Value}
    {f__law_word_of : Addr} {od__law_word_of an__law_word_of : Option Addr} {sl__law_word_of : Array (Option Value)} {oc__law_word_of kV__law_word_of dc__law_word_of pm__law_word_of cd__law_word_of ct__law_word_of : Value}
    {f__law_tops : Addr} {od__law_tops an__law_tops : Option Addr} {sl__law_tops : Array (Option Value)} {oc__law_tops kV__law_tops dc__law_tops pm__law_tops cd__law_tops ct__law_tops : Value}
    {f__law_form : Addr} {od__law_form an__law_form : Option Addr} {sl__law_form : Array (Option Value)} {oc__law_form kV__law_form dc__law_form pm__law_form cd__law_form ct__law_form : Value}
    {f_blocks : Addr} {od_blocks an_blocks : Option Addr} {sl_blocks : Array (Option Value)} {oc_blocks kV_blocks dc_blocks pm_blocks cd_blocks ct_blocks : Value}
    {f_block_rooms : Addr} {od_block_rooms an_block_rooms : Option Addr} {sl_block_rooms : Array (Option Value)} {oc_block_rooms kV_block_rooms dc_block_rooms pm_block_rooms cd_block_rooms ct_block_rooms : Value}
    {f_is_beside : Addr} {od_is_beside an_is_beside : Option Addr} {sl_is_beside : Array (Option Value)} {oc_is_beside kV_is_beside dc_is_beside pm_is_beside cd_is_beside ct_is_beside : Value}
    {f_pairs_between : Addr} {od_pairs_between an_pairs_between : Option Addr} {sl_pairs_between : Array (Option Value)} {oc_pairs_between kV_pairs_between dc_pairs_between pm_pairs_between cd_pairs_between ct_pairs_between : Value}
    {f_forced_pairs : Addr} {od_forced_pairs an_forced_pairs : Option Addr} {sl_forced_pairs : Array (Option Value)} {oc_forced_pairs kV_forced_pairs dc_forced_pairs pm_forced_pairs cd_forced_pairs ct_forced_pairs : Value}
    {f_last_calls : Addr} {od_last_calls an_last_calls : Option Addr} {sl_last_calls : Array (Option Value)} {oc_last_calls kV_last_calls dc_last_calls pm_last_calls cd_last_calls ct_last_calls : Value}
    {f_last_call_in : Addr} {od_last_call_in an_last_call_in : Option Addr} {sl_last_call_in : Array (Option Value)} {oc_last_call_in kV_last_call_in dc_last_call_in pm_last_call_in cd_last_call_in ct_last_call_in : Value}
    {f_word_of : Addr} {od_word_of an_word_of : Option Addr} {sl_word_of : Array (Option Value)} {oc_word_of kV_word_of dc_word_of pm_word_of cd_word_of ct_word_of : Value}
    {f_first_paths : Addr} {od_first_paths an_first_paths : Option Addr} {sl_first_paths : Array (Option Value)} {oc_first_paths kV_first_paths dc_first_paths pm_first_paths cd_first_paths ct_first_paths : Value}
    {f_reached : Addr} {od_reached an_reached : Option Addr} {sl_reached : Array (Option Value)} {oc_reached kV_reached dc_reached pm_reached cd_reached ct_reached : Value}
    {f_pieces : Addr} {od_pieces an_pieces : Option Addr} {sl_pieces : Array (Option Value)} {oc_pieces kV_pieces dc_pieces pm_pieces cd_pieces ct_pieces : Value}
    {f_top_room : Addr} {od_top_room an_top_room : Option Addr} {sl_top_room : Array (Option Value)} {oc_top_room kV_top_room dc_top_room pm_top_room cd_top_room ct_top_room : Value}
    {f_called_keepers : Addr} {od_called_keepers an_called_keepers : Option Addr} {sl_called_keepers : Array (Option Value)} {oc_called_keepers kV_called_keepers dc_called_keepers pm_called_keepers cd_called_keepers ct_called_keepers : Value}
    {co_form_of tb_form_of : Addr}
    {f_form_of : Addr} {od_form_of an_form_of : Option Addr} {sl_form_of : Array (Option Value)} {oc_form_of kV_form_of dc_form_of pm_form_of cd_form_of ct_form_of : Value}
    {f__law_same : Addr} {od__law_same an__law_same : Option Addr} {sl__law_same : Array (Option Value)} {oc__law_same kV__law_same dc__law_same pm__law_same cd__law_same ct__law_same : Value}
    {f__law_are_pairs : Addr} {od__law_are_pairs an__law_are_pairs : Option Addr} {sl__law_are_pairs : Array (Option Value)} {oc__law_are_pairs kV__law_are_pairs dc__law_are_pairs pm__law_are_pairs cd__law_are_pairs ct__law_are_pairs : Value}
    {f__law_parts : Addr} {od__law_parts an__law_parts : Option Addr} {sl__law_parts : Array (Option Value)} {oc__law_parts kV__law_parts dc__law_parts pm__law_parts cd__law_parts ct__law_parts : Value}
    {f__law_orders : Addr} {od__law_orders an__law_orders : Option Addr} {sl__law_orders : Array (Option Value)} {oc__law_orders kV__law_orders dc__law_orders pm__law_orders cd__law_orders ct__law_orders : Value}
    {f__law_leaves : Addr} {od__law_leaves an__law_leaves : Option Addr} {sl__law_leaves : Array (Option Value)} {oc__law_leaves kV__law_leaves dc__law_leaves pm__law_leaves cd__law_leaves ct__law_leaves : Value}
    {f_words_by_form : Addr} {od_words_by_form an_words_by_form : Option Addr} {sl_words_by_form : Array (Option Value)} {oc_words_by_form kV_words_by_form dc_words_by_form pm_words_by_form cd_words_by_form ct_words_by_form : Value}
    {f_called_rooms : Addr} {od_called_rooms an_called_rooms : Option Addr} {sl_called_rooms : Array (Option Value)} {oc_called_rooms kV_called_rooms dc_called_rooms pm_called_rooms cd_called_rooms ct_called_rooms : Value}
    {f_called_by_form : Addr} {od_called_by_form an_called_by_form : Option Addr} {sl_called_by_form : Array (Option Value)} {oc_called_by_form kV_called_by_form dc_called_by_form pm_called_by_form cd_called_by_form ct_called_by_form : Value}
    {co_obeys_pairs tb_obeys_pairs : Addr}
    {f_obeys_pairs : Addr} {od_obeys_pairs an_obeys_pairs : Option Addr} {sl_obeys_pairs : Array (Option Value)} {oc_obeys_pairs kV_obeys_pairs dc_obeys_pairs pm_obeys_pairs cd_obeys_pairs ct_obeys_pairs : Value}
    {f_keeps_form : Addr} {od_keeps_form an_keeps_form : Option Addr} {sl_keeps_form : Array (Option Value)} {oc_keeps_form kV_keeps_form dc_keeps_form pm_keeps_form cd_keeps_form ct_keeps_form : Value}
    {f__law_keeps : Addr} {od__law_keeps an__law_keeps : Option Addr} {sl__law_keeps : Array (Option Value)} {oc__law_keeps kV__law_keeps dc__law_keeps pm__law_keeps cd__law_keeps ct__law_keeps : Value}
    {f__law_wrong : Addr} {od__law_wrong an__law_wrong : Option Addr} {sl__law_wrong : Array (Option Value)} {oc__law_wrong kV__law_wrong dc__law_wrong pm__law_wrong cd__law_wrong ct__law_wrong : Value}
    {co_build_form tb_build_form : Addr}
    {f_build_form : Addr} {od_build_form an_build_form : Option Addr} {sl_build_form : Array (Option Value)} {oc_build_form kV_build_form dc_build_form pm_build_form cd_build_form ct_build_form : Value}
    {f_law : Addr} {od_law an_law : Option Addr} {sl_law : Array (Option Value)} {oc_law kV_law dc_law pm_law cd_law ct_law : Value}
    {f_m_init_ : Addr} {od_m_init_ an_m_init_ : Option Addr} {sl_m_init_ : Array (Option Value)} {oc_m_init_ kV_m_init_ dc_m_init_ pm_m_init_ cd_m_init_ ct_m_init_ : Value}
    {f_mneighbours : Addr} {od_mneighbours an_mneighbours : Option Addr} {sl_mneighbours : Array (Option Value)} {oc_mneighbours kV_mneighbours dc_mneighbours pm_mneighbours cd_mneighbours ct_mneighbours : Value}
    {C : Addr}
    {tk_MOST_ROOMS : Tok}
    (aC : PySem.W.nsIn K mainGlobals "House" = some (some (.ref C)))
    (pg : PySem.W.plainGet K C Str.empty = true)
    (hd : PySem.W.hasDictIn K C = true)
    (po : PySem.W.plainOver K C = true)
    (sa : PySem.W.findIn K (.ref C) "__setattr__" = some (some (.builtin "object.__setattr__")))
    (mk : PySem.W.makesIn K C = true)
    (kc : PySem.W.keepIn K (.ref C) = true)
    (a_check_room_count : PySem.W.nsIn K mainGlobals "check_room_count" = some (some (.ref f_check_room_count)))
    (l_check_room_count : K.lookup f_check_room_count = some ⟨oc_check_room_count, od_check_room_count, .func (PySem.W.fnOf "check_room_count" "check_room_count" (defArgs sRoom) (defBody sRoom) (defScope sRoom) .none kV_check_room_count dc_check_room_count pm_check_room_count an_check_room_count cd_check_room_count ct_check_room_count), sl_check_room_count⟩)
    (c_check_room_count : PySem.W.codeIn K cd_check_room_count "check_room_count" = true)
    (k_check_room_count : PySem.W.keepIn K (.ref f_check_room_count) = true)
    (a_checked_doors : PySem.W.nsIn K mainGlobals "checked_doors" = some (some (.ref f_checked_doors)))
    (l_checked_doors : K.lookup f_checked_doors = some ⟨oc_checked_doors, od_checked_doors, .func (PySem.W.fnOf "checked_doors" "checked_doors" (defArgs sChk) (defBody sChk) (defScope sChk) .none kV_checked_doors dc_checked_doors pm_checked_doors an_checked_doors cd_checked_doors ct_checked_doors), sl_checked_doors⟩)
    (c_checked_doors : PySem.W.codeIn K cd_checked_doors "checked_doors" = true)
    (k_checked_doors : PySem.W.keepIn K (.ref f_checked_doors) = true)
    (a__law_cell : PySem.W.nsIn K mainGlobals "_law_cell" = some (some (.ref f__law_cell)))
    (l__law_cell : K.lookup f__law_cell = some ⟨oc__law_cell, od__law_cell, .func (PySem.W.fnOf "_law_cell" "_law_cell" (defArgs sCell) (defBody sCell) (defScope sCell) .none kV__law_cell dc__law_cell pm__law_cell an__law_cell cd__law_cell ct__law_cell), sl__law_cell⟩)
    (c__law_cell : PySem.W.codeIn K cd__law_cell "_law_cell" = true)
    (k__law_cell : PySem.W.keepIn K (.ref f__law_cell) = true)
    (a__law_numbers : PySem.W.nsIn K mainGlobals "_law_numbers" = some (some (.ref f__law_numbers)))
    (l__law_numbers : K.lookup f__law_numbers = some ⟨oc__law_numbers, od__law_numbers, .func (PySem.W.fnOf "_law_numbers" "_law_numbers" (defArgs sNum) (defBody sNum) (defScope sNum) .none kV__law_numbers dc__law_numbers pm__law_numbers an__law_numbers cd__law_numbers ct__law_numbers), sl__law_numbers⟩)
    (c__law_numbers : PySem.W.codeIn K cd__law_numbers "_law_numbers" = true)
    (k__law_numbers : PySem.W.keepIn K (.ref f__law_numbers) = true)
    (a__law_names : PySem.W.nsIn K mainGlobals "_law_names" = some (some (.ref f__law_names)))
    (l__law_names : K.lookup f__law_names = some ⟨oc__law_names, od__law_names, .func (PySem.W.fnOf "_law_names" "_law_names" (defArgs sNam) (defBody sNam) (defScope sNam) .none kV__law_names dc__law_names pm__law_names an__law_names cd__law_names ct__law_names), sl__law_names⟩)
    (c__law_names : PySem.W.codeIn K cd__law_names "_law_names" = true)
    (k__law_names : PySem.W.keepIn K (.ref f__law_names) = true)
    (a__law_joined : PySem.W.nsIn K mainGlobals "_law_joined" = some (some (.ref f__law_joined)))
    (l__law_joined : K.lookup f__law_joined = some ⟨oc__law_joined, od__law_joined, .func (PySem.W.fnOf "_law_joined" "_law_joined" (defArgs sJnd) (defBody sJnd) (defScope sJnd) .none kV__law_joined dc__law_joined pm__law_joined an__law_joined cd__law_joined ct__law_joined), sl__law_joined⟩)
    (c__law_joined : PySem.W.codeIn K cd__law_joined "_law_joined" = true)
    (k__law_joined : PySem.W.keepIn K (.ref f__law_joined) = true)
    (a__law_doors : PySem.W.nsIn K mainGlobals "_law_doors" = some (some (.ref f__law_doors)))
    (l__law_doors : K.lookup f__law_doors = some ⟨oc__law_doors, od__law_doors, .func (PySem.W.fnOf "_law_doors" "_law_doors" (defArgs sDrs) (defBody sDrs) (defScope sDrs) .none kV__law_doors dc__law_doors pm__law_doors an__law_doors cd__law_doors ct__law_doors), sl__law_doors⟩)
    (c__law_doors : PySem.W.codeIn K cd__law_doors "_law_doors" = true)
    (k__law_doors : PySem.W.keepIn K (.ref f__law_doors) = true)
    (a__law_pool : PySem.W.nsIn K mainGlobals "_law_pool" = some (some (.ref f__law_pool)))
    (l__law_pool : K.lookup f__law_pool = some ⟨oc__law_pool, od__law_pool, .func (PySem.W.fnOf "_law_pool" "_law_pool" (defArgs sPo6) (defBody sPo6) (defScope sPo6) .none kV__law_pool dc__law_pool pm__law_pool an__law_pool cd__law_pool ct__law_pool), sl__law_pool⟩)
    (c__law_pool : PySem.W.codeIn K cd__law_pool "_law_pool" = true)
    (k__law_pool : PySem.W.keepIn K (.ref f__law_pool) = true)
    (a__law_choice : PySem.W.nsIn K mainGlobals "_law_choice" = some (some (.ref f__law_choice)))
    (l__law_choice : K.lookup f__law_choice = some ⟨oc__law_choice, od__law_choice, .func (PySem.W.fnOf "_law_choice" "_law_choice" (defArgs sCho) (defBody sCho) (defScope sCho) .none kV__law_choice dc__law_choice pm__law_choice an__law_choice cd__law_choice ct__law_choice), sl__law_choice⟩)
    (c__law_choice : PySem.W.codeIn K cd__law_choice "_law_choice" = true)
    (k__law_choice : PySem.W.keepIn K (.ref f__law_choice) = true)
    (a__law_log : PySem.W.nsIn K mainGlobals "_law_log" = some (some (.ref f__law_log)))
    (l__law_log : K.lookup f__law_log = some ⟨oc__law_log, od__law_log, .func (PySem.W.fnOf "_law_log" "_law_log" (defArgs sLlg) (defBody sLlg) (defScope sLlg) .none kV__law_log dc__law_log pm__law_log an__law_log cd__law_log ct__law_log), sl__law_log⟩)
    (c__law_log : PySem.W.codeIn K cd__law_log "_law_log" = true)
    (k__law_log : PySem.W.keepIn K (.ref f__law_log) = true)
    (a__law_calls : PySem.W.nsIn K mainGlobals "_law_calls" = some (some (.ref f__law_calls)))
    (l__law_calls : K.lookup f__law_calls = some ⟨oc__law_calls, od__law_calls, .func (PySem.W.fnOf "_law_calls" "_law_calls" (defArgs sLcs) (defBody sLcs) (defScope sLcs) .none kV__law_calls dc__law_calls pm__law_calls an__law_calls cd__law_calls ct__law_calls), sl__law_calls⟩)
    (c__law_calls : PySem.W.codeIn K cd__law_calls "_law_calls" = true)
    (k__law_calls : PySem.W.keepIn K (.ref f__law_calls) = true)
    (a__law_reach : PySem.W.nsIn K mainGlobals "_law_reach" = some (some (.ref f__law_reach)))
    (l__law_reach : K.lookup f__law_reach = some ⟨oc__law_reach, od__law_reach, .func (PySem.W.fnOf "_law_reach" "_law_reach" (defArgs sLre) (defBody sLre) (defScope sLre) .none kV__law_reach dc__law_reach pm__law_reach an__law_reach cd__law_reach ct__law_reach), sl__law_reach⟩)
    (c__law_reach : PySem.W.codeIn K cd__law_reach "_law_reach" = true)
    (k__law_reach : PySem.W.keepIn K (.ref f__law_reach) = true)
    (a__law_pieces : PySem.W.nsIn K mainGlobals "_law_pieces" = some (some (.ref f__law_pieces)))
    (l__law_pieces : K.lookup f__law_pieces = some ⟨oc__law_pieces, od__law_pieces, .func (PySem.W.fnOf "_law_pieces" "_law_pieces" (defArgs sLpc) (defBody sLpc) (defScope sLpc) .none kV__law_pieces dc__law_pieces pm__law_pieces an__law_pieces cd__law_pieces ct__law_pieces), sl__law_pieces⟩)
    (c__law_pieces : PySem.W.codeIn K cd__law_pieces "_law_pieces" = true)
    (k__law_pieces : PySem.W.keepIn K (.ref f__law_pieces) = true)
    (a__law_top : PySem.W.nsIn K mainGlobals "_law_top" = some (some (.ref f__law_top)))
    (l__law_top : K.lookup f__law_top = some ⟨oc__law_top, od__law_top, .func (PySem.W.fnOf "_law_top" "_law_top" (defArgs sLtop) (defBody sLtop) (defScope sLtop) .none kV__law_top dc__law_top pm__law_top an__law_top cd__law_top ct__law_top), sl__law_top⟩)
    (c__law_top : PySem.W.codeIn K cd__law_top "_law_top" = true)
    (k__law_top : PySem.W.keepIn K (.ref f__law_top) = true)
    (a__law_word_of : PySem.W.nsIn K mainGlobals "_law_word_of" = some (some (.ref f__law_word_of)))
    (l__law_word_of : K.lookup f__law_word_of = some ⟨oc__law_word_of, od__law_word_of, .func (PySem.W.fnOf "_law_word_of" "_law_word_of" (defArgs sLwof) (defBody sLwof) (defScope sLwof) .none kV__law_word_of dc__law_word_of pm__law_word_of an__law_word_of cd__law_word_of ct__law_word_of), sl__law_word_of⟩)
    (c__law_word_of : PySem.W.codeIn K cd__law_word_of "_law_word_of" = true)
    (k__law_word_of : PySem.W.keepIn K (.ref f__law_word_of) = true)
    (a__law_tops : PySem.W.nsIn K mainGlobals "_law_tops" = some (some (.ref f__law_tops)))
    (l__law_tops : K.lookup f__law_tops = some ⟨oc__law_tops, od__law_tops, .func (PySem.W.fnOf "_law_tops" "_law_tops" (defArgs sLts) (defBody sLts) (defScope sLts) .none kV__law_tops dc__law_tops pm__law_tops an__law_tops cd__law_tops ct__law_tops), sl__law_tops⟩)
    (c__law_tops : PySem.W.codeIn K cd__law_tops "_law_tops" = true)
    (k__law_tops : PySem.W.keepIn K (.ref f__law_tops) = true)
    (a__law_form : PySem.W.nsIn K mainGlobals "_law_form" = some (some (.ref f__law_form)))
    (l__law_form : K.lookup f__law_form = some ⟨oc__law_form, od__law_form, .func (PySem.W.fnOf "_law_form" "_law_form" (defArgs sLf) (defBody sLf) (defScope sLf) .none kV__law_form dc__law_form pm__law_form an__law_form cd__law_form ct__law_form), sl__law_form⟩)
    (c__law_form : PySem.W.codeIn K cd__law_form "_law_form" = true)
    (k__law_form : PySem.W.keepIn K (.ref f__law_form) = true)
    (a_blocks : PySem.W.nsIn K mainGlobals "blocks" = some (some (.ref f_blocks)))
    (l_blocks : K.lookup f_blocks = some ⟨oc_blocks, od_blocks, .func (PySem.W.fnOf "blocks" "blocks" (defArgs sBlc) (defBody sBlc) (defScope sBlc) .none kV_blocks dc_blocks pm_blocks an_blocks cd_blocks ct_blocks), sl_blocks⟩)
    (c_blocks : PySem.W.codeIn K cd_blocks "blocks" = true)
    (k_blocks : PySem.W.keepIn K (.ref f_blocks) = true)
    (a_block_rooms : PySem.W.nsIn K mainGlobals "block_rooms" = some (some (.ref f_block_rooms)))
    (l_block_rooms : K.lookup f_block_rooms = some ⟨oc_block_rooms, od_block_rooms, .func (PySem.W.fnOf "block_rooms" "block_rooms" (defArgs sBrm) (defBody sBrm) (defScope sBrm) .none kV_block_rooms dc_block_rooms pm_block_rooms an_block_rooms cd_block_rooms ct_block_rooms), sl_block_rooms⟩)
    (c_block_rooms : PySem.W.codeIn K cd_block_rooms "block_rooms" = true)
    (k_block_rooms : PySem.W.keepIn K (.ref f_block_rooms) = true)
    (a_is_beside : PySem.W.nsIn K mainGlobals "is_beside" = some (some (.ref f_is_beside)))
    (l_is_beside : K.lookup f_is_beside = some ⟨oc_is_beside, od_is_beside, .func (PySem.W.fnOf "is_beside" "is_beside" (defArgs sIb) (defBody sIb) (defScope sIb) .none kV_is_beside dc_is_beside pm_is_beside an_is_beside cd_is_beside ct_is_beside), sl_is_beside⟩)
    (c_is_beside : PySem.W.codeIn K cd_is_beside "is_beside" = true)
    (k_is_beside : PySem.W.keepIn K (.ref f_is_beside) = true)
    (a_pairs_between : PySem.W.nsIn K mainGlobals "pairs_between" = some (some (.ref f_pairs_between)))
    (l_pairs_between : K.lookup f_pairs_between = some ⟨oc_pairs_between, od_pairs_between, .func (PySem.W.fnOf "pairs_between" "pairs_between" (defArgs sPb) (defBody sPb) (defScope sPb) .none kV_pairs_between dc_pairs_between pm_pairs_between an_pairs_between cd_pairs_between ct_pairs_between), sl_pairs_between⟩)
    (c_pairs_between : PySem.W.codeIn K cd_pairs_between "pairs_between" = true)
    (k_pairs_between : PySem.W.keepIn K (.ref f_pairs_between) = true)
    (a_forced_pairs : PySem.W.nsIn K mainGlobals "forced_pairs" = some (some (.ref f_forced_pairs)))
    (l_forced_pairs : K.lookup f_forced_pairs = some ⟨oc_forced_pairs, od_forced_pairs, .func (PySem.W.fnOf "forced_pairs" "forced_pairs" (defArgs sFrp) (defBody sFrp) (defScope sFrp) .none kV_forced_pairs dc_forced_pairs pm_forced_pairs an_forced_pairs cd_forced_pairs ct_forced_pairs), sl_forced_pairs⟩)
    (c_forced_pairs : PySem.W.codeIn K cd_forced_pairs "forced_pairs" = true)
    (k_forced_pairs : PySem.W.keepIn K (.ref f_forced_pairs) = true)
    (a_last_calls : PySem.W.nsIn K mainGlobals "last_calls" = some (some (.ref f_last_calls)))
    (l_last_calls : K.lookup f_last_calls = some ⟨oc_last_calls, od_last_calls, .func (PySem.W.fnOf "last_calls" "last_calls" (defArgs sLast) (defBody sLast) (defScope sLast) .none kV_last_calls dc_last_calls pm_last_calls an_last_calls cd_last_calls ct_last_calls), sl_last_calls⟩)
    (c_last_calls : PySem.W.codeIn K cd_last_calls "last_calls" = true)
    (k_last_calls : PySem.W.keepIn K (.ref f_last_calls) = true)
    (a_last_call_in : PySem.W.nsIn K mainGlobals "last_call_in" = some (some (.ref f_last_call_in)))
    (l_last_call_in : K.lookup f_last_call_in = some ⟨oc_last_call_in, od_last_call_in, .func (PySem.W.fnOf "last_call_in" "last_call_in" (defArgs sLci) (defBody sLci) (defScope sLci) .none kV_last_call_in dc_last_call_in pm_last_call_in an_last_call_in cd_last_call_in ct_last_call_in), sl_last_call_in⟩)
    (c_last_call_in : PySem.W.codeIn K cd_last_call_in "last_call_in" = true)
    (k_last_call_in : PySem.W.keepIn K (.ref f_last_call_in) = true)
    (a_word_of : PySem.W.nsIn K mainGlobals "word_of" = some (some (.ref f_word_of)))
    (l_word_of : K.lookup f_word_of = some ⟨oc_word_of, od_word_of, .func (PySem.W.fnOf "word_of" "word_of" (defArgs sWof) (defBody sWof) (defScope sWof) .none kV_word_of dc_word_of pm_word_of an_word_of cd_word_of ct_word_of), sl_word_of⟩)
    (c_word_of : PySem.W.codeIn K cd_word_of "word_of" = true)
    (k_word_of : PySem.W.keepIn K (.ref f_word_of) = true)
    (a_first_paths : PySem.W.nsIn K mainGlobals "first_paths" = some (some (.ref f_first_paths)))
    (l_first_paths : K.lookup f_first_paths = some ⟨oc_first_paths, od_first_paths, .func (PySem.W.fnOf "first_paths" "first_paths" (defArgs sFp) (defBody sFp) (defScope sFp) .none kV_first_paths dc_first_paths pm_first_paths an_first_paths cd_first_paths ct_first_paths), sl_first_paths⟩)
    (c_first_paths : PySem.W.codeIn K cd_first_paths "first_paths" = true)
    (k_first_paths : PySem.W.keepIn K (.ref f_first_paths) = true)
    (a_reached : PySem.W.nsIn K mainGlobals "reached" = some (some (.ref f_reached)))
    (l_reached : K.lookup f_reached = some ⟨oc_reached, od_reached, .func (PySem.W.fnOf "reached" "reached" (defArgs sRea) (defBody sRea) (defScope sRea) .none kV_reached dc_reached pm_reached an_reached cd_reached ct_reached), sl_reached⟩)
    (c_reached : PySem.W.codeIn K cd_reached "reached" = true)
    (k_reached : PySem.W.keepIn K (.ref f_reached) = true)
    (a_pieces : PySem.W.nsIn K mainGlobals "pieces" = some (some (.ref f_pieces)))
    (l_pieces : K.lookup f_pieces = some ⟨oc_pieces, od_pieces, .func (PySem.W.fnOf "pieces" "pieces" (defArgs sPcs) (defBody sPcs) (defScope sPcs) .none kV_pieces dc_pieces pm_pieces an_pieces cd_pieces ct_pieces), sl_pieces⟩)
    (c_pieces : PySem.W.codeIn K cd_pieces "pieces" = true)
    (k_pieces : PySem.W.keepIn K (.ref f_pieces) = true)
    (a_top_room : PySem.W.nsIn K mainGlobals "top_room" = some (some (.ref f_top_room)))
    (l_top_room : K.lookup f_top_room = some ⟨oc_top_room, od_top_room, .func (PySem.W.fnOf "top_room" "top_room" (defArgs sTopR) (defBody sTopR) (defScope sTopR) .none kV_top_room dc_top_room pm_top_room an_top_room cd_top_room ct_top_room), sl_top_room⟩)
    (c_top_room : PySem.W.codeIn K cd_top_room "top_room" = true)
    (k_top_room : PySem.W.keepIn K (.ref f_top_room) = true)
    (a_called_keepers : PySem.W.nsIn K mainGlobals "called_keepers" = some (some (.ref f_called_keepers)))
    (l_called_keepers : K.lookup f_called_keepers = some ⟨oc_called_keepers, od_called_keepers, .func (PySem.W.fnOf "called_keepers" "called_keepers" (defArgs sCke) (defBody sCke) (defScope sCke) .none kV_called_keepers dc_called_keepers pm_called_keepers an_called_keepers cd_called_keepers ct_called_keepers), sl_called_keepers⟩)
    (c_called_keepers : PySem.W.codeIn K cd_called_keepers "called_keepers" = true)
    (k_called_keepers : PySem.W.keepIn K (.ref f_called_keepers) = true)
    (a_form_of : PySem.W.nsIn K mainGlobals "form_of" = some (some (.ref f_form_of)))
    (l_form_of : K.lookup f_form_of = some ⟨oc_form_of, od_form_of, .func (PySem.W.fnOf "form_of" "form_of" (defArgs sFo) (defBody sFo) (defScope sFo) .none kV_form_of dc_form_of pm_form_of an_form_of cd_form_of ct_form_of), sl_form_of⟩)
    (c_form_of : PySem.W.codeIn K cd_form_of "form_of" = true)
    (k_form_of : PySem.W.keepIn K (.ref f_form_of) = true)
    (e_form_of : cd_form_of = .ref co_form_of)
    (a__law_same : PySem.W.nsIn K mainGlobals "_law_same" = some (some (.ref f__law_same)))
    (l__law_same : K.lookup f__law_same = some ⟨oc__law_same, od__law_same, .func (PySem.W.fnOf "_law_same" "_law_same" (defArgs sSame) (defBody sSame) (defScope sSame) .none kV__law_same dc__law_same pm__law_same an__law_same cd__law_same ct__law_same), sl__law_same⟩)
    (c__law_same : PySem.W.codeIn K cd__law_same "_law_same" = true)
    (k__law_same : PySem.W.keepIn K (.ref f__law_same) = true)
    (a__law_are_pairs : PySem.W.nsIn K mainGlobals "_law_are_pairs" = some (some (.ref f__law_are_pairs)))
    (l__law_are_pairs : K.lookup f__law_are_pairs = some ⟨oc__law_are_pairs, od__law_are_pairs, .func (PySem.W.fnOf "_law_are_pairs" "_law_are_pairs" (defArgs sLap) (defBody sLap) (defScope sLap) .none kV__law_are_pairs dc__law_are_pairs pm__law_are_pairs an__law_are_pairs cd__law_are_pairs ct__law_are_pairs), sl__law_are_pairs⟩)
    (c__law_are_pairs : PySem.W.codeIn K cd__law_are_pairs "_law_are_pairs" = true)
    (k__law_are_pairs : PySem.W.keepIn K (.ref f__law_are_pairs) = true)
    (a__law_parts : PySem.W.nsIn K mainGlobals "_law_parts" = some (some (.ref f__law_parts)))
    (l__law_parts : K.lookup f__law_parts = some ⟨oc__law_parts, od__law_parts, .func (PySem.W.fnOf "_law_parts" "_law_parts" (defArgs sLpr) (defBody sLpr) (defScope sLpr) .none kV__law_parts dc__law_parts pm__law_parts an__law_parts cd__law_parts ct__law_parts), sl__law_parts⟩)
    (c__law_parts : PySem.W.codeIn K cd__law_parts "_law_parts" = true)
    (k__law_parts : PySem.W.keepIn K (.ref f__law_parts) = true)
    (a__law_orders : PySem.W.nsIn K mainGlobals "_law_orders" = some (some (.ref f__law_orders)))
    (l__law_orders : K.lookup f__law_orders = some ⟨oc__law_orders, od__law_orders, .func (PySem.W.fnOf "_law_orders" "_law_orders" (defArgs sLor) (defBody sLor) (defScope sLor) .none kV__law_orders dc__law_orders pm__law_orders an__law_orders cd__law_orders ct__law_orders), sl__law_orders⟩)
    (c__law_orders : PySem.W.codeIn K cd__law_orders "_law_orders" = true)
    (k__law_orders : PySem.W.keepIn K (.ref f__law_orders) = true)
    (a__law_leaves : PySem.W.nsIn K mainGlobals "_law_leaves" = some (some (.ref f__law_leaves)))
    (l__law_leaves : K.lookup f__law_leaves = some ⟨oc__law_leaves, od__law_leaves, .func (PySem.W.fnOf "_law_leaves" "_law_leaves" (defArgs sLle) (defBody sLle) (defScope sLle) .none kV__law_leaves dc__law_leaves pm__law_leaves an__law_leaves cd__law_leaves ct__law_leaves), sl__law_leaves⟩)
    (c__law_leaves : PySem.W.codeIn K cd__law_leaves "_law_leaves" = true)
    (k__law_leaves : PySem.W.keepIn K (.ref f__law_leaves) = true)
    (a_words_by_form : PySem.W.nsIn K mainGlobals "words_by_form" = some (some (.ref f_words_by_form)))
    (l_words_by_form : K.lookup f_words_by_form = some ⟨oc_words_by_form, od_words_by_form, .func (PySem.W.fnOf "words_by_form" "words_by_form" (defArgs sWoF) (defBody sWoF) (defScope sWoF) .none kV_words_by_form dc_words_by_form pm_words_by_form an_words_by_form cd_words_by_form ct_words_by_form), sl_words_by_form⟩)
    (c_words_by_form : PySem.W.codeIn K cd_words_by_form "words_by_form" = true)
    (k_words_by_form : PySem.W.keepIn K (.ref f_words_by_form) = true)
    (a_called_rooms : PySem.W.nsIn K mainGlobals "called_rooms" = some (some (.ref f_called_rooms)))
    (l_called_rooms : K.lookup f_called_rooms = some ⟨oc_called_rooms, od_called_rooms, .func (PySem.W.fnOf "called_rooms" "called_rooms" (defArgs sCrm) (defBody sCrm) (defScope sCrm) .none kV_called_rooms dc_called_rooms pm_called_rooms an_called_rooms cd_called_rooms ct_called_rooms), sl_called_rooms⟩)
    (c_called_rooms : PySem.W.codeIn K cd_called_rooms "called_rooms" = true)
    (k_called_rooms : PySem.W.keepIn K (.ref f_called_rooms) = true)
    (a_called_by_form : PySem.W.nsIn K mainGlobals "called_by_form" = some (some (.ref f_called_by_form)))
    (l_called_by_form : K.lookup f_called_by_form = some ⟨oc_called_by_form, od_called_by_form, .func (PySem.W.fnOf "called_by_form" "called_by_form" (defArgs sCbf) (defBody sCbf) (defScope sCbf) .none kV_called_by_form dc_called_by_form pm_called_by_form an_called_by_form cd_called_by_form ct_called_by_form), sl_called_by_form⟩)
    (c_called_by_form : PySem.W.codeIn K cd_called_by_form "called_by_form" = true)
    (k_called_by_form : PySem.W.keepIn K (.ref f_called_by_form) = true)
    (a_obeys_pairs : PySem.W.nsIn K mainGlobals "obeys_pairs" = some (some (.ref f_obeys_pairs)))
    (l_obeys_pairs : K.lookup f_obeys_pairs = some ⟨oc_obeys_pairs, od_obeys_pairs, .func (PySem.W.fnOf "obeys_pairs" "obeys_pairs" (defArgs sOb) (defBody sOb) (defScope sOb) .none kV_obeys_pairs dc_obeys_pairs pm_obeys_pairs an_obeys_pairs cd_obeys_pairs ct_obeys_pairs), sl_obeys_pairs⟩)
    (c_obeys_pairs : PySem.W.codeIn K cd_obeys_pairs "obeys_pairs" = true)
    (k_obeys_pairs : PySem.W.keepIn K (.ref f_obeys_pairs) = true)
    (e_obeys_pairs : cd_obeys_pairs = .ref co_obeys_pairs)
    (a_keeps_form : PySem.W.nsIn K mainGlobals "keeps_form" = some (some (.ref f_keeps_form)))
    (l_keeps_form : K.lookup f_keeps_form = some ⟨oc_keeps_form, od_keeps_form, .func (PySem.W.fnOf "keeps_form" "keeps_form" (defArgs sKf) (defBody sKf) (defScope sKf) .none kV_keeps_form dc_keeps_form pm_keeps_form an_keeps_form cd_keeps_form ct_keeps_form), sl_keeps_form⟩)
    (c_keeps_form : PySem.W.codeIn K cd_keeps_form "keeps_form" = true)
    (k_keeps_form : PySem.W.keepIn K (.ref f_keeps_form) = true)
    (a__law_keeps : PySem.W.nsIn K mainGlobals "_law_keeps" = some (some (.ref f__law_keeps)))
    (l__law_keeps : K.lookup f__law_keeps = some ⟨oc__law_keeps, od__law_keeps, .func (PySem.W.fnOf "_law_keeps" "_law_keeps" (defArgs sLkp) (defBody sLkp) (defScope sLkp) .none kV__law_keeps dc__law_keeps pm__law_keeps an__law_keeps cd__law_keeps ct__law_keeps), sl__law_keeps⟩)
    (c__law_keeps : PySem.W.codeIn K cd__law_keeps "_law_keeps" = true)
    (k__law_keeps : PySem.W.keepIn K (.ref f__law_keeps) = true)
    (a__law_wrong : PySem.W.nsIn K mainGlobals "_law_wrong" = some (some (.ref f__law_wrong)))
    (l__law_wrong : K.lookup f__law_wrong = some ⟨oc__law_wrong, od__law_wrong, .func (PySem.W.fnOf "_law_wrong" "_law_wrong" (defArgs sLwg) (defBody sLwg) (defScope sLwg) .none kV__law_wrong dc__law_wrong pm__law_wrong an__law_wrong cd__law_wrong ct__law_wrong), sl__law_wrong⟩)
    (c__law_wrong : PySem.W.codeIn K cd__law_wrong "_law_wrong" = true)
    (k__law_wrong : PySem.W.keepIn K (.ref f__law_wrong) = true)
    (a_build_form : PySem.W.nsIn K mainGlobals "build_form" = some (some (.ref f_build_form)))
    (l_build_form : K.lookup f_build_form = some ⟨oc_build_form, od_build_form, .func (PySem.W.fnOf "build_form" "build_form" (defArgs sBf) (defBody sBf) (defScope sBf) .none kV_build_form dc_build_form pm_build_form an_build_form cd_build_form ct_build_form), sl_build_form⟩)
    (c_build_form : PySem.W.codeIn K cd_build_form "build_form" = true)
    (k_build_form : PySem.W.keepIn K (.ref f_build_form) = true)
    (e_build_form : cd_build_form = .ref co_build_form)
    (a_law : PySem.W.nsIn K mainGlobals "law" = some (some (.ref f_law)))
    (l_law : K.lookup f_law = some ⟨oc_law, od_law, .func (PySem.W.fnOf "law" "law" (defArgs sLaw) (defBody sLaw) (defScope sLaw) .none kV_law dc_law pm_law an_law cd_law ct_law), sl_law⟩)
    (c_law : PySem.W.codeIn K cd_law "law" = true)
    (k_law : PySem.W.keepIn K (.ref f_law) = true)
    (a_m_init_ : PySem.W.findIn K (.ref C) "__init__" = some (some (.ref f_m_init_)))
    (l_m_init_ : K.lookup f_m_init_ = some ⟨oc_m_init_, od_m_init_, .func (PySem.W.fnOf "__init__" "House.__init__" (defArgs sHinit) (defBody sHinit) (defScope sHinit) .none kV_m_init_ dc_m_init_ pm_m_init_ an_m_init_ cd_m_init_ ct_m_init_), sl_m_init_⟩)
    (c_m_init_ : PySem.W.codeIn K cd_m_init_ "House.__init__" = true)
    (k_m_init_ : PySem.W.keepIn K (.ref f_m_init_) = true)
    (i_m_init_ : PySem.W.isFn K (.ref f_m_init_) = true)
    (a_mneighbours : PySem.W.findIn K (.ref C) "neighbours" = some (some (.ref f_mneighbours)))
    (l_mneighbours : K.lookup f_mneighbours = some ⟨oc_mneighbours, od_mneighbours, .func (PySem.W.fnOf "neighbours" "House.neighbours" (defArgs sHnear) (defBody sHnear) (defScope sHnear) .none kV_mneighbours dc_mneighbours pm_mneighbours an_mneighbours cd_mneighbours ct_mneighbours), sl_mneighbours⟩)
    (c_mneighbours : PySem.W.codeIn K cd_mneighbours "House.neighbours" = true)
    (k_mneighbours : PySem.W.keepIn K (.ref f_mneighbours) = true)
    (i_mneighbours : PySem.W.isFn K (.ref f_mneighbours) = true)
    (n_rooms : PySem.W.findIn K (.ref C) "rooms" = some none)
    (n__doors : PySem.W.findIn K (.ref C) "_doors" = some none)
    (n__near : PySem.W.findIn K (.ref C) "_near" = some none)
    (cr1 : PySem.W.readsIn K C (.type "type") = true)
    (cr2 : PySem.W.specialIn K (.ref C) "__getattribute__" = some (some (.builtin "type.__getattribute__")))
    (cv_MOST_ROOMS : PySem.W.findCls K (.ref C) (.type "type") "MOST_ROOMS" = some (.val (.int 12 tk_MOST_ROOMS)))
    (gf_nb : PySem.W.specialIn K (.ref f_mneighbours) "__get__" = some (some (.builtin "function.__get__")))
    (tk_nb : PySem.W.takesIn K (.ref f_mneighbours) = some false)
    (fi_nb : PySem.W.fnIn K f_mneighbours = true)
    (ne_tb : tb_form_of ≠ tb_build_form)
    (z_len : PySem.W.nsIn K mainGlobals "len" = some none)
    (z_abs : PySem.W.nsIn K mainGlobals "abs" = some none)
    (z_int : PySem.W.nsIn K mainGlobals "int" = some none)
    (z_range : PySem.W.nsIn K mainGlobals "range" = some none)
    (z_list : PySem.W.nsIn K mainGlobals "list" = some none)
    (z_tuple : PySem.W.nsIn K mainGlobals "tuple" = some none)
    (z_min : PySem.W.nsIn K mainGlobals "min" = some none)
    (z_max : PySem.W.nsIn K mainGlobals "max" = some none)
    (z_sorted : PySem.W.nsIn K mainGlobals "sorted" = some none)
    (z_isinstance : PySem.W.nsIn K mainGlobals "isinstance" = some none)
    (z_bool : PySem.W.nsIn K mainGlobals "bool" = some none)
    (z_str : PySem.W.nsIn K mainGlobals "str" = some none)
    (z_set : PySem.W.nsIn K mainGlobals "set" = some none)
    (z_enumerate : PySem.W.nsIn K mainGlobals "enumerate" = some none)
    (z_any : PySem.W.nsIn K mainGlobals "any" = some none)
    (z_reversed : PySem.W.nsIn K mainGlobals "reversed" = some none)
    (z_all : PySem.W.nsIn K mainGlobals "all" = some none) :
    ∃ fd : FuncData, (∀ (s : Shared) (v : Value), BindsTo s fd ⟨[v], []⟩ [("script", v)]) ∧ ∀ base : Heap, K.In base → base.Ns mainGlobals mg → (∀ p ∈ [(co_obeys_pairs, tb_obeys_pairs), (co_form_of, tb_form_of), (co_build_form, tb_build_form)], LamX.TabB base mg p.1 p.2) → FnOk l.prog w K mg base CX0 52 fa fd ["script"] (spLawM K [tb_obeys_pairs] [tb_form_of, tb_build_form]) := by
  have e := hfa.symm.trans (PySem.W.mg_of X G a_law)
  cases e
  have T : Bi mg := ⟨PySem.W.mg_none_of X G z_len, PySem.W.mg_none_of X G z_abs, PySem.W.mg_none_of X G z_int, PySem.W.mg_none_of X G z_range, PySem.W.mg_none_of X G z_list, PySem.W.mg_none_of X G z_tuple, PySem.W.mg_none_of X G z_min, PySem.W.mg_none_of X G z_max, PySem.W.mg_none_of X G z_sorted, PySem.W.mg_none_of X G z_isinstance, PySem.W.mg_none_of X G z_bool, PySem.W.mg_none_of X G z_str, PySem.W.mg_none_of X G z_set, PySem.W.mg_none_of X G z_enumerate⟩
  have F_check_room_count := fun_mk (st := sRoom) l_check_room_count c_check_room_count k_check_room_count
  have at_check_room_count := PySem.W.mg_of X G a_check_room_count
  have b_check_room_count := F_check_room_count.binds (ps := ["rooms"]) fun _ _ _ _ _ _ us hl => match us, hl with | [_], _ => rfl
  have F_checked_doors := fun_mk (st := sChk) l_checked_doors c_checked_doors k_checked_doors
  have at_checked_doors := PySem.W.mg_of X G a_checked_doors
  have b_checked_doors := F_checked_doors.binds (ps := ["rooms", "doors"]) fun _ _ _ _ _ _ us hl => match us, hl with | [_, _], _ => rfl
  have F__law_cell := fun_mk (st := sCell) l__law_cell c__law_cell k__law_cell
  have at__law_cell := PySem.W.mg_of X G a__law_cell
  have b__law_cell := F__law_cell.binds (ps := ["script", "k"]) fun _ _ _ _ _ _ us hl => match us, hl with | [_, _], _ => rfl
  have F__law_numbers := fun_mk (st := sNum) l__law_numbers c__law_numbers k__law_numbers
  have at__law_numbers := PySem.W.mg_of X G a__law_numbers
  have b__law_numbers := F__law_numbers.binds (ps := ["cell", "count"]) fun _ _ _ _ _ _ us hl => match us, hl with | [_, _], _ => rfl
  have F__law_names := fun_mk (st := sNam) l__law_names c__law_names k__law_names
  have at__law_names := PySem.W.mg_of X G a__law_names
  have b__law_names := F__law_names.binds (ps := ["numbers", "at", "rooms"]) fun _ _ _ _ _ _ us hl => match us, hl with | [_, _, _], _ => rfl
  have F__law_joined := fun_mk (st := sJnd) l__law_joined c__law_joined k__law_joined
  have at__law_joined := PySem.W.mg_of X G a__law_joined
  have b__law_joined := F__law_joined.binds (ps := ["kind", "a", "b", "rooms", "number", "parent"]) fun _ _ _ _ _ _ us hl => match us, hl with | [_, _, _, _, _, _], _ => rfl
  have F__law_doors := fun_mk (st := sDrs) l__law_doors c__law_doors k__law_doors
  have at__law_doors := PySem.W.mg_of X G a__law_doors
  have b__law_doors := F__law_doors.binds (ps := ["numbers", "rooms"]) fun _ _ _ _ _ _ us hl => match us, hl with | [_, _], _ => rfl
  have F__law_pool := fun_mk (st := sPo6) l__law_pool c__law_pool k__law_pool
  have at__law_pool := PySem.W.mg_of X G a__law_pool
  have b__law_pool := F__law_pool.binds (ps := ["numbers", "at", "many"]) fun _ _ _ _ _ _ us hl => match us, hl with | [_, _, _], _ => rfl
  have F__law_choice := fun_mk (st := sCho) l__law_choice c__law_choice k__law_choice
  have at__law_choice := PySem.W.mg_of X G a__law_choice
  have b__law_choice := F__law_choice.binds (ps := ["numbers"]) fun _ _ _ _ _ _ us hl => match us, hl with | [_], _ => rfl
  have F__law_log := fun_mk (st := sLlg) l__law_log c__law_log k__law_log
  have at__law_log := PySem.W.mg_of X G a__law_log
  have b__law_log := F__law_log.binds (ps := ["numbers", "at", "many", "rooms", "words"]) fun _ _ _ _ _ _ us hl => match us, hl with | [_, _, _, _, _], _ => rfl
  have F__law_calls := fun_mk (st := sLcs) l__law_calls c__law_calls k__law_calls
  have at__law_calls := PySem.W.mg_of X G a__law_calls
  have b__law_calls := F__law_calls.binds (ps := ["script", "at", "rooms", "words", "most"]) fun _ _ _ _ _ _ us hl => match us, hl with | [_, _, _, _, _], _ => rfl
  have F__law_reach := fun_mk (st := sLre) l__law_reach c__law_reach k__law_reach
  have at__law_reach := PySem.W.mg_of X G a__law_reach
  have b__law_reach := F__law_reach.binds (ps := ["doors", "start", "inside"]) fun _ _ _ _ _ _ us hl => match us, hl with | [_, _, _], _ => rfl
  have F__law_pieces := fun_mk (st := sLpc) l__law_pieces c__law_pieces k__law_pieces
  have at__law_pieces := PySem.W.mg_of X G a__law_pieces
  have b__law_pieces := F__law_pieces.binds (ps := ["doors", "rooms"]) fun _ _ _ _ _ _ us hl => match us, hl with | [_, _], _ => rfl
  have F__law_top := fun_mk (st := sLtop) l__law_top c__law_top k__law_top
  have at__law_top := PySem.W.mg_of X G a__law_top
  have b__law_top := F__law_top.binds (ps := ["log", "rooms"]) fun _ _ _ _ _ _ us hl => match us, hl with | [_, _], _ => rfl
  have F__law_word_of := fun_mk (st := sLwof) l__law_word_of c__law_word_of k__law_word_of
  have at__law_word_of := PySem.W.mg_of X G a__law_word_of
  have b__law_word_of := F__law_word_of.binds (ps := ["log", "rooms"]) fun _ _ _ _ _ _ us hl => match us, hl with | [_, _], _ => rfl
  have F__law_tops := fun_mk (st := sLts) l__law_tops c__law_tops k__law_tops
  have at__law_tops := PySem.W.mg_of X G a__law_tops
  have b__law_tops := F__law_tops.binds (ps := ["doors", "log", "part", "word"]) fun _ _ _ _ _ _ us hl => match us, hl with | [_, _, _, _], _ => rfl
  have F__law_form := fun_mk (st := sLf) l__law_form c__law_form k__law_form
  have at__law_form := PySem.W.mg_of X G a__law_form
  have b__law_form := F__law_form.binds (ps := ["doors", "log", "rooms"]) fun _ _ _ _ _ _ us hl => match us, hl with | [_, _, _], _ => rfl
  have F_blocks := fun_mk (st := sBlc) l_blocks c_blocks k_blocks
  have at_blocks := PySem.W.mg_of X G a_blocks
  have b_blocks := F_blocks.binds (ps := ["form"]) fun _ _ _ _ _ _ us hl => match us, hl with | [_], _ => rfl
  have F_block_rooms := fun_mk (st := sBrm) l_block_rooms c_block_rooms k_block_rooms
  have at_block_rooms := PySem.W.mg_of X G a_block_rooms
  have b_block_rooms := F_block_rooms.binds (ps := ["block"]) fun _ _ _ _ _ _ us hl => match us, hl with | [_], _ => rfl
  have F_is_beside := fun_mk (st := sIb) l_is_beside c_is_beside k_is_beside
  have at_is_beside := PySem.W.mg_of X G a_is_beside
  have b_is_beside := F_is_beside.binds (ps := ["house", "room", "rooms"]) fun _ _ _ _ _ _ us hl => match us, hl with | [_, _, _], _ => rfl
  have F_pairs_between := fun_mk (st := sPb) l_pairs_between c_pairs_between k_pairs_between
  have at_pairs_between := PySem.W.mg_of X G a_pairs_between
  have b_pairs_between := F_pairs_between.binds (ps := ["house", "inside", "outer"]) fun _ _ _ _ _ _ us hl => match us, hl with | [_, _, _], _ => rfl
  have F_forced_pairs := fun_mk (st := sFrp) l_forced_pairs c_forced_pairs k_forced_pairs
  have at_forced_pairs := PySem.W.mg_of X G a_forced_pairs
  have b_forced_pairs := F_forced_pairs.binds (ps := ["house", "form"]) fun _ _ _ _ _ _ us hl => match us, hl with | [_, _], _ => rfl
  have F_last_calls := fun_mk (st := sLast) l_last_calls c_last_calls k_last_calls
  have at_last_calls := PySem.W.mg_of X G a_last_calls
  have b_last_calls := F_last_calls.binds (ps := ["log"]) fun _ _ _ _ _ _ us hl => match us, hl with | [_], _ => rfl
  have F_last_call_in := fun_mk (st := sLci) l_last_call_in c_last_call_in k_last_call_in
  have at_last_call_in := PySem.W.mg_of X G a_last_call_in
  have b_last_call_in := F_last_call_in.binds (ps := ["log", "rooms"]) fun _ _ _ _ _ _ us hl => match us, hl with | [_, _], _ => rfl
  have F_word_of := fun_mk (st := sWof) l_word_of c_word_of k_word_of
  have at_word_of := PySem.W.mg_of X G a_word_of
  have b_word_of := F_word_of.binds (ps := ["log", "rooms"]) fun _ _ _ _ _ _ us hl => match us, hl with | [_, _], _ => rfl
  have F_first_paths := fun_mk (st := sFp) l_first_paths c_first_paths k_first_paths
  have at_first_paths := PySem.W.mg_of X G a_first_paths
  have b_first_paths := F_first_paths.binds (ps := ["steps", "start", "inside"]) fun _ _ _ _ _ _ us hl => match us, hl with | [_, _, _], _ => rfl
  have F_reached := fun_mk (st := sRea) l_reached c_reached k_reached
  have at_reached := PySem.W.mg_of X G a_reached
  have b_reached := F_reached.binds (ps := ["house", "start", "inside"]) fun _ _ _ _ _ _ us hl => match us, hl with | [_, _, _], _ => rfl
  have F_pieces := fun_mk (st := sPcs) l_pieces c_pieces k_pieces
  have at_pieces := PySem.W.mg_of X G a_pieces
  have b_pieces := F_pieces.binds (ps := ["house", "rooms"]) fun _ _ _ _ _ _ us hl => match us, hl with | [_, _], _ => rfl
  have F_top_room := fun_mk (st := sTopR) l_top_room c_top_room k_top_room
  have at_top_room := PySem.W.mg_of X G a_top_room
  have b_top_room := F_top_room.binds (ps := ["log", "rooms"]) fun _ _ _ _ _ _ us hl => match us, hl with | [_, _], _ => rfl
  have F_called_keepers := fun_mk (st := sCke) l_called_keepers c_called_keepers k_called_keepers
  have at_called_keepers := PySem.W.mg_of X G a_called_keepers
  have b_called_keepers := F_called_keepers.binds (ps := ["house", "calls", "part"]) fun _ _ _ _ _ _ us hl => match us, hl with | [_, _, _], _ => rfl
  subst e_form_of
  have C_form_of : FunC K "form_of" "form_of" sFo f_form_of _ co_form_of := ⟨⟨_, _, _, _, _, _, _, _, rfl, l_form_of, c_form_of⟩⟩
  have F_form_of := fun_mk (st := sFo) l_form_of c_form_of k_form_of
  have at_form_of := PySem.W.mg_of X G a_form_of
  have b_form_of := F_form_of.binds (ps := ["house", "log"]) fun _ _ _ _ _ _ us hl => match us, hl with | [_, _], _ => rfl
  have F__law_same := fun_mk (st := sSame) l__law_same c__law_same k__law_same
  have at__law_same := PySem.W.mg_of X G a__law_same
  have b__law_same := F__law_same.binds (ps := ["got", "due"]) fun _ _ _ _ _ _ us hl => match us, hl with | [_, _], _ => rfl
  have F__law_are_pairs := fun_mk (st := sLap) l__law_are_pairs c__law_are_pairs k__law_are_pairs
  have at__law_are_pairs := PySem.W.mg_of X G a__law_are_pairs
  have b__law_are_pairs := F__law_are_pairs.binds (ps := ["told", "rooms"]) fun _ _ _ _ _ _ us hl => match us, hl with | [_, _], _ => rfl
  have F__law_parts := fun_mk (st := sLpr) l__law_parts c__law_parts k__law_parts
  have at__law_parts := PySem.W.mg_of X G a__law_parts
  have b__law_parts := F__law_parts.binds (ps := ["doors", "rooms"]) fun _ _ _ _ _ _ us hl => match us, hl with | [_, _], _ => rfl
  have F__law_orders := fun_mk (st := sLor) l__law_orders c__law_orders k__law_orders
  have at__law_orders := PySem.W.mg_of X G a__law_orders
  have b__law_orders := F__law_orders.binds (ps := ["rooms"]) fun _ _ _ _ _ _ us hl => match us, hl with | [_], _ => rfl
  have F__law_leaves := fun_mk (st := sLle) l__law_leaves c__law_leaves k__law_leaves
  have at__law_leaves := PySem.W.mg_of X G a__law_leaves
  have b__law_leaves := F__law_leaves.binds (ps := ["parts", "heard", "words", "order"]) fun _ _ _ _ _ _ us hl => match us, hl with | [_, _, _, _], _ => rfl
  have F_words_by_form := fun_mk (st := sWoF) l_words_by_form c_words_by_form k_words_by_form
  have at_words_by_form := PySem.W.mg_of X G a_words_by_form
  have b_words_by_form := F_words_by_form.binds (ps := ["form"]) fun _ _ _ _ _ _ us hl => match us, hl with | [_], _ => rfl
  have F_called_rooms := fun_mk (st := sCrm) l_called_rooms c_called_rooms k_called_rooms
  have at_called_rooms := PySem.W.mg_of X G a_called_rooms
  have b_called_rooms := F_called_rooms.binds (ps := ["words"]) fun _ _ _ _ _ _ us hl => match us, hl with | [_], _ => rfl
  have F_called_by_form := fun_mk (st := sCbf) l_called_by_form c_called_by_form k_called_by_form
  have at_called_by_form := PySem.W.mg_of X G a_called_by_form
  have b_called_by_form := F_called_by_form.binds (ps := ["form"]) fun _ _ _ _ _ _ us hl => match us, hl with | [_], _ => rfl
  subst e_obeys_pairs
  have C_obeys_pairs : FunC K "obeys_pairs" "obeys_pairs" sOb f_obeys_pairs _ co_obeys_pairs := ⟨⟨_, _, _, _, _, _, _, _, rfl, l_obeys_pairs, c_obeys_pairs⟩⟩
  have F_obeys_pairs := fun_mk (st := sOb) l_obeys_pairs c_obeys_pairs k_obeys_pairs
  have at_obeys_pairs := PySem.W.mg_of X G a_obeys_pairs
  have b_obeys_pairs := F_obeys_pairs.binds (ps := ["order", "pairs"]) fun _ _ _ _ _ _ us hl => match us, hl with | [_, _], _ => rfl
  have F_keeps_form := fun_mk (st := sKf) l_keeps_form c_keeps_form k_keeps_form
  have at_keeps_form := PySem.W.mg_of X G a_keeps_form
  have b_keeps_form := F_keeps_form.binds (ps := ["house", "form", "order"]) fun _ _ _ _ _ _ us hl => match us, hl with | [_, _, _], _ => rfl
  have F__law_keeps := fun_mk (st := sLkp) l__law_keeps c__law_keeps k__law_keeps
  have at__law_keeps := PySem.W.mg_of X G a__law_keeps
  have b__law_keeps := F__law_keeps.binds (ps := ["pairs", "order"]) fun _ _ _ _ _ _ us hl => match us, hl with | [_, _], _ => rfl
  have F__law_wrong := fun_mk (st := sLwg) l__law_wrong c__law_wrong k__law_wrong
  have at__law_wrong := PySem.W.mg_of X G a__law_wrong
  have b__law_wrong := F__law_wrong.binds (ps := ["order", "rooms", "number"]) fun _ _ _ _ _ _ us hl => match us, hl with | [_, _, _], _ => rfl
  subst e_build_form
  have C_build_form : FunC K "build_form" "build_form" sBf f_build_form _ co_build_form := ⟨⟨_, _, _, _, _, _, _, _, rfl, l_build_form, c_build_form⟩⟩
  have F_build_form := fun_mk (st := sBf) l_build_form c_build_form k_build_form
  have at_build_form := PySem.W.mg_of X G a_build_form
  have b_build_form := F_build_form.binds (ps := ["house", "word_in", "tops_in"]) fun _ _ _ _ _ _ us hl => match us, hl with | [_, _, _], _ => rfl
  have F_law := fun_mk (st := sLaw) l_law c_law k_law
  have at_law := PySem.W.mg_of X G a_law
  have F_m_init_ := fun_mk (st := sHinit) l_m_init_ c_m_init_ k_m_init_
  have b_m_init_ := F_m_init_.binds (ps := ["self", "rooms", "doors"]) fun _ _ _ _ _ _ us hl => match us, hl with | [_, _, _], _ => rfl
  have mk_ : Mk K C f_m_init_ := ⟨mk, a_m_init_, i_m_init_, kc⟩
  have F_mneighbours := fun_mk (st := sHnear) l_mneighbours c_mneighbours k_mneighbours
  have b_mneighbours := F_mneighbours.binds (ps := ["self", "room"]) fun _ _ _ _ _ _ us hl => match us, hl with | [_, _], _ => rfl
  have mt_mneighbours : Meth K C "neighbours" f_mneighbours := ⟨a_mneighbours, i_mneighbours, k_mneighbours⟩
  have U : Hs K mg C := ⟨⟨pg, hd, po, sa⟩, n_rooms, n__doors, n__near, PySem.W.mg_of X G aC, ⟨.type "type", _, ⟨cr1, cr2⟩, ⟨cv_MOST_ROOMS, ⟨_, rfl⟩⟩⟩⟩
  refine ⟨PySem.W.fnOf "law" "law" (defArgs sLaw) (defBody sLaw) (defScope sLaw) .none kV_law dc_law pm_law an_law cd_law ct_law, fun s v => .of_eq rfl, fun base _ _ HT => ?_⟩
  have B_form_of := HT (co_form_of, tb_form_of) (by simp)
  have B_build_form := HT (co_build_form, tb_build_form) (by simp)
  have B_obeys_pairs := HT (co_obeys_pairs, tb_obeys_pairs) (by simp)
  have bm : BMeth K C "neighbours" f_mneighbours := ⟨mt_mneighbours, gf_nb, tk_nb, by decide +kernel, fi_nb⟩
  have D_check_room_count : Df l.prog w K mg base "check_room_count" _ 1 spRoom _ _ := ⟨at_check_room_count, k_check_room_count, b_check_room_count, ok_room F_check_room_count U⟩
  have D_checked_doors : Df l.prog w K mg base "checked_doors" _ 1 spChk _ _ := ⟨at_checked_doors, k_checked_doors, b_checked_doors, ok_chk F_checked_doors T⟩
  have GI := ok_hinit (P := l.prog) (w := w) (base := base) F_m_init_ T U D_check_room_count D_checked_doors
  have GN := ok_hnear (P := l.prog) (w := w) (base := base) F_mneighbours T U
  have M_neighbours : Md l.prog w K mg base C "neighbours" _ 1 (spHnear C) _ _ := ⟨mt_mneighbours, b_mneighbours, GN⟩
  have D__law_cell : Df l.prog w K mg base "_law_cell" _ 1 (spCell K) _ _ := ⟨at__law_cell, k__law_cell, b__law_cell, ok_cell F__law_cell T⟩
  have D__law_numbers : Df l.prog w K mg base "_law_numbers" _ 1 (spNum K) _ _ := ⟨at__law_numbers, k__law_numbers, b__law_numbers, ok_num F__law_numbers T⟩
  have D__law_names : Df l.prog w K mg base "_law_names" _ 1 (spNam K) _ _ := ⟨at__law_names, k__law_names, b__law_names, ok_nam F__law_names T⟩
  have D__law_joined : Df l.prog w K mg base "_law_joined" _ 1 spJnd _ _ := ⟨at__law_joined, k__law_joined, b__law_joined, ok_jnd F__law_joined T⟩
  have D__law_doors : Df l.prog w K mg base "_law_doors" _ 2 (spDrs K) _ _ := ⟨at__law_doors, k__law_doors, b__law_doors, ok_drs F__law_doors T D__law_names D__law_joined⟩
  have D__law_pool : Df l.prog w K mg base "_law_pool" _ 1 (spPo6 K) _ _ := ⟨at__law_pool, k__law_pool, b__law_pool, ok_po6 F__law_pool T⟩
  have D__law_choice : Df l.prog w K mg base "_law_choice" _ 2 (spCho K) _ _ := ⟨at__law_choice, k__law_choice, b__law_choice, ok_cho F__law_choice T D__law_pool⟩
  have D__law_log : Df l.prog w K mg base "_law_log" _ 1 (spLlg K) _ _ := ⟨at__law_log, k__law_log, b__law_log, ok_llg F__law_log T⟩
  have D__law_calls : Df l.prog w K mg base "_law_calls" _ 2 (spLcs K) _ _ := ⟨at__law_calls, k__law_calls, b__law_calls, ok_lcs F__law_calls T D__law_cell⟩
  have D__law_reach : Df l.prog w K mg base "_law_reach" _ 1 (spLre K) _ _ := ⟨at__law_reach, k__law_reach, b__law_reach, ok_lre F__law_reach T⟩
  have D__law_pieces : Df l.prog w K mg base "_law_pieces" _ 2 (spLpc K) _ _ := ⟨at__law_pieces, k__law_pieces, b__law_pieces, ok_lpc F__law_pieces T D__law_reach⟩
  have D__law_top : Df l.prog w K mg base "_law_top" _ 1 (spTopR K optR) _ _ := ⟨at__law_top, k__law_top, b__law_top, ok_ltop F__law_top⟩
  have D__law_word_of : Df l.prog w K mg base "_law_word_of" _ 1 (spTopR K optW) _ _ := ⟨at__law_word_of, k__law_word_of, b__law_word_of, ok_lwof F__law_word_of⟩
  have D__law_tops : Df l.prog w K mg base "_law_tops" _ 15 (spLts 12) _ _ := ⟨at__law_tops, k__law_tops, b__law_tops, ok_lts F__law_tops T b__law_tops at__law_tops D__law_pieces D__law_top D__law_word_of 12⟩
  have D__law_form : Df l.prog w K mg base "_law_form" _ 29 (spLf 12) _ _ := ⟨at__law_form, k__law_form, b__law_form, ok_lf F__law_form T b__law_form at__law_form D__law_pieces D__law_tops D__law_word_of 12⟩
  have D_blocks : Df l.prog w K mg base "blocks" _ 15 (spBlc 13) _ _ := ⟨at_blocks, k_blocks, b_blocks, ok_blc F_blocks T b_blocks at_blocks 13⟩
  have D_block_rooms : Df l.prog w K mg base "block_rooms" _ 16 spBrm _ _ := ⟨at_block_rooms, k_block_rooms, b_block_rooms, ok_brm F_block_rooms T D_blocks⟩
  have D_is_beside : Df l.prog w K mg base "is_beside" _ 2 (spIb C) _ _ := ⟨at_is_beside, k_is_beside, b_is_beside, ok_ib F_is_beside T U (PySem.W.mg_none_of X G z_any) M_neighbours⟩
  have D_pairs_between : Df l.prog w K mg base "pairs_between" _ 17 (spPb C) _ _ := ⟨at_pairs_between, k_pairs_between, b_pairs_between, ok_pb F_pairs_between T D_block_rooms D_is_beside⟩
  have D_forced_pairs : Df l.prog w K mg base "forced_pairs" _ 18 (spFrp C) _ _ := ⟨at_forced_pairs, k_forced_pairs, b_forced_pairs, ok_frp F_forced_pairs T D_blocks D_pairs_between⟩
  have D_last_calls : Df l.prog w K mg base "last_calls" _ 1 spLast _ _ := ⟨at_last_calls, k_last_calls, b_last_calls, ok_last F_last_calls T (PySem.W.mg_none_of X G z_reversed)⟩
  have D_last_call_in : Df l.prog w K mg base "last_call_in" _ 1 (spLci K) _ _ := ⟨at_last_call_in, k_last_call_in, b_last_call_in, ok_lci F_last_call_in (PySem.W.mg_none_of X G z_reversed)⟩
  have D_word_of : Df l.prog w K mg base "word_of" _ 2 (spTopR K optW) _ _ := ⟨at_word_of, k_word_of, b_word_of, ok_wof F_word_of D_last_call_in⟩
  have D_first_paths : Df l.prog w K mg base "first_paths" _ 2 (spFp K C f_mneighbours) _ _ := ⟨at_first_paths, k_first_paths, b_first_paths, ok_fp F_first_paths T U bm GN b_mneighbours⟩
  have D_reached : Df l.prog w K mg base "reached" _ 3 (spRea K C) _ _ := ⟨at_reached, k_reached, b_reached, ok_rea F_reached T U bm D_first_paths⟩
  have D_pieces : Df l.prog w K mg base "pieces" _ 4 (spPcs K C) _ _ := ⟨at_pieces, k_pieces, b_pieces, ok_pcs F_pieces T D_reached⟩
  have D_top_room : Df l.prog w K mg base "top_room" _ 2 (spTopR K optR) _ _ := ⟨at_top_room, k_top_room, b_top_room, ok_topR F_top_room D_last_call_in⟩
  have D_called_keepers : Df l.prog w K mg base "called_keepers" _ 17 (spCke C 12) _ _ := ⟨at_called_keepers, k_called_keepers, b_called_keepers, ok_cke F_called_keepers T b_called_keepers at_called_keepers D_pieces D_top_room D_word_of 12⟩
  have D_form_of : Df l.prog w K mg base "form_of" _ 50 (spFo C [(tb_form_of, nmFo), (tb_build_form, nmBf)]) _ _ := ⟨at_form_of, k_form_of, b_form_of, ok_fo (Tb := [(tb_form_of, nmFo), (tb_build_form, nmBf)]) C_form_of T U B_form_of (by simp) (hu21 ne_tb) ⟨C_build_form, at_build_form, k_build_form, b_build_form⟩ B_build_form (by simp) (hu22 ne_tb) D_last_calls D_word_of D_called_keepers D_pieces⟩
  have D__law_same : Df l.prog w K mg base "_law_same" _ 28 (spSame 27) _ _ := ⟨at__law_same, k__law_same, b__law_same, ok_same F__law_same T b__law_same at__law_same 27⟩
  have D__law_are_pairs : Df l.prog w K mg base "_law_are_pairs" _ 1 spLap _ _ := ⟨at__law_are_pairs, k__law_are_pairs, b__law_are_pairs, ok_lap F__law_are_pairs T⟩
  have D__law_parts : Df l.prog w K mg base "_law_parts" _ 2 spLpr _ _ := ⟨at__law_parts, k__law_parts, b__law_parts, ok_lpr F__law_parts T D__law_reach⟩
  have D__law_orders : Df l.prog w K mg base "_law_orders" _ 6 (spLor 5) _ _ := ⟨at__law_orders, k__law_orders, b__law_orders, ok_lor F__law_orders T b__law_orders at__law_orders 5⟩
  have D__law_leaves : Df l.prog w K mg base "_law_leaves" _ 2 (spLle K) _ _ := ⟨at__law_leaves, k__law_leaves, b__law_leaves, ok_lle F__law_leaves T D__law_word_of⟩
  have D_words_by_form : Df l.prog w K mg base "words_by_form" _ 16 spWoF _ _ := ⟨at_words_by_form, k_words_by_form, b_words_by_form, ok_wof2 F_words_by_form T D_blocks⟩
  have D_called_rooms : Df l.prog w K mg base "called_rooms" _ 1 spCrm _ _ := ⟨at_called_rooms, k_called_rooms, b_called_rooms, ok_crm F_called_rooms T⟩
  have D_called_by_form : Df l.prog w K mg base "called_by_form" _ 17 spCbf _ _ := ⟨at_called_by_form, k_called_by_form, b_called_by_form, ok_cbf F_called_by_form T D_words_by_form D_called_rooms⟩
  have D_obeys_pairs_spOb : Df l.prog w K mg base "obeys_pairs" _ 2 (spOb tb_obeys_pairs) _ _ := ⟨at_obeys_pairs, k_obeys_pairs, b_obeys_pairs, ok_ob C_obeys_pairs (PySem.W.mg_none_of X G z_all) ⟨B_obeys_pairs.code, B_obeys_pairs.bm, B_obeys_pairs.gP⟩⟩
  have D_keeps_form : Df l.prog w K mg base "keeps_form" _ 19 (spKf C tb_obeys_pairs) _ _ := ⟨at_keeps_form, k_keeps_form, b_keeps_form, ok_kf F_keeps_form T D_called_by_form D_obeys_pairs_spOb D_forced_pairs⟩
  have D__law_keeps : Df l.prog w K mg base "_law_keeps" _ 1 spLkp _ _ := ⟨at__law_keeps, k__law_keeps, b__law_keeps, ok_lkp F__law_keeps⟩
  have D__law_wrong : Df l.prog w K mg base "_law_wrong" _ 1 spLwg _ _ := ⟨at__law_wrong, k__law_wrong, b__law_wrong, ok_lwg F__law_wrong T⟩
  exact ok_law F_law T U mk_ GI b_m_init_ D__law_cell D__law_numbers D__law_doors D__law_choice D__law_log D__law_calls D__law_form D_forced_pairs D_form_of D__law_same D__law_are_pairs D__law_parts D__law_word_of D__law_orders D__law_leaves D_keeps_form D__law_keeps D__law_wrong
theorem walk {l : PySem.W.OpenLaw} {q : Program} {loose : List Str} {XP : (Str → Option Value) → Heap → Prop} {YP : World → Heap → Prop} {d : DefRec} {K : Params → PySem.W.Frag} {co_obeys_pairs tb_obeys_pairs co_form_of tb_form_of co_build_form tb_build_form : Addr} (hn : l.most = some 63) (hdf : d.params.defaults = [])
    (hY : ∀ (w : World) (h : Heap), YP w h → (K w.params).In h)
    (th_obeys_pairs : TabH q K ("obeys_pairs" : Str) co_obeys_pairs tb_obeys_pairs)
    (th_form_of : TabH q K ("form_of" : Str) co_form_of tb_form_of)
    (th_build_form : TabH q K ("build_form" : Str) co_build_form tb_build_form)
    (nd : [tb_obeys_pairs, tb_form_of, tb_build_form].Nodup)
    (F : ∀ (w : World) (mg : Str → Option Value) (fa : Addr) (h : Heap), (K w.params).In h → h.Ns mainGlobals mg → mg d.name = some (.ref fa) →
      ∃ fd : FuncData, (∀ (s : Shared) (u : Value), BindsTo s fd ⟨[u], []⟩ [("script", u)]) ∧ ∀ base : Heap, (K w.params).In base → base.Ns mainGlobals mg → (∀ p ∈ [(co_obeys_pairs, tb_obeys_pairs), (co_form_of, tb_form_of), (co_build_form, tb_build_form)], LamX.TabB base mg p.1 p.2) → FnOk l.prog w (K w.params) mg base CX0 52 fa fd ["script"] (spLawM (K w.params) [tb_obeys_pairs] [tb_form_of, tb_build_form])) :
    PySem.W.WalkO q loose XP YP l.row.toRowW d [] (fun f vs => PySem.call f vs) :=
  walkM (k := 52) (cs := [(co_obeys_pairs, tb_obeys_pairs)]) (ds := [(co_form_of, tb_form_of), (co_build_form, tb_build_form)]) hn hdf ⟨rfl, by decide, by decide⟩ hY nd (fun p hp => by
    simp only [List.cons_append, List.nil_append, List.mem_cons, List.not_mem_nil, or_false] at hp
    rcases hp with rfl | rfl | rfl
    · exact ⟨_, th_obeys_pairs⟩
    · exact ⟨_, th_form_of⟩
    · exact ⟨_, th_build_form⟩) F
end My

open PySem PySem.W PyProof.Rows in
set_option maxRecDepth 100000 in
set_option maxHeartbeats 0 in
theorem PySem.Challenge.cw_callsheard_k35_whole_orders_exactly_holds : PySem.Challenge.rw_callsheard_k35_whole_orders_exactly.Holds := by
  w_on; o_law; k_head; (case hw => w_witness2)
  k_fill
  refine' My.walk (l := PySem.Challenge.rw_callsheard_k35_whole_orders_exactly) rfl rfl (fun w h Y => PySem.W.km_in_of Y) ?th_obeys_pairs ?th_form_of ?th_build_form ?nd ?F
  (case th_obeys_pairs =>
    refine' My.TabH.of ?r ?n ?l ?e ?l2 ?v ?o
    (case n => intro w; k_is)
    (case l => intro w; k_is)
    (case e => exact rfl)
    (case l2 => intro w; k_is)
    (case v => exact rfl)
    (case o => intro w; first | rfl | k_is)
    (case r => first | kernel_rfl | decide +kernel))
  (case th_form_of =>
    refine' My.TabH.of ?r ?n ?l ?e ?l2 ?v ?o
    (case n => intro w; k_is)
    (case l => intro w; k_is)
    (case e => exact rfl)
    (case l2 => intro w; k_is)
    (case v => exact rfl)
    (case o => intro w; first | rfl | k_is)
    (case r => first | kernel_rfl | decide +kernel))
  (case th_build_form =>
    refine' My.TabH.of ?r ?n ?l ?e ?l2 ?v ?o
    (case n => intro w; k_is)
    (case l => intro w; k_is)
    (case e => exact rfl)
    (case l2 => intro w; k_is)
    (case v => exact rfl)
    (case o => intro w; first | rfl | k_is)
    (case r => first | kernel_rfl | decide +kernel))
  (case nd => decide)
  case F =>
    intro w mg fa h KX G hmg
    refine' My.all_mk KX G hmg ?aC ?pg ?hd ?po ?sa ?mk ?kc ?a_check_room_count ?l_check_room_count ?c_check_room_count ?k_check_room_count ?a_checked_doors ?l_checked_doors ?c_checked_doors ?k_checked_doors ?a__law_cell ?l__law_cell ?c__law_cell ?k__law_cell ?a__law_numbers ?l__law_numbers ?c__law_numbers ?k__law_numbers ?a__law_names ?l__law_names ?c__law_names ?k__law_names ?a__law_joined ?l__law_joined ?c__law_joined ?k__law_joined ?a__law_doors ?l__law_doors ?c__law_doors ?k__law_doors ?a__law_pool ?l__law_pool ?c__law_pool ?k__law_pool ?a__law_choice ?l__law_choice ?c__law_choice ?k__law_choice ?a__law_log ?l__law_log ?c__law_log ?k__law_log ?a__law_calls ?l__law_calls ?c__law_calls ?k__law_calls ?a__law_reach ?l__law_reach ?c__law_reach ?k__law_reach ?a__law_pieces ?l__law_pieces ?c__law_pieces ?k__law_pieces ?a__law_top ?l__law_top ?c__law_top ?k__law_top ?a__law_word_of ?l__law_word_of ?c__law_word_of ?k__law_word_of ?a__law_tops ?l__law_tops ?c__law_tops ?k__law_tops ?a__law_form ?l__law_form ?c__law_form ?k__law_form ?a_blocks ?l_blocks ?c_blocks ?k_blocks ?a_block_rooms ?l_block_rooms ?c_block_rooms ?k_block_rooms ?a_is_beside ?l_is_beside ?c_is_beside ?k_is_beside ?a_pairs_between ?l_pairs_between ?c_pairs_between ?k_pairs_between ?a_forced_pairs ?l_forced_pairs ?c_forced_pairs ?k_forced_pairs ?a_last_calls ?l_last_calls ?c_last_calls ?k_last_calls ?a_last_call_in ?l_last_call_in ?c_last_call_in ?k_last_call_in ?a_word_of ?l_word_of ?c_word_of ?k_word_of ?a_first_paths ?l_first_paths ?c_first_paths ?k_first_paths ?a_reached ?l_reached ?c_reached ?k_reached ?a_pieces ?l_pieces ?c_pieces ?k_pieces ?a_top_room ?l_top_room ?c_top_room ?k_top_room ?a_called_keepers ?l_called_keepers ?c_called_keepers ?k_called_keepers ?a_form_of ?l_form_of ?c_form_of ?k_form_of ?e_form_of ?a__law_same ?l__law_same ?c__law_same ?k__law_same ?a__law_are_pairs ?l__law_are_pairs ?c__law_are_pairs ?k__law_are_pairs ?a__law_parts ?l__law_parts ?c__law_parts ?k__law_parts ?a__law_orders ?l__law_orders ?c__law_orders ?k__law_orders ?a__law_leaves ?l__law_leaves ?c__law_leaves ?k__law_leaves ?a_words_by_form ?l_words_by_form ?c_words_by_form ?k_words_by_form ?a_called_rooms ?l_called_rooms ?c_called_rooms ?k_called_rooms ?a_called_by_form ?l_called_by_form ?c_called_by_form ?k_called_by_form ?a_obeys_pairs ?l_obeys_pairs ?c_obeys_pairs ?k_obeys_pairs ?e_obeys_pairs ?a_keeps_form ?l_keeps_form ?c_keeps_form ?k_keeps_form ?a__law_keeps ?l__law_keeps ?c__law_keeps ?k__law_keeps ?a__law_wrong ?l__law_wrong ?c__law_wrong ?k__law_wrong ?a_build_form ?l_build_form ?c_build_form ?k_build_form ?e_build_form ?a_law ?l_law ?c_law ?k_law ?a_m_init_ ?l_m_init_ ?c_m_init_ ?k_m_init_ ?i_m_init_ ?a_mneighbours ?l_mneighbours ?c_mneighbours ?k_mneighbours ?i_mneighbours ?n_rooms ?n__doors ?n__near ?cr1 ?cr2 ?cv_MOST_ROOMS ?gf_nb ?tk_nb ?fi_nb ?ne_tb ?z_len ?z_abs ?z_int ?z_range ?z_list ?z_tuple ?z_min ?z_max ?z_sorted ?z_isinstance ?z_bool ?z_str ?z_set ?z_enumerate ?z_any ?z_reversed ?z_all
    (case aC => k_is)
    (case pg => k_is)
    (case hd => k_is)
    (case po => k_is)
    (case sa => k_is)
    (case mk => k_is)
    (case kc => k_is)
    (case a_check_room_count => k_is)
    (case l_check_room_count => k_is)
    (case c_check_room_count => k_is)
    (case k_check_room_count => k_is)
    (case a_checked_doors => k_is)
    (case l_checked_doors => k_is)
    (case c_checked_doors => k_is)
    (case k_checked_doors => k_is)
    (case a__law_cell => k_is)
    (case l__law_cell => k_is)
    (case c__law_cell => k_is)
    (case k__law_cell => k_is)
    (case a__law_numbers => k_is)
    (case l__law_numbers => k_is)
    (case c__law_numbers => k_is)
    (case k__law_numbers => k_is)
    (case a__law_names => k_is)
    (case l__law_names => k_is)
    (case c__law_names => k_is)
    (case k__law_names => k_is)
    (case a__law_joined => k_is)
    (case l__law_joined => k_is)
    (case c__law_joined => k_is)
    (case k__law_joined => k_is)
    (case a__law_doors => k_is)
    (case l__law_doors => k_is)
    (case c__law_doors => k_is)
    (case k__law_doors => k_is)
    (case a__law_pool => k_is)
    (case l__law_pool => k_is)
    (case c__law_pool => k_is)
    (case k__law_pool => k_is)
    (case a__law_choice => k_is)
    (case l__law_choice => k_is)
    (case c__law_choice => k_is)
    (case k__law_choice => k_is)
    (case a__law_log => k_is)
    (case l__law_log => k_is)
    (case c__law_log => k_is)
    (case k__law_log => k_is)
    (case a__law_calls => k_is)
    (case l__law_calls => k_is)
    (case c__law_calls => k_is)
    (case k__law_calls => k_is)
    (case a__law_reach => k_is)
    (case l__law_reach => k_is)
    (case c__law_reach => k_is)
    (case k__law_reach => k_is)
    (case a__law_pieces => k_is)
    (case l__law_pieces => k_is)
    (case c__law_pieces => k_is)
    (case k__law_pieces => k_is)
    (case a__law_top => k_is)
    (case l__law_top => k_is)
    (case c__law_top => k_is)
    (case k__law_top => k_is)
    (case a__law_word_of => k_is)
    (case l__law_word_of => k_is)
    (case c__law_word_of => k_is)
    (case k__law_word_of => k_is)
    (case a__law_tops => k_is)
    (case l__law_tops => k_is)
    (case c__law_tops => k_is)
    (case k__law_tops => k_is)
    (case a__law_form => k_is)
    (case l__law_form => k_is)
    (case c__law_form => k_is)
    (case k__law_form => k_is)
    (case a_blocks => k_is)
    (case l_blocks => k_is)
    (case c_blocks => k_is)
    (case k_blocks => k_is)
    (case a_block_rooms => k_is)
    (case l_block_rooms => k_is)
    (case c_block_rooms => k_is)
    (case k_block_rooms => k_is)
    (case a_is_beside => k_is)
    (case l_is_beside => k_is)
    (case c_is_beside => k_is)
    (case k_is_beside => k_is)
    (case a_pairs_between => k_is)
    (case l_pairs_between => k_is)
    (case c_pairs_between => k_is)
    (case k_pairs_between => k_is)
    (case a_forced_pairs => k_is)
    (case l_forced_pairs => k_is)
    (case c_forced_pairs => k_is)
    (case k_forced_pairs => k_is)
    (case a_last_calls => k_is)
    (case l_last_calls => k_is)
    (case c_last_calls => k_is)
    (case k_last_calls => k_is)
    (case a_last_call_in => k_is)
    (case l_last_call_in => k_is)
    (case c_last_call_in => k_is)
    (case k_last_call_in => k_is)
    (case a_word_of => k_is)
    (case l_word_of => k_is)
    (case c_word_of => k_is)
    (case k_word_of => k_is)
    (case a_first_paths => k_is)
    (case l_first_paths => k_is)
    (case c_first_paths => k_is)
    (case k_first_paths => k_is)
    (case a_reached => k_is)
    (case l_reached => k_is)
    (case c_reached => k_is)
    (case k_reached => k_is)
    (case a_pieces => k_is)
    (case l_pieces => k_is)
    (case c_pieces => k_is)
    (case k_pieces => k_is)
    (case a_top_room => k_is)
    (case l_top_room => k_is)
    (case c_top_room => k_is)
    (case k_top_room => k_is)
    (case a_called_keepers => k_is)
    (case l_called_keepers => k_is)
    (case c_called_keepers => k_is)
    (case k_called_keepers => k_is)
    (case a_form_of => k_is)
    (case l_form_of => k_is)
    (case c_form_of => k_is)
    (case k_form_of => k_is)
    (case e_form_of => rfl)
    (case a__law_same => k_is)
    (case l__law_same => k_is)
    (case c__law_same => k_is)
    (case k__law_same => k_is)
    (case a__law_are_pairs => k_is)
    (case l__law_are_pairs => k_is)
    (case c__law_are_pairs => k_is)
    (case k__law_are_pairs => k_is)
    (case a__law_parts => k_is)
    (case l__law_parts => k_is)
    (case c__law_parts => k_is)
    (case k__law_parts => k_is)
    (case a__law_orders => k_is)
    (case l__law_orders => k_is)
    (case c__law_orders => k_is)
    (case k__law_orders => k_is)
    (case a__law_leaves => k_is)
    (case l__law_leaves => k_is)
    (case c__law_leaves => k_is)
    (case k__law_leaves => k_is)
    (case a_words_by_form => k_is)
    (case l_words_by_form => k_is)
    (case c_words_by_form => k_is)
    (case k_words_by_form => k_is)
    (case a_called_rooms => k_is)
    (case l_called_rooms => k_is)
    (case c_called_rooms => k_is)
    (case k_called_rooms => k_is)
    (case a_called_by_form => k_is)
    (case l_called_by_form => k_is)
    (case c_called_by_form => k_is)
    (case k_called_by_form => k_is)
    (case a_obeys_pairs => k_is)
    (case l_obeys_pairs => k_is)
    (case c_obeys_pairs => k_is)
    (case k_obeys_pairs => k_is)
    (case e_obeys_pairs => rfl)
    (case a_keeps_form => k_is)
    (case l_keeps_form => k_is)
    (case c_keeps_form => k_is)
    (case k_keeps_form => k_is)
    (case a__law_keeps => k_is)
    (case l__law_keeps => k_is)
    (case c__law_keeps => k_is)
    (case k__law_keeps => k_is)
    (case a__law_wrong => k_is)
    (case l__law_wrong => k_is)
    (case c__law_wrong => k_is)
    (case k__law_wrong => k_is)
    (case a_build_form => k_is)
    (case l_build_form => k_is)
    (case c_build_form => k_is)
    (case k_build_form => k_is)
    (case e_build_form => rfl)
    (case a_law => k_is)
    (case l_law => k_is)
    (case c_law => k_is)
    (case k_law => k_is)
    (case a_m_init_ => k_is)
    (case l_m_init_ => k_is)
    (case c_m_init_ => k_is)
    (case k_m_init_ => k_is)
    (case i_m_init_ => k_is)
    (case a_mneighbours => k_is)
    (case l_mneighbours => k_is)
    (case c_mneighbours => k_is)
    (case k_mneighbours => k_is)
    (case i_mneighbours => k_is)
    (case n_rooms => k_is)
    (case n__doors => k_is)
    (case n__near => k_is)
    (case cr1 => k_is)
    (case cr2 => k_is)
    (case cv_MOST_ROOMS => k_is)
    (case gf_nb => k_is)
    (case tk_nb => k_is)
    (case fi_nb => k_is)
    (case ne_tb => decide)
    (case z_len => k_is)
    (case z_abs => k_is)
    (case z_int => k_is)
    (case z_range => k_is)
    (case z_list => k_is)
    (case z_tuple => k_is)
    (case z_min => k_is)
    (case z_max => k_is)
    (case z_sorted => k_is)
    (case z_isinstance => k_is)
    (case z_bool => k_is)
    (case z_str => k_is)
    (case z_set => k_is)
    (case z_enumerate => k_is)
    (case z_any => k_is)
    (case z_reversed => k_is)
    (case z_all => k_is)


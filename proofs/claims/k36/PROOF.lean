import PyProof.Rows.All
import Wide.All
import OpenK.AllK
import Wide.FinOn
import HandS.ForMost
import HandS.SortRule
import HandS.IsInst
import HandS.Deep
import HandS.Property
import HandS.TupSets
import HandS.Style
import HandS.Conv
import HandS.Evl
import HandS.ClsMeth
import HandS.Strs
import HandS.Rev
import HandS.SetFor
import HandS.Zip
import KE.DataCmp
import HandS.AnyAll
import PyProof.WalksMore
import HandS.Nested
import KE.SortKeyHeap
import KE.SortUse
import PyProof.GenCompT
import PyProof.WalksPairs
import HandS.TupAny
import HandS.Walk
import HandS.SetBool
import PySem.Challenge.RW_callsheard_k36_sure_pairs
set_option Elab.async false
set_option linter.all false
set_option maxRecDepth 100000
namespace My
open PySem PySem.Spec PyProof.Rows L2
theorem cxK {CX : CXT} {P : Program} {w : World} {K : PySem.W.Frag} {mg : Str → Option Value} {base : Heap} {N : List Str} {q : Str} {sc : Scope} {f : Addr} {cdv : Value} {A : Around} {outer : List Env} {s : Shared} {H : Hp} {E : XK} : (cxOf CX P w K mg base N q sc f cdv A outer s H E).nox.K = K := rfl
theorem cxK2 {CX : CXT} {P : Program} {w : World} {K : PySem.W.Frag} {mg : Str → Option Value} {base : Heap} {N : List Str} {q : Str} {sc : Scope} {f : Addr} {cdv : Value} {A : Around} {outer : List Env} {s : Shared} {H : Hp} {E : XK} : (cxOf CX P w K mg base N q sc f cdv A outer s H E).K = K := rfl
theorem cxP {CX : CXT} {P : Program} {w : World} {K : PySem.W.Frag} {mg : Str → Option Value} {base : Heap} {N : List Str} {q : Str} {sc : Scope} {f : Addr} {cdv : Value} {A : Around} {outer : List Env} {s : Shared} {H : Hp} {E : XK} : (cxOf CX P w K mg base N q sc f cdv A outer s H E).prog = P := rfl
theorem cxW {CX : CXT} {P : Program} {w : World} {K : PySem.W.Frag} {mg : Str → Option Value} {base : Heap} {N : List Str} {q : Str} {sc : Scope} {f : Addr} {cdv : Value} {A : Around} {outer : List Env} {s : Shared} {H : Hp} {E : XK} : (cxOf CX P w K mg base N q sc f cdv A outer s H E).w = w := rfl
/-- built-in names that the text has not bound -/
structure Bi (mg : Str → Option Value) : Prop where
  len : mg "len" = none
  abs : mg "abs" = none
  int : mg "int" = none
  range : mg "range" = none
  list : mg "list" = none
  tuple : mg "tuple" = none
  min : mg "min" = none
  max : mg "max" = none
  sorted : mg "sorted" = none
  isinstance : mg "isinstance" = none
  bool : mg "bool" = none
  str : mg "str" = none
  set : mg "set" = none
  enumerate : mg "enumerate" = none
/-- a def of the text, bound in the module, that keeps a promise -/
structure Df (P : Program) (w : World) (K : PySem.W.Frag) (mg : Str → Option Value) (base : Heap) (x : Str) (ps : List Str) (k : Nat) (sp : Sp) (f : Addr) (fd : FuncData) : Prop where
  at_ : mg x = some (.ref f)
  kp : PySem.W.keepIn K (.ref f) = true
  b : Binds K fd ps []
  ok : FnOk P w K mg base CX0 k f fd ps sp
local macro_rules | `(tactic| walk_at "rd") => `(tactic| try simp only [cxK, cxK2, cxP, cxW, L2.start, List.length_cons, List.length_nil, List.replicate_succ, List.replicate_zero, List.map_cons, List.map_nil, List.cons_append, List.nil_append, tVar, tC, tAdd, tSub, t2I, tIsN, tNotN, tB, tAnd, tOr, tNot, tAndV, tOrV, tNotV, tIf, tNext, tSeq, tBreak, tCont, tDrop, tRet, tRetN, tIfS, gName, gNil, gCons, gTup, gSub, tAsg, tOp, tUn, rI, rI0, rU, tTest, tChain, tNil, tCons, tTup, tLst, tCall, tCB, tNoPart, tPart, tSl, rIxL, rIxT, rIxS, rSetL, rAppend, rExtend, tBM, tBM0, tFld, tMeth, tMake, sFld, tYes, tLstRg, tRg1, tRg2, rSlL, iRng1, iRng2, iList, List.getElem?_cons_zero, List.getElem?_cons_succ, Option.some.injEq, List.cons.injEq, V.int.injEq, V.ref.injEq, V.bl.injEq, V.str.injEq, exists_eq_left', exists_eq_left, exists_eq_right, exists_eq_right', true_and, and_true, and_assoc, exists_and_left, exists_and_right, List.set_cons_zero, List.set_cons_succ, List.append_nil, reduceCtorEq, false_and, and_false, exists_false, or_false, false_or, decide_eq_true_eq, Nat.reduceAdd, Nat.reduceSub])
section
variable {X : Cx}
theorem cr_intI : CallR X (.type "int") (fun xs H Q => ∃ i, xs = [.int i] ∧ Q (.int i) H) := fun pins s σ H xs us Q I r h => call_int1 pins s σ H xs us Q I r (.inl h)
theorem op_eqI : OpR X (compareOp .Eq) (rI0 fun i j => .bl (decide (i = j))) := fun pins s σ H x y v u Q I rx ry h => by
  obtain ⟨i, j, rfl, rfl, q⟩ := h
  have e : decide (i = j) = decide (V.int i = V.int j) := by
    by_cases h : i = j
    · subst h
      rw [decide_eq_true rfl, decide_eq_true rfl]
    · rw [decide_eq_false h, decide_eq_false (fun z => h (V.int.inj z))]
  exact op_eq pins s σ H _ _ v u Q I rx ry ⟨rfl, by rw [← e]; exact q⟩
theorem op_neI : OpR X (compareOp .NotEq) (rI0 fun i j => .bl (!decide (i = j))) := fun pins s σ H x y v u Q I rx ry h => by
  obtain ⟨i, j, rfl, rfl, q⟩ := h
  have e : decide (i = j) = decide (V.int i = V.int j) := by
    by_cases h : i = j
    · subst h
      rw [decide_eq_true rfl, decide_eq_true rfl]
    · rw [decide_eq_false h, decide_eq_false (fun z => h (V.int.inj z))]
  exact op_ne pins s σ H _ _ v u Q I rx ry ⟨rfl, by rw [← e]; exact q⟩
def rIsT : R2 := fun x y H Q => ∃ b : Bool, y = .bl b ∧ Q (.bl (decide (x = .bl b))) H
/-- x is True, x is False -/
theorem op_isT : OpR X (compareOp .Is) rIsT := by
  intro pins s σ H x y v u Q I rx ry h
  obtain ⟨b, rfl, q⟩ := h
  cases (show u = Value.bool b from ry)
  cases x with
  | non => cases (show v = Value.none from rx); exact wpAny_is_other rfl (fun z => nomatch z) ⟨.bl false, H, I, rfl, by simpa using q⟩
  | bl a =>
    cases (show v = Value.bool a from rx)
    by_cases e : a = b
    · subst e
      exact wpAny_is_self rfl ⟨.bl true, H, I, rfl, by simpa using q⟩
    · exact wpAny_is_other rfl (fun z => e (Value.bool.inj z)) ⟨.bl false, H, I, rfl, by simpa [e] using q⟩
  | int i => obtain ⟨t, e⟩ := (show ∃ t, v = Value.int i t from rx); cases e; exact wpAny_is_other rfl (fun z => nomatch z) ⟨.bl false, H, I, rfl, by simpa using q⟩
  | str i => obtain ⟨t, e⟩ := (show ∃ t, v = Value.str i t from rx); cases e; exact wpAny_is_other rfl (fun z => nomatch z) ⟨.bl false, H, I, rfl, by simpa using q⟩
  | byt i => obtain ⟨t, e⟩ := (show ∃ t, v = Value.bytes i t from rx); cases e; exact wpAny_is_other rfl (fun z => nomatch z) ⟨.bl false, H, I, rfl, by simpa using q⟩
  | flt i => obtain ⟨t, e⟩ := (show ∃ t, v = Value.float i t from rx); cases e; exact wpAny_is_other rfl (fun z => nomatch z) ⟨.bl false, H, I, rfl, by simpa using q⟩
  | ref a => cases (show v = Value.ref a from rx); exact wpAny_is_other rfl (fun z => nomatch z) ⟨.bl false, H, I, rfl, by simpa using q⟩
  | ty n => cases (show v = Value.type n from rx); exact wpAny_is_other rfl (fun z => nomatch z) ⟨.bl false, H, I, rfl, by simpa using q⟩
end
theorem same_upd {H : Hp} {p : Addr} {o : HO} (h : H p = none) : Same H (upd H p o) := fun b x e => by
  rw [upd_ne (ne_of_none e h)]
  exact e
/-- a list that was new and is changed: what stood before stands -/
theorem same_ch {H0 H : Hp} {p : Addr} {o : HO} (s : Same H0 H) (n : H0 p = none) : Same H0 (upd H p o) := fun b x e => by
  rw [upd_ne (ne_of_none e n)]
  exact s _ _ e
theorem ixn {n j : Nat} {z : Int} (e : z = (j : Int)) (hj : j < n) : ixN n z = some j := by
  rw [e]
  unfold ixN
  rw [if_pos (by omega), if_pos (by omega)]
  simp
theorem len_big {n : Nat} (h : n ≤ 100000) : n < sizeLine := Nat.lt_of_le_of_lt h (by decide)
theorem mem_ix {α : Type} {l : List α} {i : Nat} (h : i < l.length) : ∃ x, l[i]? = some x ∧ x ∈ l := ⟨l[i], List.getElem?_eq_getElem h, List.getElem_mem h⟩

local macro_rules | `(tactic| walk_at "rg") => `(tactic| try simp only [cxK, cxK2, cxP, cxW, L2.start, List.length_cons, List.length_nil, List.replicate_succ, List.replicate_zero, List.map_cons, List.map_nil, List.cons_append, List.nil_append, gName, gNil, gCons, gTup, gSub, List.getElem?_cons_zero, List.getElem?_cons_succ, Option.some.injEq, List.cons.injEq, V.int.injEq, V.ref.injEq, V.bl.injEq, V.str.injEq, exists_eq_left', exists_eq_left, exists_eq_right, exists_eq_right', true_and, and_true, and_assoc, exists_and_left, exists_and_right, List.set_cons_zero, List.set_cons_succ, List.append_nil, reduceCtorEq, false_and, and_false, exists_false, or_false, false_or, decide_eq_true_eq, Nat.reduceAdd, Nat.reduceSub])
def topS (i : Nat) : Stmt := PySem.Challenge.pw_callsheard_k36_sure_pairs.main.body.getD i (.Pass ⟨0, 0, 0, 0⟩)
abbrev sCell : Stmt := topS 19
abbrev sNum : Stmt := topS 20
def cellN (ns : List Int) (k : Nat) : Int := (ns.getD k 0).natAbs
theorem cellN_nn (ns : List Int) (k : Nat) : 0 ≤ cellN ns k := Int.natCast_nonneg _
section
variable {P : Program} {w : World} {K : PySem.W.Frag} {mg : Str → Option Value} {base : Heap}
theorem scCell : FnScope ["script", "k"] ["script", "k"] (defScope sCell) := ⟨rfl, rfl, rfl, by decide +kernel, rfl, by decide +kernel, by decide +kernel⟩
def spCell (K : PySem.W.Frag) : Sp := fun vs H Q _ => ∃ (a : Addr) (ns : List Int) (k : Nat), vs = [.ref a, .int k] ∧ SqL K H a (ns.map V.int) ∧ ∀ c, 0 ≤ c → Q (.int c) H
theorem ok_cell {f : Addr} {fd : FuncData} (F : Fun K "_law_cell" "_law_cell" sCell f fd) (T : Bi mg) : FnOk P w K mg base CX0 1 f fd ["script", "k"] (spCell K) := by
  refine F.ok scCell (fun vs H Q E h => ?_) (fun cdv A outer s H vs Q E hr h => ?_)
  · obtain ⟨a, ns, k, rfl, _⟩ := h
    rfl
  · obtain ⟨a, ns, k, rfl, hS, q⟩ := h
    refine ⟨_, (pss_cons (ps_if (pt_cmpR op_lt (pv 1) (pe_callB call_len_seq (by rfl) T.len (by decide +kernel) (pa_cons (pv 0) pa_nil)) (nomark _))
      (pss_one (ps_ret (pe_callB call_abs (by rfl) T.abs (by decide +kernel) (pa_cons (pe_callTy cr_intI (by rfl) T.int (by decide +kernel) (pa_cons (pe_ix ix_list (pv 0) (pv 1) (fun _ _ => rfl)) pa_nil)) pa_nil))))
      pss_nil)
      (pss_one (ps_ret pe_int))), ?_⟩
    walk_at "rd"
    refine ⟨_, .inl hS, ?_⟩
    rw [List.length_map]
    refine ite2 (fun hk => ?_) (fun _ => q _ (Int.le_refl _))
    have hk2 : k < ns.length := by omega
    refine ⟨_, hS, V.int ns[k], atI_nat (by rw [List.getElem?_map, List.getElem?_eq_getElem hk2]; rfl), _, rfl, ?_⟩
    refine q _ ?_
    split <;> omega
theorem scNum : FnScope ["cell", "count", "numbers", "rest", "mixed", "k"] ["cell", "count"] (defScope sNum) := ⟨rfl, rfl, rfl, by decide +kernel, rfl, by decide +kernel, by decide +kernel⟩
/-- n ints from 0 on below 997 -/
def Nums (n : Nat) (ns : List Int) : Prop := ns.length = n ∧ ∀ x ∈ ns, 0 ≤ x ∧ x < 997
def spNum (K : PySem.W.Frag) : Sp := fun vs H Q _ => ∃ (c : Int) (n : Nat), vs = [.int c, .int n] ∧ n ≤ 2000 ∧ ∀ ns p H', Nums n ns → Same H H' → H p = none → H' p = some (.lst (ns.map V.int)) → Q (.ref p) H'
theorem ok_num {f : Addr} {fd : FuncData} (F : Fun K "_law_numbers" "_law_numbers" sNum f fd) (T : Bi mg) : FnOk P w K mg base CX0 1 f fd ["cell", "count"] (spNum K) := by
  refine F.ok scNum (fun vs H Q E h => ?_) (fun cdv A outer s H vs Q E hr h => ?_)
  · obtain ⟨c, n, rfl, _⟩ := h
    rfl
  · obtain ⟨c, n, rfl, hn, q⟩ := h
    refine ⟨_, (pss_cons (ps_set (i := 2) scNum.nd rfl (Or.inl rfl) (pe_lst pa_nil))
      (pss_cons (ps_set (i := 3) scNum.nd rfl (Or.inl rfl) (pv 0))
      (pss_cons (ps_set (i := 4) scNum.nd rfl (Or.inl rfl) (pe_op op_mod (pe_callTy cr_intI (by rfl) T.int (by decide +kernel) (pa_cons (pe_op op_add (pe_op op_mul (pv 0) pe_int) pe_int) pa_nil)) pe_int))
      (pss_cons (ps_for PassesOwn.never rfl (pi_range1 (by rfl) T.range (pa_cons (pv 1) pa_nil)) (pg_name (i := 5) scNum.nd rfl (Or.inl rfl))
      (pss_cons (ps_set (i := 4) scNum.nd rfl (Or.inl rfl) (pe_op op_mod (pe_callTy cr_intI (by rfl) T.int (by decide +kernel) (pa_cons (pe_op op_add (pe_op op_add (pe_op op_mul (pv 4) pe_int) (pe_op op_mul pe_int (pv 5))) pe_int) pa_nil)) pe_int))
        (pss_one (ps_if (pt_cmpR op_ge (pv 0) (pe_op op_pow pe_int pe_int) (nomark _))
        (pss_cons (ps_expr (pe_bm PySem.F.plainAttrs_list PySem.F.slot_list_append PySem.F.type_list_append mt_append (pv 2) (pa_cons (pe_op op_mod (pe_callTy cr_intI (by rfl) T.int (by decide +kernel) (pa_cons (pv 3) pa_nil)) pe_int) pa_nil)))
          (pss_one (ps_set (i := 3) scNum.nd rfl (Or.inl rfl) (pe_op op_fdiv (pv 3) pe_int))))
        (pss_one (ps_expr (pe_bm PySem.F.plainAttrs_list PySem.F.slot_list_append PySem.F.type_list_append mt_append (pv 2) (pa_cons (pe_op op_mod (pe_callTy cr_intI (by rfl) T.int (by decide +kernel) (pa_cons (pe_op op_fdiv (pv 4) pe_int) pa_nil)) pe_int) pa_nil))))))))
      (pss_one (ps_ret (pv 2))))))), ?_⟩
    walk_at "rd"
    refine ⟨by decide, fun p np => ⟨.inr (by decide), by decide, ?_⟩⟩
    refine ⟨_, rfl, _, rfl, by omega, by omega, for_range (lo := 0) (n := (n : Int).toNat) (fun i σ H' => ∃ (ns : List Int) (rest mixed : Int) (v : Option V), σ = [some (.int c), some (.int n), some (.ref p), some (.int rest), some (.int mixed), v] ∧ Nums i ns ∧ Same H H' ∧ H' p = some (.lst (ns.map V.int)))
      ⟨[], c, _, none, rfl, ⟨rfl, fun x hx => by cases hx⟩, same_upd np, upd_same⟩ ?_ ?_⟩
    · rintro i σ H' hi ⟨ns, rest, mixed, v, rfl, hns, sm, hp⟩
      have small : (List.map V.int ns).length < sizeLine := len_big (by rw [List.length_map, hns.1]; omega)
      have next : ∀ y, 0 ≤ y → y < 997 → Nums (i + 1) (ns ++ [y]) := fun y h0 h1 => by
        refine ⟨by rw [List.length_append, hns.1]; rfl, fun x hx => ?_⟩
        rcases List.mem_append.mp hx with hx | hx
        · exact hns.2 x hx
        · rw [List.mem_singleton.mp hx]
          exact ⟨h0, h1⟩
      have ty : tyV K "list" (.ref p) H' := .inl ⟨rfl, _, SqL.of hp⟩
      walk_at "rd"
      refine ⟨.inr (by decide), .inl (by decide), by decide, ⟨by decide, by decide, by decide⟩, ite2 (fun _ => ?_) (fun _ => ?_)⟩
      · refine ⟨ty, by decide, _, hp, small, ⟨by decide, by decide⟩, ns ++ [rest % 997], next _ (Int.emod_nonneg _ (by decide)) (Int.emod_lt_of_pos _ (by decide)), same_ch sm np, ?_⟩
        rw [upd_same, List.map_append]
        rfl
      · refine ⟨ty, ⟨by decide, by decide⟩, by decide, _, hp, small, ns ++ [(mixed * 48271 + 7919 * (0 + (i : Int)) + 12345) % 2147483647 / 1009 % 997], next _ (Int.emod_nonneg _ (by decide)) (Int.emod_lt_of_pos _ (by decide)), same_ch sm np, ?_⟩
        rw [upd_same, List.map_append]
        rfl
    · rintro σ H' ⟨ns, rest, mixed, v, rfl, hns, sm, hp⟩
      walk_at "rd"
      exact q ns p H' (by simpa using hns) sm np hp
end

/-! ### pairs of ints in the heap -/
abbrev Pr := Int × Int
/-- v is a tuple of the two ints -/
def IsP (H : Hp) (v : V) (d : Pr) : Prop := ∃ t, v = .ref t ∧ H t = some (.tup [.int d.1, .int d.2])
def PL (H : Hp) (vs : List V) (D : List Pr) : Prop := Paired (IsP H) vs D
def kH (H : Hp) (v : V) : Pr := match v with
  | .ref t => match H t with
    | some (.tup [.int x, .int y]) => (x, y)
    | _ => (0, 0)
  | _ => (0, 0)
theorem IsP.k {H : Hp} {v : V} {d : Pr} (h : IsP H v d) : kH H v = d := by
  obtain ⟨t, rfl, e⟩ := h
  unfold kH
  simp only [e]
/-- tuples stand -/
def KT (H H' : Hp) : Prop := ∀ t xs, H t = some (.tup xs) → H' t = some (.tup xs)
theorem KT.refl (H : Hp) : KT H H := fun _ _ h => h
theorem KT.trans {H H1 H2 : Hp} (a : KT H H1) (b : KT H1 H2) : KT H H2 := fun t xs h => b t xs (a t xs h)
theorem KT.same {H H' : Hp} (s : Same H H') : KT H H' := fun t xs h => s t _ h
theorem KT.new {H : Hp} {p : Addr} {o : HO} (n : H p = none) : KT H (upd H p o) := KT.same (same_upd n)
theorem KT.ch {H : Hp} {p : Addr} {o o' : HO} (n : H p = some o') (ho : ∀ xs, o' ≠ .tup xs) : KT H (upd H p o) := fun t xs h => by
  rw [upd_ne]
  · exact h
  · rintro rfl
    rw [h] at n
    exact ho xs (Option.some.inj n).symm
theorem KT.lst {H : Hp} {p : Addr} {o : HO} {vs : List V} (n : H p = some (.lst vs)) : KT H (upd H p o) := KT.ch n (fun _ h => by cases h)
theorem IsP.kt {H H' : Hp} {v : V} {d : Pr} (h : IsP H v d) (k : KT H H') : IsP H' v d := by
  obtain ⟨t, e, h⟩ := h
  exact ⟨t, e, k _ _ h⟩
theorem PL.kt {H H' : Hp} {vs : List V} {D : List Pr} (h : PL H vs D) (k : KT H H') : PL H' vs D := Paired.mapP h fun _ _ q => q.kt k
theorem PL.len {H : Hp} {vs : List V} {D : List Pr} (h : PL H vs D) : vs.length = D.length := Paired.length h
theorem PL.nil0 (H : Hp) : PL H [] [] := Paired.nil
theorem PL.snoc {H : Hp} {vs : List V} {D : List Pr} {v : V} {d : Pr} (h : PL H vs D) (q : IsP H v d) : PL H (vs ++ [v]) (D ++ [d]) := Paired.snoc h q
theorem PL.get : ∀ {H : Hp} {vs : List V} {D : List Pr} {i : Nat} {v : V}, PL H vs D → vs[i]? = some v → ∃ d, D[i]? = some d ∧ IsP H v d
  | _, _, _, _, _, Paired.nil, e => by simp at e
  | _, _, _, 0, v, .cons r _, e => by
    have e2 := Option.some.inj e
    subst e2
    exact ⟨_, rfl, r⟩
  | _, _, _, i + 1, v, .cons _ t, e => PL.get (i := i) t e
theorem PL.get2 : ∀ {H : Hp} {vs : List V} {D : List Pr} {i : Nat} {d : Pr}, PL H vs D → D[i]? = some d → ∃ v, vs[i]? = some v ∧ IsP H v d
  | _, _, _, _, _, Paired.nil, e => by simp at e
  | _, _, _, 0, v, .cons r _, e => by
    have e2 := Option.some.inj e
    subst e2
    exact ⟨_, rfl, r⟩
  | _, _, _, i + 1, v, .cons _ t, e => PL.get2 (i := i) t e
theorem PL.toK : ∀ {H : Hp} {vs : List V} {D : List Pr}, PL H vs D → D = vs.map (kH H) ∧ ∀ v ∈ vs, IsP H v (kH H v)
  | _, _, _, Paired.nil => ⟨rfl, fun v hv => by cases hv⟩
  | H, _, _, .cons r t => by
    obtain ⟨e, h⟩ := PL.toK t
    have q := r.k
    refine ⟨by rw [List.map_cons, ← e, q], fun v hv => ?_⟩
    rcases List.mem_cons.mp hv with rfl | hv
    · rw [q]
      exact r
    · exact h v hv
theorem PL.ofK {H : Hp} : ∀ {vs : List V}, (∀ v ∈ vs, IsP H v (kH H v)) → PL H vs (vs.map (kH H))
  | [], _ => Paired.nil
  | v :: vs, h => .cons (h v List.mem_cons_self) (PL.ofK fun u hu => h u (List.mem_cons_of_mem _ hu))
/-! ### sorted lists of pairs -/
def lt2 (p q : Pr) : Prop := p.1 < q.1 ∨ (p.1 = q.1 ∧ p.2 < q.2)
def Asc (D : List Pr) : Prop := D.Pairwise lt2
theorem lt2_irr (p : Pr) : ¬ lt2 p p := by
  unfold lt2
  omega
theorem lt2_ne {p q : Pr} (h : lt2 p q) : p ≠ q := by
  rintro rfl
  exact lt2_irr p h
theorem Asc.nodup {D : List Pr} (h : Asc D) : D.Nodup := List.Pairwise.imp lt2_ne h
theorem asc_of {D : List Pr} (nd : D.Nodup) (h : D.Pairwise fun x y => ¬ lt2 y x) : Asc D := by
  induction D with
  | nil => exact List.Pairwise.nil
  | cons p D ih =>
    obtain ⟨h1, h2⟩ := List.pairwise_cons.mp h
    obtain ⟨n1, n2⟩ := List.nodup_cons.mp nd
    refine List.pairwise_cons.mpr ⟨fun q hq => ?_, ih n2 h2⟩
    have a := h1 q hq
    have b : p ≠ q := fun e => n1 (by rw [e]; exact hq)
    unfold lt2 at a ⊢
    obtain ⟨p1, p2⟩ := p
    obtain ⟨q1, q2⟩ := q
    have c : ¬ (p1 = q1 ∧ p2 = q2) := fun ⟨e1, e2⟩ => b (by rw [e1, e2])
    simp only at a ⊢
    omega
/-- two ascending lists with the same pairs are one -/
theorem asc_uniq : ∀ {D E : List Pr}, Asc D → Asc E → (∀ p, p ∈ D ↔ p ∈ E) → D = E
  | [], [], _, _, _ => rfl
  | [], q :: E, _, _, h => by
    have := (h q).mpr List.mem_cons_self
    cases this
  | p :: D, [], _, _, h => by
    have := (h p).mp List.mem_cons_self
    cases this
  | p :: D, q :: E, hD, hE, h => by
    obtain ⟨a1, a2⟩ := List.pairwise_cons.mp hD
    obtain ⟨b1, b2⟩ := List.pairwise_cons.mp hE
    have e : p = q := by
      rcases List.mem_cons.mp ((h p).mp List.mem_cons_self) with e | hp
      · exact e
      · rcases List.mem_cons.mp ((h q).mpr List.mem_cons_self) with e | hq
        · exact e.symm
        · have c1 := b1 p hp
          have c2 := a1 q hq
          unfold lt2 at c1 c2
          omega
    subst e
    rw [asc_uniq a2 b2 fun z => ?_]
    constructor
    · intro hz
      rcases List.mem_cons.mp ((h z).mp (List.mem_cons_of_mem _ hz)) with e | hz2
      · subst e
        exact absurd (a1 z hz) (lt2_irr z)
      · exact hz2
    · intro hz
      rcases List.mem_cons.mp ((h z).mpr (List.mem_cons_of_mem _ hz)) with e | hz2
      · subst e
        exact absurd (b1 z hz) (lt2_irr z)
      · exact hz2
theorem srtd_asc {H : Hp} {ys : List V} (nd : (ys.map (kH H)).Nodup) (h : SrtO.Srtd (ltP (kH H)) ys) : Asc (ys.map (kH H)) := by
  refine asc_of nd (List.pairwise_map.mpr (List.Pairwise.imp (fun {x y} h => ?_) h))
  exact SrtO.lexB_no.mp h
/-- doors of a house with r rooms -/
structure Drs (r : Nat) (D : List Pr) : Prop where
  asc : Asc D
  ok : ∀ d ∈ D, 0 ≤ d.1 ∧ d.1 < d.2 ∧ d.2 < r
def cd (d : Pr) : Nat := (d.1 * 12 + d.2).toNat
theorem drs_len' {r : Nat} {D : List Pr} (hr : r ≤ 12) (nd : D.Nodup) (ok : ∀ d ∈ D, 0 ≤ d.1 ∧ d.1 < d.2 ∧ d.2 < r) : D.length ≤ 66 := by
  have h1 : (D.map cd).Nodup := by
    refine List.pairwise_map.mpr (List.Pairwise.imp_of_mem (fun {x y} hx hy hne e => ?_) nd)
    have a := ok x hx
    have b := ok y hy
    unfold cd at e
    obtain ⟨x1, x2⟩ := x
    obtain ⟨y1, y2⟩ := y
    simp only at a b e
    have : x1 = y1 ∧ x2 = y2 := by omega
    exact hne (by rw [this.1, this.2])
  have h2 : ∀ c ∈ D.map cd, c ∈ (List.range 144).filter fun c => c / 12 < c % 12 := fun c hc => by
    obtain ⟨d, hd, rfl⟩ := List.mem_map.mp hc
    have a := ok d hd
    refine List.mem_filter.mpr ⟨List.mem_range.mpr ?_, ?_⟩
    · unfold cd
      omega
    · rw [decide_eq_true_eq]
      unfold cd
      omega
  have h3 := nat_nodup_len (D.map cd) _ h1 h2
  rw [List.length_map] at h3
  exact Nat.le_trans h3 (by decide)
theorem Drs.len {r : Nat} {D : List Pr} (hr : r ≤ 12) (h : Drs r D) : D.length ≤ 66 := drs_len' hr h.asc.nodup h.ok

abbrev sNam : Stmt := topS 23
abbrev sJnd : Stmt := topS 24
theorem sub_lt_of {i n : Nat} (h : i < n) : (0 : Int) < (n : Int) - (i : Int) := by omega
/-- the ints from 0 on below n -/
def rg (n : Nat) : List Int := (List.range n).map Int.ofNat
theorem rg_len (n : Nat) : (rg n).length = n := by unfold rg; rw [List.length_map, List.length_range]
theorem rgV_rg (n : Nat) : rgV 0 (n : Int) = (rg n).map V.int := by
  unfold rgV rg
  rw [List.map_map]
  show List.map _ (List.range ((n : Int) - 0).toNat) = _
  rw [show ((n : Int) - 0).toNat = n by omega]
  refine List.map_congr_left fun i _ => ?_
  show V.int (0 + (i : Int)) = V.int (i : Int)
  rw [Int.zero_add]
theorem set_map {α β : Type} (f : α → β) (l : List α) (i : Nat) (x : α) : (l.map f).set i (f x) = (l.set i x).map f := by
  rw [List.map_set]
section
variable {P : Program} {w : World} {K : PySem.W.Frag} {mg : Str → Option Value} {base : Heap}
theorem scNam : FnScope ["numbers", "at", "rooms", "names", "k", "j", "kept"] ["numbers", "at", "rooms"] (defScope sNam) := ⟨rfl, rfl, rfl, by decide +kernel, rfl, by decide +kernel, by decide +kernel⟩
def spNam (K : PySem.W.Frag) : Sp := fun vs H Q _ => ∃ (a : Addr) (ns : List Int) (at_ r : Nat), vs = [.ref a, .int at_, .int r] ∧ SqL K H a (ns.map V.int) ∧ at_ + r ≤ ns.length ∧ r ≤ 1000 ∧
  ∀ xs p H', List.Perm xs (rg r) → Same H H' → H p = none → H' p = some (.lst (xs.map V.int)) → Q (.ref p) H'
theorem ok_nam {f : Addr} {fd : FuncData} (F : Fun K "_law_names" "_law_names" sNam f fd) (T : Bi mg) : FnOk P w K mg base CX0 1 f fd ["numbers", "at", "rooms"] (spNam K) := by
  refine F.ok scNam (fun vs H Q E h => ?_) (fun cdv A outer s H vs Q E hr h => ?_)
  · obtain ⟨a, ns, at_, r, rfl, _⟩ := h
    rfl
  · obtain ⟨a, ns, at_, r, rfl, hS, hat, hr1, q⟩ := h
    refine ⟨_, (pss_cons (ps_set (i := 3) scNam.nd rfl (Or.inl rfl) (pe_listRg rfl (by rfl) T.list (prg_1 (by rfl) T.range (pv 2))))
      (pss_cons (ps_for PassesOwn.never rfl (pi_range1 (by rfl) T.range (pa_cons (pv 2) pa_nil)) (pg_name (i := 4) scNam.nd rfl (Or.inl rfl))
      (pss_cons (ps_set (i := 5) scNam.nd rfl (Or.inl rfl) (pe_op op_add (pv 4) (pe_op op_mod (pe_callTy cr_intI (by rfl) T.int (by decide +kernel) (pa_cons (pe_ix ix_list (pv 0) (pe_op op_add (pv 1) (pv 4)) (fun _ _ => rfl)) pa_nil)) (pe_op op_sub (pv 2) (pv 4)))))
        (pss_cons (ps_set (i := 6) scNam.nd rfl (Or.inl rfl) (pe_ix ix_list (pv 3) (pv 4) (fun _ _ => rfl)))
        (pss_cons (ps_asg (pe_ix ix_list (pv 3) (pv 5) (fun _ _ => rfl)) (pg_sub (pv 3) (pv 4) set_list))
        (pss_one (ps_asg (pv 6) (pg_sub (pv 3) (pv 5) set_list)))))))
      (pss_one (ps_ret (pv 3))))), ?_⟩
    walk_at "rd"
    refine ⟨RgOk.of_le (by omega) (by omega) (by omega) (by omega), fun p np => ?_⟩
    refine ⟨_, rfl, r, rfl, by omega, by omega, for_range (lo := 0) (n := (r : Int).toNat) (fun i σ H' => ∃ (xs : List Int) (v1 v2 v3 : Option V), σ = [some (.ref a), some (.int at_), some (.int r), some (.ref p), v1, v2, v3] ∧ List.Perm xs (rg r) ∧ Same H H' ∧ H' p = some (.lst (xs.map V.int)))
      ⟨rg r, none, none, none, rfl, List.Perm.refl _, same_upd np, by rw [upd_same, rgV_rg]⟩ ?_ ?_⟩
    · rintro i σ H' hi ⟨xs, v1, v2, v3, rfl, pm, sm, hp⟩
      have hi2 : i < r := by omega
      have hl : xs.length = r := by rw [pm.length_eq, rg_len]
      have hS' := sm.seq hS
      have hn : at_ + i < ns.length := by omega
      have hq : SqL K H' p (xs.map V.int) := SqL.of hp
      walk_at "rd"
      have hj0 := Int.emod_nonneg ns[at_ + i] (show ((r : Int) - (0 + (i : Int))) ≠ 0 by omega)
      have hj1 := Int.emod_lt_of_pos ns[at_ + i] (show 0 < ((r : Int) - (0 + (i : Int))) by omega)
      obtain ⟨j, hj⟩ : ∃ j : Nat, (0 + (i : Int)) + ns[at_ + i] % ((r : Int) - (0 + (i : Int))) = j := ⟨((0 + (i : Int)) + ns[at_ + i] % ((r : Int) - (0 + (i : Int)))).toNat, by omega⟩
      have hjr : j < r := by omega
      have gi : (xs.map V.int)[i]? = some (.int xs[i]) := by rw [List.getElem?_map, List.getElem?_eq_getElem (by omega)]; rfl
      have gj : (xs.map V.int)[j]? = some (.int xs[j]) := by rw [List.getElem?_map, List.getElem?_eq_getElem (by omega)]; rfl
      refine ⟨_, hS', .int ns[at_ + i], at_of (j := at_ + i) (by omega) (by rw [List.getElem?_map, List.getElem?_eq_getElem hn]; rfl), _, rfl, by omega, _, hq, .int xs[i], at_of (by omega) gi, _, hq, .int xs[j], at_of hj gj, _, hp, i, ixn (by omega) (by rw [List.length_map]; omega), _, upd_same, j, ixn hj (by rw [List.length_set, List.length_map]; omega), (xs.set i xs[j]).set j xs[i], (List.set_set_perm (by omega) (by omega)).trans pm, same_ch (same_ch sm np) np, ?_⟩
      rw [upd_same, set_map, set_map]
    · rintro σ H' ⟨xs, v1, v2, v3, rfl, pm, sm, hp⟩
      walk_at "rd"
      exact q xs p H' pm sm np hp
theorem scJnd : FnScope ["kind", "a", "b", "rooms", "number", "parent"] ["kind", "a", "b", "rooms", "number", "parent"] (defScope sJnd) := ⟨rfl, rfl, rfl, by decide +kernel, rfl, by decide +kernel, by decide +kernel⟩
def spJnd : Sp := fun vs H Q _ => ∃ (kd a b r n p : Int), vs = [.int kd, .int a, .int b, .int r, .int n, .int p] ∧ 0 < b ∧ (0 ≤ kd ∧ kd < 8) ∧ ∀ c H', Same H H' → Q (.bl c) H'
theorem ok_jnd {f : Addr} {fd : FuncData} (F : Fun K "_law_joined" "_law_joined" sJnd f fd) (T : Bi mg) : FnOk P w K mg base CX0 1 f fd ["kind", "a", "b", "rooms", "number", "parent"] spJnd := by
  refine F.ok scJnd (fun vs H Q E h => ?_) (fun cdv A outer s H vs Q E hr h => ?_)
  · obtain ⟨kd, a, b, r, n, p, rfl, _⟩ := h
    rfl
  · obtain ⟨kd, a, b, r, n, p, rfl, hb, ⟨k0, k8⟩, q⟩ := h
    refine ⟨_, (pss_cons (ps_if (pt_cmpR op_eqI (pv 0) pe_int (nomark _))
      (pss_one (ps_ret (pe_cmpR op_eqI (pv 1) pe_int (nomark _))))
      pss_nil)
      (pss_cons (ps_if (pt_cmpR op_eqI (pv 0) pe_int (nomark _))
      (pss_one (ps_ret (pe_or (pe_cmpR op_eqI (pv 2) (pe_op op_add (pv 1) pe_int) (nomark _)) (pe_one (pe_and (pe_cmpR op_eqI (pv 1) pe_int (nomark _)) (pe_one (pe_cmpR op_eqI (pv 2) (pe_op op_sub (pv 3) pe_int) (nomark _))))))))
      pss_nil)
      (pss_cons (ps_if (pt_cmpR op_eqI (pv 0) pe_int (nomark _))
      (pss_one (ps_ret pe_bl))
      pss_nil)
      (pss_cons (ps_if (pt_cmpR op_eqI (pv 0) pe_int (nomark _))
      (pss_one (ps_ret (pe_cmpR op_eqI (pv 1) (pe_op op_mod (pe_callTy cr_intI (by rfl) T.int (by decide +kernel) (pa_cons (pv 5) pa_nil)) (pv 2)) (nomark _))))
      pss_nil)
      (pss_cons (ps_if (pt_cmpR op_eqI (pv 0) pe_int (nomark _))
      (pss_one (ps_ret (pe_cmpR op_eqI (pe_op op_mod (pe_callTy cr_intI (by rfl) T.int (by decide +kernel) (pa_cons (pv 4) pa_nil)) pe_int) pe_int (nomark _))))
      pss_nil)
      (pss_cons (ps_if (pt_cmpR op_eqI (pv 0) pe_int (nomark _))
      (pss_one (ps_ret (pe_cmpR op_eqI (pe_op op_mod (pe_callTy cr_intI (by rfl) T.int (by decide +kernel) (pa_cons (pv 4) pa_nil)) pe_int) pe_int (nomark _))))
      pss_nil)
      (pss_cons (ps_if (pt_cmpR op_eqI (pv 0) pe_int (nomark _))
      (pss_one (ps_ret (pe_cmpR op_neI (pe_op op_mod (pe_callTy cr_intI (by rfl) T.int (by decide +kernel) (pa_cons (pv 4) pa_nil)) pe_int) pe_int (nomark _))))
      pss_nil)
      (pss_one (ps_ret (pe_cmpR op_eqI (pv 2) (pe_op op_add (pv 1) pe_int) (nomark _))))))))))), ?_⟩
    walk_at "rd"
    repeat (first | exact q _ _ (Same.refl _) | exact hb | decide | refine ⟨?_, ?_⟩ | refine ite2 (fun _ => ?_) (fun _ => ?_) | split)
end

abbrev sDrs : Stmt := topS 25
/-- min and max of the two names -/
def mm (xs : List Int) (p : Nat × Nat) : Pr := (if xs.getD p.2 0 < xs.getD p.1 0 then xs.getD p.2 0 else xs.getD p.1 0, if xs.getD p.2 0 > xs.getD p.1 0 then xs.getD p.2 0 else xs.getD p.1 0)
/-- pairs that have been met when the outer loop stands at b, the inner at a -/
structure Vis (r b a : Nat) (L : List (Nat × Nat)) : Prop where
  ok : ∀ p ∈ L, p.1 < p.2 ∧ p.2 < r ∧ (p.2 < b ∨ (p.2 = b ∧ p.1 < a))
  nd : L.Nodup
theorem Vis.zero (r : Nat) : Vis r 1 0 [] := ⟨fun p h => (by cases h), List.nodup_nil⟩
theorem Vis.skip {r b a : Nat} {L : List (Nat × Nat)} (h : Vis r b a L) : Vis r b (a + 1) L := by
  refine ⟨fun p hp => ?_, h.nd⟩
  have := h.ok p hp
  omega
theorem Vis.row {r b : Nat} {L : List (Nat × Nat)} (h : Vis r b b L) : Vis r (b + 1) 0 L := by
  refine ⟨fun p hp => ?_, h.nd⟩
  have := h.ok p hp
  omega
theorem Vis.more {r b a : Nat} {L : List (Nat × Nat)} (h : Vis r b a L) (hb : b < r) (ha : a < b) : Vis r b (a + 1) (L ++ [(a, b)]) := by
  refine ⟨fun p hp => ?_, ?_⟩
  · rcases List.mem_append.mp hp with hp | hp
    · have := h.ok p hp
      omega
    · rw [List.mem_singleton.mp hp]
      exact ⟨ha, hb, .inr ⟨rfl, Nat.lt_succ_self a⟩⟩
  · refine List.nodup_append.mpr ⟨h.nd, by simp, fun p hp q hq => ?_⟩
    rw [List.mem_singleton.mp hq]
    rintro rfl
    have := h.ok _ hp
    simp only at this
    omega
theorem rg_nodup (n : Nat) : (rg n).Nodup := by
  unfold rg
  exact List.pairwise_map.mpr (List.Pairwise.imp (fun {x y} h e => h (Int.ofNat.inj e)) List.nodup_range)
theorem rg_mem {n : Nat} {x : Int} (h : x ∈ rg n) : 0 ≤ x ∧ x < n := by
  obtain ⟨i, hi, rfl⟩ := List.mem_map.mp h
  have := List.mem_range.mp hi
  show 0 ≤ (i : Int) ∧ (i : Int) < n
  omega
/-- names: each room once -/
structure Nms (r : Nat) (xs : List Int) : Prop where
  pm : xs.Perm (rg r)
theorem Nms.len {r : Nat} {xs : List Int} (h : Nms r xs) : xs.length = r := by rw [h.pm.length_eq, rg_len]
theorem Nms.nd {r : Nat} {xs : List Int} (h : Nms r xs) : xs.Nodup := h.pm.nodup_iff.mpr (rg_nodup r)
theorem Nms.bd {r : Nat} {xs : List Int} (h : Nms r xs) {i : Nat} (hi : i < r) : 0 ≤ xs.getD i 0 ∧ xs.getD i 0 < r := by
  have hl := h.len
  have e : xs.getD i 0 = xs[i] := by rw [List.getD_eq_getElem?_getD, List.getElem?_eq_getElem (by omega)]; rfl
  rw [e]
  exact rg_mem (h.pm.mem_iff.mp (List.getElem_mem _))
theorem Nms.inj {r : Nat} {xs : List Int} (h : Nms r xs) {i j : Nat} (hi : i < r) (hj : j < r) (e : xs.getD i 0 = xs.getD j 0) : i = j := by
  have hl := h.len
  have e1 : xs.getD i 0 = xs[i] := by rw [List.getD_eq_getElem?_getD, List.getElem?_eq_getElem (by omega)]; rfl
  have e2 : xs.getD j 0 = xs[j] := by rw [List.getD_eq_getElem?_getD, List.getElem?_eq_getElem (by omega)]; rfl
  rw [e1, e2] at e
  refine nd_ix h.nd (List.getElem?_eq_getElem (by omega)) ?_
  rw [e]
  exact List.getElem?_eq_getElem (by omega)
theorem mm_ok {r : Nat} {xs : List Int} (h : Nms r xs) {p : Nat × Nat} (h1 : p.1 < p.2) (h2 : p.2 < r) : 0 ≤ (mm xs p).1 ∧ (mm xs p).1 < (mm xs p).2 ∧ (mm xs p).2 < r := by
  have a := h.bd (i := p.1) (by omega)
  have b := h.bd (i := p.2) h2
  have ne : xs.getD p.1 0 ≠ xs.getD p.2 0 := fun e => by
    have := h.inj (i := p.1) (j := p.2) (by omega) h2 e
    omega
  unfold mm
  simp only
  split <;> split <;> omega
theorem mm_inj {r : Nat} {xs : List Int} (h : Nms r xs) {p q : Nat × Nat} (p1 : p.1 < p.2) (p2 : p.2 < r) (q1 : q.1 < q.2) (q2 : q.2 < r) (e : mm xs p = mm xs q) : p = q := by
  have e1 := congrArg Prod.fst e
  have e2 := congrArg Prod.snd e
  unfold mm at e1 e2
  simp only at e1 e2
  have k : (xs.getD p.1 0 = xs.getD q.1 0 ∧ xs.getD p.2 0 = xs.getD q.2 0) ∨ (xs.getD p.1 0 = xs.getD q.2 0 ∧ xs.getD p.2 0 = xs.getD q.1 0) := by
    split at e1 <;> split at e1 <;> split at e2 <;> split at e2 <;> omega
  rcases k with ⟨k1, k2⟩ | ⟨k1, k2⟩
  · have a := h.inj (by omega) (by omega) k1
    have b := h.inj (by omega) (by omega) k2
    exact Prod.ext a b
  · have a := h.inj (by omega) (by omega) k1
    have b := h.inj (by omega) (by omega) k2
    omega
theorem vis_nd {r b a : Nat} {xs : List Int} {L : List (Nat × Nat)} (h : Nms r xs) (v : Vis r b a L) : (L.map (mm xs)).Nodup := by
  refine List.pairwise_map.mpr (List.Pairwise.imp_of_mem (fun {p q} hp hq hne e => ?_) v.nd)
  have a := v.ok p hp
  have b := v.ok q hq
  exact hne (mm_inj h a.1 a.2.1 b.1 b.2.1 e)
theorem vis_ok {r b a : Nat} {xs : List Int} {L : List (Nat × Nat)} (h : Nms r xs) (v : Vis r b a L) : ∀ d ∈ L.map (mm xs), 0 ≤ d.1 ∧ d.1 < d.2 ∧ d.2 < r := fun d hd => by
  obtain ⟨p, hp, rfl⟩ := List.mem_map.mp hd
  have a := v.ok p hp
  exact mm_ok h a.1 a.2.1
theorem tri {b : Nat} (h : b ≤ 11) : (b : Int) * ((b : Int) - 1) / 2 ≤ 55 ∧ 0 ≤ (b : Int) * ((b : Int) - 1) / 2 := by
  have : b = 0 ∨ b = 1 ∨ b = 2 ∨ b = 3 ∨ b = 4 ∨ b = 5 ∨ b = 6 ∨ b = 7 ∨ b = 8 ∨ b = 9 ∨ b = 10 ∨ b = 11 := by omega
  rcases this with rfl | rfl | rfl | rfl | rfl | rfl | rfl | rfl | rfl | rfl | rfl | rfl <;> decide
section
variable {P : Program} {w : World} {K : PySem.W.Frag} {mg : Str → Option Value} {base : Heap}
theorem scDrs : FnScope ["numbers", "rooms", "kind", "names", "doors", "b", "first", "a"] ["numbers", "rooms"] (defScope sDrs) := ⟨rfl, rfl, rfl, by decide +kernel, rfl, by decide +kernel, by decide +kernel⟩
def spDrs (K : PySem.W.Frag) : Sp := fun vs H Q _ => ∃ (a : Addr) (ns : List Int) (r : Nat), vs = [.ref a, .int r] ∧ SqL K H a (ns.map V.int) ∧ 79 ≤ ns.length ∧ 1 ≤ r ∧ r ≤ 12 ∧
  ∀ D vs p H', Drs r D → Same H H' → H p = none → H' p = some (.lst vs) → PL H' vs D → Q (.ref p) H'
theorem ok_drs {f fN fJ : Addr} {fd fdN fdJ : FuncData} (F : Fun K "_law_doors" "_law_doors" sDrs f fd) (T : Bi mg) (d__law_names : Df P w K mg base "_law_names" ["numbers", "at", "rooms"] 1 (spNam K) fN fdN)
    (d__law_joined : Df P w K mg base "_law_joined" ["kind", "a", "b", "rooms", "number", "parent"] 1 spJnd fJ fdJ) : FnOk P w K mg base CX0 2 f fd ["numbers", "rooms"] (spDrs K) := by
  refine F.ok scDrs (fun vs H Q E h => ?_) (fun cdv A outer s H vs Q E hr h => ?_)
  · obtain ⟨a, ns, r, rfl, _⟩ := h
    rfl
  · obtain ⟨a, ns, r, rfl, hS, hn, hr1, hr12, q⟩ := h
    refine ⟨_, (pss_cons (ps_set (i := 2) scDrs.nd rfl (Or.inl rfl) (pe_op op_mod (pe_callTy cr_intI (by rfl) T.int (by decide +kernel) (pa_cons (pe_ix ix_list (pv 0) pe_int (fun _ _ => rfl)) pa_nil)) pe_int))
      (pss_cons (ps_set (i := 3) scDrs.nd rfl (Or.inl rfl) (pe_call d__law_names.ok (hr.mono (by decide)) (by rfl) d__law_names.at_ d__law_names.kp d__law_names.b .nil pass0 (pa_cons (pv 0) (pa_cons pe_int (pa_cons (pv 1) pa_nil)))))
      (pss_cons (ps_set (i := 4) scDrs.nd rfl (Or.inl rfl) (pe_lst pa_nil))
      (pss_cons (ps_for PassesOwn.never rfl (pi_range2 (by rfl) T.range (pa_cons pe_int (pa_cons (pv 1) pa_nil))) (pg_name (i := 5) scDrs.nd rfl (Or.inl rfl))
      (pss_cons (ps_set (i := 6) scDrs.nd rfl (Or.inl rfl) (pe_op op_add (pe_op op_add pe_int (pv 1)) (pe_op op_fdiv (pe_op op_mul (pv 5) (pe_op op_sub (pv 5) pe_int)) pe_int)))
        (pss_one (ps_for PassesOwn.never rfl (pi_range1 (by rfl) T.range (pa_cons (pv 5) pa_nil)) (pg_name (i := 7) scDrs.nd rfl (Or.inl rfl))
        (pss_one (ps_if (pt_val (pe_call d__law_joined.ok (hr.mono (by decide)) (by rfl) d__law_joined.at_ d__law_joined.kp d__law_joined.b .nil pass0 (pa_cons (pv 2) (pa_cons (pv 7) (pa_cons (pv 5) (pa_cons (pv 1) (pa_cons (pe_ix ix_list (pv 0) (pe_op op_add (pv 6) (pv 7)) (fun _ _ => rfl)) (pa_cons (pe_ix ix_list (pv 0) (pv 6) (fun _ _ => rfl)) pa_nil))))))))
          (pss_one (ps_expr (pe_bm PySem.F.plainAttrs_list PySem.F.slot_list_append PySem.F.type_list_append mt_append (pv 4) (pa_cons (pe_tup (pa_cons (pe_callB (call_min2 rfl) (by rfl) T.min (by decide +kernel) (pa_cons (pe_ix ix_list (pv 3) (pv 7) (fun _ _ => rfl)) (pa_cons (pe_ix ix_list (pv 3) (pv 5) (fun _ _ => rfl)) pa_nil))) (pa_cons (pe_callB (call_max2 rfl) (by rfl) T.max (by decide +kernel) (pa_cons (pe_ix ix_list (pv 3) (pv 7) (fun _ _ => rfl)) (pa_cons (pe_ix ix_list (pv 3) (pv 5) (fun _ _ => rfl)) pa_nil))) pa_nil))) pa_nil))))
          pss_nil))))))
      (pss_one (ps_ret (pe_callB cr_sortedPO (by rfl) T.sorted (by decide +kernel) (pa_cons (pv 4) pa_nil)))))))), ?_⟩
    have at_n : ∀ (k : Nat) (hk : k < ns.length), (ns.map V.int)[k]? = some (.int ns[k]) := fun k hk => by
      rw [List.getElem?_map, List.getElem?_eq_getElem hk]
      rfl
    walk_at "rd"
    refine ⟨_, hS, .int ns[0], at_of (j := 0) rfl (at_n 0 (by omega)), _, rfl, by decide, a, ns, 1, r, rfl, hS, by omega, by omega, fun xs pn H1 pm s1 nn hN => ?_⟩
    have N : Nms r xs := ⟨pm⟩
    have hl := N.len
    walk_at "rd"
    refine ⟨Nat.zero_le _, fun p np => ?_⟩
    obtain ⟨Pv, hPv⟩ : ∃ Pv : Nat → L2.St → Hp → Prop, Pv = (fun i σ H' => ∃ (L : List (Nat × Nat)) (vs : List V) (v5 v6 v7 : Option V), σ = [some (.ref a), some (.int r), some (.int (ns[0] % 8)), some (.ref pn), some (.ref p), v5, v6, v7] ∧ Vis r (i + 1) 0 L ∧ Same H1 H' ∧ H' p = some (.lst vs) ∧ PL H' vs (L.map (mm xs))) := ⟨_, rfl⟩
    refine ⟨_, rfl, 1, (r : Int), rfl, ⟨by omega, by omega, by omega, by omega⟩, for_range (lo := 1) (n := ((r : Int) - 1).toNat) Pv (by rw [hPv]; exact ⟨[], [], none, none, none, rfl, Vis.zero r, same_upd np, upd_same, PL.nil0 _⟩) ?_ ?_⟩
    · rintro i σ H' hi pv
      have nxt : ∀ L vs v5 v6 v7 H', Vis r (i + 1 + 1) 0 L → Same H1 H' → H' p = some (.lst vs) → PL H' vs (L.map (mm xs)) → Pv (i + 1) [some (.ref a), some (.int r), some (.int (ns[0] % 8)), some (.ref pn), some (.ref p), v5, v6, v7] H' := fun L vs v5 v6 v7 H' h1 h2 h3 h4 => by
        rw [hPv]
        exact ⟨L, vs, v5, v6, v7, rfl, h1, h2, h3, h4⟩
      rw [hPv] at pv
      obtain ⟨L, vs, v5, v6, v7, rfl, vis, s2, hp, pl⟩ := pv
      have hb : i + 1 ≤ 11 := by omega
      have tr := tri hb
      have eb : (1 : Int) + (i : Int) = ((i + 1 : Nat) : Int) := by omega
      obtain ⟨fi, hfi⟩ : ∃ fi : Nat, (1 : Int) + (r : Int) + (1 + (i : Int)) * (1 + (i : Int) - 1) / 2 = fi ∧ fi ≤ 68 := by
        rw [eb]
        exact ⟨(1 + (r : Int) + ((i + 1 : Nat) : Int) * (((i + 1 : Nat) : Int) - 1) / 2).toNat, by omega, by omega⟩
      walk_at "rd"
      refine ⟨.inl (by omega), ⟨by decide, by decide⟩, ?_⟩
      rw [hfi.1]
      obtain ⟨Pw, hPw⟩ : ∃ Pw : Nat → L2.St → Hp → Prop, Pw = (fun j σ H' => ∃ (L : List (Nat × Nat)) (vs : List V) (v7 : Option V), σ = [some (.ref a), some (.int r), some (.int (ns[0] % 8)), some (.ref pn), some (.ref p), some (.int (1 + (i : Int))), some (.int fi), v7] ∧ Vis r (i + 1) j L ∧ Same H1 H' ∧ H' p = some (.lst vs) ∧ PL H' vs (L.map (mm xs))) := ⟨_, rfl⟩
      refine ⟨_, rfl, 1 + (i : Int), rfl, by omega, by omega, for_range (lo := 0) (n := (1 + (i : Int)).toNat) Pw (by rw [hPw]; exact ⟨L, vs, v7, rfl, vis, s2, hp, pl⟩) ?_ ?_⟩
      · clear hp pl s2 vis vs L v7
        rintro j σ H' hj pv
        have nxw : ∀ L vs v7 H', Vis r (i + 1) (j + 1) L → Same H1 H' → H' p = some (.lst vs) → PL H' vs (L.map (mm xs)) → Pw (j + 1) [some (.ref a), some (.int r), some (.int (ns[0] % 8)), some (.ref pn), some (.ref p), some (.int (1 + (i : Int))), some (.int fi), v7] H' := fun L vs v7 H' h1 h2 h3 h4 => by
          rw [hPw]
          exact ⟨L, vs, v7, rfl, h1, h2, h3, h4⟩
        rw [hPw] at pv
        obtain ⟨L, vs, v7, rfl, vis, s2, hp, pl⟩ := pv
        have hjb : j < i + 1 := by omega
        have hS' : SqL K H' a (ns.map V.int) := s2.seq (s1.seq hS)
        have hN' : SqL K H' pn (xs.map V.int) := s2.seq (SqL.of hN)
        have gj : (xs.map V.int)[j]? = some (.int (xs.getD j 0)) := by rw [List.getElem?_map, List.getElem?_eq_getElem (by omega), List.getD_eq_getElem?_getD, List.getElem?_eq_getElem (by omega)]; rfl
        have gi : (xs.map V.int)[i + 1]? = some (.int (xs.getD (i + 1) 0)) := by rw [List.getElem?_map, List.getElem?_eq_getElem (by omega), List.getD_eq_getElem?_getD, List.getElem?_eq_getElem (by omega)]; rfl
        have small : vs.length ≤ 66 := by
          rw [pl.len]
          exact drs_len' hr12 (vis_nd N vis) (vis_ok N vis)
        walk_at "rd"
        refine ⟨_, hS', .int ns[fi + j], at_of (j := fi + j) (by omega) (at_n _ (by omega)), _, hS', .int ns[fi], at_of (j := fi) rfl (at_n _ (by omega)), ?_⟩
        refine ⟨_, _, _, _, _, _, rfl, by omega, ⟨Int.emod_nonneg _ (by decide), Int.emod_lt_of_pos _ (by decide)⟩, fun c H' s3 => ?_⟩
        have hS' := s3.seq hS'
        have hN' := s3.seq hN'
        have hp := s3 _ _ hp
        have pl := pl.kt (KT.same s3)
        have s2 := s2.trans s3
        refine ⟨_, rfl, ite2 (fun _ => ?_) (fun _ => nxw L vs _ _ vis.skip s2 hp pl)⟩
        refine ⟨.inl ⟨rfl, _, SqL.of hp⟩, _, hN', .int (xs.getD j 0), at_of (j := j) (by omega) gj, _, hN', .int (xs.getD (i + 1) 0), at_of (j := i + 1) (by omega) gi, ?_⟩
        refine ⟨_, rfl, _, rfl, _, hN', .int (xs.getD j 0), at_of (j := j) (by omega) gj, _, hN', .int (xs.getD (i + 1) 0), at_of (j := i + 1) (by omega) gi, _, rfl, _, rfl, ?_⟩
        refine ⟨by decide, fun t nt => ⟨vs, ?_, len_big (by omega), ?_⟩⟩
        · rw [upd_ne (ne_of_none hp nt)]
          exact hp
        · have np' : p ≠ t := ne_of_none hp nt
          refine nxw (L ++ [(j, i + 1)]) (vs ++ [.ref t]) _ _ (vis.more (by omega) hjb) (same_ch (s2.trans (same_upd nt)) np) upd_same ?_
          rw [List.map_append]
          refine PL.snoc ((pl.kt (KT.new nt)).kt (KT.lst (by rw [upd_ne np']; exact hp))) ⟨t, rfl, ?_⟩
          rw [upd_ne np'.symm, upd_same]
          rfl
      · clear hp pl s2 vis vs L v7
        rintro σ H' pv
        rw [hPw] at pv
        obtain ⟨L, vs, v7, rfl, vis, s2, hp, pl⟩ := pv
        have e : (1 + (i : Int)).toNat = i + 1 := by omega
        rw [e] at vis
        exact nxt L vs _ _ _ _ vis.row s2 hp pl
    · rintro σ H' pv
      rw [hPv] at pv
      obtain ⟨L, vs, v5, v6, v7, rfl, vis, s2, hp, pl⟩ := pv
      walk_at "rd"
      obtain ⟨k1, k2⟩ := pl.toK
      refine ⟨p, vs, kH H', rfl, SqL.of hp, k2, fun ys t so st nt => ?_⟩
      have pmy := st.perm
      have hy : ∀ v ∈ ys, IsP H' v (kH H' v) := fun v hv => k2 v (pmy.mem_iff.mp hv)
      have nd : (ys.map (kH H')).Nodup := by
        refine (pmy.map _).nodup_iff.mpr ?_
        rw [← k1]
        exact vis_nd N vis
      refine q (ys.map (kH H')) ys t _ ⟨srtd_asc nd so, fun d hd => ?_⟩ ?_ ?_ upd_same ((PL.ofK hy).kt (KT.new nt))
      · refine vis_ok N vis d ?_
        rw [k1]
        exact (pmy.map _).mem_iff.mp hd
      · exact ((s1.trans s2).trans (same_upd nt))
      · exact (s1.trans s2).free nt
end

abbrev sSame : Stmt := topS 41
/-- isinstance of built-in kinds -/
def isTy (m n : String) : Bool := m == n || (m == "bool" && n == "int")
theorem kit5 {K : PySem.W.Frag} {m n : String} (hm : m = "bool" ∨ m = "int" ∨ m = "str" ∨ m = "list" ∨ m = "tuple") (hn : n = "bool" ∨ n = "int" ∨ n = "str" ∨ n = "list" ∨ n = "tuple") : PySem.W.kitOne K (.type m) (.type n) = some (isTy m n) := by
  rcases hm with rfl | rfl | rfl | rfl | rfl <;> rcases hn with rfl | rfl | rfl | rfl | rfl <;> exact kit_ty (by decide +kernel)
def rIs5 (K : PySem.W.Frag) : List V → Hp → VK → Prop := fun xs H Q => ∃ (x : V) (n m : String), xs = [x, .ty n] ∧ TyX K H x (.type m) ∧ (m = "bool" ∨ m = "int" ∨ m = "str" ∨ m = "list" ∨ m = "tuple") ∧ (n = "bool" ∨ n = "int" ∨ n = "str" ∨ n = "list" ∨ n = "tuple") ∧ Q (.bl (isTy m n)) H
theorem cr_is5 {X : Cx} : CallR X (.builtin "isinstance") (rIs5 X.K) := fun pins s σ H xs us Q I r h => by
  obtain ⟨x, n, m, rfl, ty, hm, hn, q⟩ := h
  exact call_isi pins s σ H _ us Q I r ⟨x, .ty n, _, _, _, rfl, .ty n, ty, kit5 hm hn, q⟩
theorem is5_of {K : PySem.W.Frag} {H : Hp} {x : V} {n m : String} {Q : VK} (ty : TyX K H x (.type m)) (hm : m = "bool" ∨ m = "int" ∨ m = "str" ∨ m = "list" ∨ m = "tuple") (hn : n = "bool" ∨ n = "int" ∨ n = "str" ∨ n = "list" ∨ n = "tuple") (q : Q (.bl (isTy m n)) H) : rIs5 K [x, .ty n] H Q :=
  ⟨x, n, m, rfl, ty, hm, hn, q⟩
theorem eqS_of {H : Hp} {x : V} {Q : VK} (h : scal x x = true) (q : Q (.bl true) H) : rEq x x H Q := ⟨h, by rw [decide_eq_true rfl]; exact q⟩
local macro_rules | `(tactic| walk_at "i5") => `(tactic| ((first | refine is5_of (.base (.int _)) (by decide) (by decide) ?_ | refine is5_of (.base (.str _)) (by decide) (by decide) ?_ | refine is5_of (.base (.bl _)) (by decide) (by decide) ?_ | refine is5_of (.base (.lst (by assumption))) (by decide) (by decide) ?_ | refine is5_of (.base (.tup (by assumption))) (by decide) (by decide) ?_)))
local macro_rules | `(tactic| walk_at "i6") => `(tactic| (simp only [rIsT, isTy, String.reduceBEq, Bool.or_false, Bool.or_true, Bool.and_false, Bool.and_true, Bool.true_or, Bool.false_or, Bool.true_and, Bool.false_and, reduceCtorEq, decide_false, decide_true, V.bl.injEq, exists_eq_left', if_true, if_false, Bool.false_eq_true, ↓reduceIte, Bool.not_true, Bool.not_false, ite_self]))
def flat4 : V → Bool
  | .non => true
  | .bl _ => true
  | .int _ => true
  | .str _ => true
  | _ => false
/-- the same data, of at most this depth, the lists and tuples tracked -/
def Sm (H : Hp) : Nat → V → V → Prop
  | 0, x, y => x = y ∧ flat4 x = true
  | n + 1, x, y => (x = y ∧ flat4 x = true) ∨ ∃ a b xs ys, x = .ref a ∧ y = .ref b ∧ ((H a = some (.lst xs) ∧ H b = some (.lst ys)) ∨ (H a = some (.tup xs) ∧ H b = some (.tup ys))) ∧ Paired (Sm H n) xs ys ∧ xs.length ≤ 100000
theorem Sm.flat {H : Hp} {n : Nat} {x : V} (h : flat4 x = true) : Sm H n x x := by
  cases n with
  | zero => exact ⟨rfl, h⟩
  | succ n => exact .inl ⟨rfl, h⟩
theorem paired_get {α β : Type} {F : α → β → Prop} : ∀ {xs : List α} {ys : List β} {i : Nat}, Paired F xs ys → i < xs.length → ∃ x y, xs[i]? = some x ∧ ys[i]? = some y ∧ F x y
  | _, _, _, .nil, h => by cases h
  | _, _, 0, .cons r _, _ => ⟨_, _, rfl, rfl, r⟩
  | _, _, i + 1, .cons _ t, h => paired_get (i := i) t (Nat.lt_of_succ_lt_succ h)
section
variable {P : Program} {w : World} {K : PySem.W.Frag} {mg : Str → Option Value} {base : Heap}
theorem scSame : FnScope ["got", "due", "k"] ["got", "due"] (defScope sSame) := ⟨rfl, rfl, rfl, by decide +kernel, rfl, by decide +kernel, by decide +kernel⟩
def spSame (n : Nat) : Sp := fun vs H Q _ => ∃ x y, vs = [x, y] ∧ Sm H n x y ∧ Q (.bl true) H
theorem ok_same {f : Addr} {fd : FuncData} (F : Fun K "_law_same" "_law_same" sSame f fd) (T : Bi mg) (bd : Binds K fd ["got", "due"] []) (hmg : mg "_law_same" = some (.ref f)) : ∀ n, FnOk P w K mg base CX0 (n + 1) f fd ["got", "due"] (spSame n) := by
  intro n
  induction n with
  | zero =>
    refine F.ok scSame (fun vs H Q E h => ?_) (fun cdv A outer s H vs Q E hr h => ?_)
    · obtain ⟨x, y, rfl, _⟩ := h
      rfl
    · obtain ⟨x, y, rfl, ⟨rfl, hf⟩, q⟩ := h
      refine ⟨_, (pss_cons (ps_if (pt_cmpR op_isN (pv 1) pe_non (nomark _))
      (pss_one (ps_ret (pe_cmpR op_isN (pv 0) pe_non (nomark _))))
      pss_nil)
      (pss_cons (ps_if (pt_cmpR op_isT (pv 1) pe_bl (nomark _))
      (pss_one (ps_ret (pe_cmpR op_isT (pv 0) pe_bl (nomark _))))
      pss_nil)
      (pss_cons (ps_if (pt_cmpR op_isT (pv 1) pe_bl (nomark _))
      (pss_one (ps_ret (pe_cmpR op_isT (pv 0) pe_bl (nomark _))))
      pss_nil)
      (pss_cons (ps_if (pt_val (pe_callB cr_is5 (by rfl) T.isinstance (by decide +kernel) (pa_cons (pv 1) (pa_cons (pe_bltn (v := .ty "int") (by rfl) T.int (by decide +kernel) rfl) pa_nil))))
      (pss_one (ps_ret (pe_and (pe_callB cr_is5 (by rfl) T.isinstance (by decide +kernel) (pa_cons (pv 0) (pa_cons (pe_bltn (v := .ty "int") (by rfl) T.int (by decide +kernel) rfl) pa_nil))) (pe_and (pe_not (pe_callB cr_is5 (by rfl) T.isinstance (by decide +kernel) (pa_cons (pv 0) (pa_cons (pe_bltn (v := .ty "bool") (by rfl) T.bool (by decide +kernel) rfl) pa_nil)))) (pe_one (pe_cmpR op_eq (pv 0) (pv 1) (nomark _)))))))
      pss_nil)
      (pss_cons (ps_if (pt_val (pe_callB cr_is5 (by rfl) T.isinstance (by decide +kernel) (pa_cons (pv 1) (pa_cons (pe_bltn (v := .ty "str") (by rfl) T.str (by decide +kernel) rfl) pa_nil))))
      (pss_one (ps_ret (pe_and (pe_callB cr_is5 (by rfl) T.isinstance (by decide +kernel) (pa_cons (pv 0) (pa_cons (pe_bltn (v := .ty "str") (by rfl) T.str (by decide +kernel) rfl) pa_nil))) (pe_one (pe_cmpR op_eq (pv 0) (pv 1) (nomark _))))))
      pss_nil)
      (pss_cons (ps_if (PW.pt (pw_and (pt_val (pe_callB cr_is5 (by rfl) T.isinstance (by decide +kernel) (pa_cons (pv 1) (pa_cons (pe_bltn (v := .ty "list") (by rfl) T.list (by decide +kernel) rfl) pa_nil)))) (pw_and1 (pt_not (pt_val (pe_callB cr_is5 (by rfl) T.isinstance (by decide +kernel) (pa_cons (pv 0) (pa_cons (pe_bltn (v := .ty "list") (by rfl) T.list (by decide +kernel) rfl) pa_nil))))))))
      (pss_one (ps_ret pe_bl))
      pss_nil)
      (pss_cons (ps_if (PW.pt (pw_and (pt_val (pe_callB cr_is5 (by rfl) T.isinstance (by decide +kernel) (pa_cons (pv 1) (pa_cons (pe_bltn (v := .ty "tuple") (by rfl) T.tuple (by decide +kernel) rfl) pa_nil)))) (pw_and1 (pt_not (pt_val (pe_callB cr_is5 (by rfl) T.isinstance (by decide +kernel) (pa_cons (pv 0) (pa_cons (pe_bltn (v := .ty "tuple") (by rfl) T.tuple (by decide +kernel) rfl) pa_nil))))))))
      (pss_one (ps_ret pe_bl))
      pss_nil)
      (pss_cons (ps_if (pt_cmpR op_neI (pe_callB call_len_seq (by rfl) T.len (by decide +kernel) (pa_cons (pv 0) pa_nil)) (pe_callB call_len_seq (by rfl) T.len (by decide +kernel) (pa_cons (pv 1) pa_nil)) (nomark _))
      (pss_one (ps_ret pe_bl))
      pss_nil)
      (pss_cons (ps_never)
      (pss_one (ps_ret pe_bl))))))))))), ?_⟩
      walk_at "rd"
      cases x with
      | non => walk_at "i6"; exact q
      | bl b =>
        cases b with
        | true => walk_at "i6"; exact q
        | false => walk_at "i6"; exact q
      | int i =>
        walk_at "i6"
        repeat (walk_at "i5"; walk_at "i6")
        exact eqS_of rfl q
      | str z =>
        walk_at "i6"
        repeat (walk_at "i5"; walk_at "i6")
        exact eqS_of rfl q
      | _ => cases hf
  | succ n ih =>
    refine F.ok scSame (fun vs H Q E h => ?_) (fun cdv A outer s H vs Q E hr h => ?_)
    · obtain ⟨x, y, rfl, _⟩ := h
      rfl
    · obtain ⟨x, y, rfl, hs, q⟩ := h
      refine ⟨_, (pss_cons (ps_if (pt_cmpR op_isN (pv 1) pe_non (nomark _))
      (pss_one (ps_ret (pe_cmpR op_isN (pv 0) pe_non (nomark _))))
      pss_nil)
      (pss_cons (ps_if (pt_cmpR op_isT (pv 1) pe_bl (nomark _))
      (pss_one (ps_ret (pe_cmpR op_isT (pv 0) pe_bl (nomark _))))
      pss_nil)
      (pss_cons (ps_if (pt_cmpR op_isT (pv 1) pe_bl (nomark _))
      (pss_one (ps_ret (pe_cmpR op_isT (pv 0) pe_bl (nomark _))))
      pss_nil)
      (pss_cons (ps_if (pt_val (pe_callB cr_is5 (by rfl) T.isinstance (by decide +kernel) (pa_cons (pv 1) (pa_cons (pe_bltn (v := .ty "int") (by rfl) T.int (by decide +kernel) rfl) pa_nil))))
      (pss_one (ps_ret (pe_and (pe_callB cr_is5 (by rfl) T.isinstance (by decide +kernel) (pa_cons (pv 0) (pa_cons (pe_bltn (v := .ty "int") (by rfl) T.int (by decide +kernel) rfl) pa_nil))) (pe_and (pe_not (pe_callB cr_is5 (by rfl) T.isinstance (by decide +kernel) (pa_cons (pv 0) (pa_cons (pe_bltn (v := .ty "bool") (by rfl) T.bool (by decide +kernel) rfl) pa_nil)))) (pe_one (pe_cmpR op_eq (pv 0) (pv 1) (nomark _)))))))
      pss_nil)
      (pss_cons (ps_if (pt_val (pe_callB cr_is5 (by rfl) T.isinstance (by decide +kernel) (pa_cons (pv 1) (pa_cons (pe_bltn (v := .ty "str") (by rfl) T.str (by decide +kernel) rfl) pa_nil))))
      (pss_one (ps_ret (pe_and (pe_callB cr_is5 (by rfl) T.isinstance (by decide +kernel) (pa_cons (pv 0) (pa_cons (pe_bltn (v := .ty "str") (by rfl) T.str (by decide +kernel) rfl) pa_nil))) (pe_one (pe_cmpR op_eq (pv 0) (pv 1) (nomark _))))))
      pss_nil)
      (pss_cons (ps_if (PW.pt (pw_and (pt_val (pe_callB cr_is5 (by rfl) T.isinstance (by decide +kernel) (pa_cons (pv 1) (pa_cons (pe_bltn (v := .ty "list") (by rfl) T.list (by decide +kernel) rfl) pa_nil)))) (pw_and1 (pt_not (pt_val (pe_callB cr_is5 (by rfl) T.isinstance (by decide +kernel) (pa_cons (pv 0) (pa_cons (pe_bltn (v := .ty "list") (by rfl) T.list (by decide +kernel) rfl) pa_nil))))))))
      (pss_one (ps_ret pe_bl))
      pss_nil)
      (pss_cons (ps_if (PW.pt (pw_and (pt_val (pe_callB cr_is5 (by rfl) T.isinstance (by decide +kernel) (pa_cons (pv 1) (pa_cons (pe_bltn (v := .ty "tuple") (by rfl) T.tuple (by decide +kernel) rfl) pa_nil)))) (pw_and1 (pt_not (pt_val (pe_callB cr_is5 (by rfl) T.isinstance (by decide +kernel) (pa_cons (pv 0) (pa_cons (pe_bltn (v := .ty "tuple") (by rfl) T.tuple (by decide +kernel) rfl) pa_nil))))))))
      (pss_one (ps_ret pe_bl))
      pss_nil)
      (pss_cons (ps_if (pt_cmpR op_neI (pe_callB call_len_seq (by rfl) T.len (by decide +kernel) (pa_cons (pv 0) pa_nil)) (pe_callB call_len_seq (by rfl) T.len (by decide +kernel) (pa_cons (pv 1) pa_nil)) (nomark _))
      (pss_one (ps_ret pe_bl))
      pss_nil)
      (pss_cons (ps_for PassesOwn.never rfl (pi_range1 (by rfl) T.range (pa_cons (pe_callB call_len_seq (by rfl) T.len (by decide +kernel) (pa_cons (pv 1) pa_nil)) pa_nil)) (pg_name (i := 2) scSame.nd rfl (Or.inl rfl))
      (pss_one (ps_if (pt_not (pt_val (pe_call ih hr (by rfl) hmg F.kp bd .nil pass0 (pa_cons (pe_ix ix_seq (pv 0) (pv 2) (fun _ _ => rfl)) (pa_cons (pe_ix ix_seq (pv 1) (pv 2) (fun _ _ => rfl)) pa_nil)))))
        (pss_one (ps_ret pe_bl))
        pss_nil)))
      (pss_one (ps_ret pe_bl))))))))))), ?_⟩
      walk_at "rd"
      rcases hs with ⟨rfl, hf⟩ | ⟨a, b, xs, ys, rfl, rfl, hk, pr, hl⟩
      · skip
        cases x with
        | non => walk_at "i6"; exact q
        | bl b =>
          cases b with
          | true => walk_at "i6"; exact q
          | false => walk_at "i6"; exact q
        | int i =>
          walk_at "i6"
          repeat (walk_at "i5"; walk_at "i6")
          exact eqS_of rfl q
        | str z =>
          walk_at "i6"
          repeat (walk_at "i5"; walk_at "i6")
          exact eqS_of rfl q
        | _ => cases hf
      · have el : xs.length = ys.length := pr.length
        have hx : SqL K H a xs ∨ SqT K H a xs := by
          rcases hk with ⟨ha, _⟩ | ⟨ha, _⟩
          · exact .inl (SqL.of ha)
          · exact .inr (SqT.of ha)
        have hy : SqL K H b ys ∨ SqT K H b ys := by
          rcases hk with ⟨_, ha⟩ | ⟨_, ha⟩
          · exact .inl (SqL.of ha)
          · exact .inr (SqT.of ha)
        have ix : ∀ {zs : List V} {k : Nat} {p : Addr} {v : V} {Q : VK}, (SqL K H p zs ∨ SqT K H p zs) → zs[k]? = some v → Q v H → rIx K (.ref p) (.int k) H Q := fun hz hv hq => by
          rcases hz with hz | hz
          · exact .inl ⟨_, _, _, _, rfl, rfl, hz, atI_nat hv, hq⟩
          · exact .inr (.inl ⟨_, _, _, _, rfl, rfl, hz, atI_nat hv, hq⟩)
        rcases hk with ⟨ha, hb⟩ | ⟨ha, hb⟩
        all_goals
          walk_at "i6"
          repeat (walk_at "i5"; walk_at "i6")
          refine ⟨_, rfl, _, hx, _, rfl, _, hy, ?_⟩
          rw [el, decide_eq_true rfl]
          refine iteF ?_
          obtain ⟨Pv, hPv⟩ : ∃ Pv : Nat → L2.St → Hp → Prop, Pv = (fun i σ H' => ∃ v : Option V, σ = [some (.ref a), some (.ref b), v] ∧ H' = H) := ⟨_, rfl⟩
          refine ⟨_, rfl, b, rfl, ys, hy, ys.length, rfl, by omega, by omega, for_range (lo := 0) (n := ((ys.length : Nat) : Int).toNat) Pv (by rw [hPv]; exact ⟨none, rfl, rfl⟩) ?_ ?_⟩
          · rintro i σ H' hi pv
            have nxt : ∀ v, Pv (i + 1) [some (.ref a), some (.ref b), v] H := fun v => by
              rw [hPv]
              exact ⟨v, rfl, rfl⟩
            rw [hPv] at pv
            obtain ⟨v, rfl, rfl⟩ := pv
            obtain ⟨x1, y1, g1, g2, sm⟩ := paired_get (i := i) pr (by omega)
            walk_at "rd"
            rw [Int.zero_add]
            refine ix hx g1 (ix hy g2 ⟨_, _, rfl, sm, ?_⟩)
            exact ⟨true, rfl, iteF (nxt _)⟩
          · rintro σ H' pv
            rw [hPv] at pv
            obtain ⟨v, rfl, rfl⟩ := pv
            walk_at "rd"
            exact q
end

/-! ### a set of tuples of ints, whatever their number (the table's masks: 7, 31, 127) -/
structure PsR (P : Program) (w : World) (h : Heap) (a : Addr) (L : List (Addr × List Int)) (es : Array (Int × Value)) (ep : Nat) (t : SetTable) : Prop where
  obj : ∃ o, h.get? a = some o ∧ o.ExactSet ∧ o.data = .set es ep t
  rw_ : es.toList = rowsOf P w L
  tb : TabOk t (L.map fun p => thash P w p.2)
  nod : (L.map (·.2)).Nodup
  tps : ∀ p ∈ L, IsT P w h p.2 p.1
  pln : t.plain = true
  ld : w.params.followText "set-order" = true ∨ t.led = true
  rm : L.length * 5 < t.mask * 3
section
variable {P : Program} {w : World} {A : Around} {E : Value → Shared → Prop} {s : Shared}
variable {a : Addr} {L : List (Addr × List Int)} {es : Array (Int × Value)} {ep : Nat} {t : SetTable}
theorem PsR.sz (R : PsR P w s.heap a L es ep t) : es.size = L.length := by
  have e := congrArg List.length R.rw_
  rw [Array.length_toList] at e
  rw [e]
  exact List.length_map _
theorem PsR.psz (R : PsR P w s.heap a L es ep t) : t.place.size = L.length := by
  have e := R.tb.sz
  rw [List.length_map] at e
  exact e
theorem PsR.fts (R : PsR P w s.heap a L es ep t) : t.fits es.size = true := by
  have e1 := R.psz
  have e2 := R.sz
  have e3 := R.rm
  have e4 : t.fill = t.place.size := by
    show t.place.size + t.dummies.size = t.place.size
    rw [R.tb.dm]
    rfl
  show (t.place.size == es.size && decide (t.fill ≤ t.mask)) = true
  rw [e4, e1, e2, beq_self_eq_true, Bool.true_and, decide_eq_true_eq]
  omega
theorem PsR.ent (R : PsR P w s.heap a L es ep t) {i : Nat} {p : Addr × List Int} (g : L[i]? = some p) : es[i]? = some (thash P w p.2, Value.ref p.1) := by
  have e : (rowsOf P w L)[i]? = some (thash P w p.2, Value.ref p.1) := by
    show (L.map _)[i]? = _
    rw [List.getElem?_map, g]
    rfl
  rw [← R.rw_, Array.getElem?_toList] at e
  exact e
theorem PsR.odd (R : PsR P w s.heap a L es ep t) : ¬ t.gaveWay = true := fun z => by
  have m := mask_odd R.tb.mok
  have z2 : (t.mask % 2 == 0) = true := z
  rw [m] at z2
  cases z2
/-- the c-th state of the search for the tuple k -/
abbrev stAt (P : Program) (w : World) (t : SetTable) (k : List Int) (c : Nat) : SetTable.Probe := nth t.mask (t.probeStart (thash P w k)) c
abbrev slAt (P : Program) (w : World) (t : SetTable) (k : List Int) (c : Nat) : Nat := (stAt P w t k c).j
theorem stAt_dm (k : List Int) (c : Nat) : (stAt P w t k c).dummy = none := by
  have all : ∀ (n : Nat) (p : SetTable.Probe), p.dummy = none → (nth t.mask p n).dummy = none := by
    intro n
    induction n with
    | zero => exact fun _ e => e
    | succ n ih =>
      intro p e
      show (nth t.mask (adv t.mask p) n).dummy = none
      exact ih _ (by rw [← adv_eq, advance_dummy]; exact e)
  exact all c _ rfl
theorem stAt_add (k : List Int) (c q : Nat) : nth t.mask (stAt P w t k c) q = stAt P w t k (c + q) := (nth_add t.mask c _ q).symm
theorem psearch (R : PsR P w s.heap a L es ep t) {x : Addr} {k : List Int} (hx : IsT P w s.heap k x) (hu : A.units < cLine) (ad : Bool) {N : Nat} (hN : N < 10 * SetTable.turns t.mask)
    (free : slAt P w t k N ∉ t.place.toList) (full : ∀ c, c < N → slAt P w t k c ∈ t.place.toList) {Q : SetFound → Shared → Prop}
    (yes : ∀ i, k ∈ L.map (·.2) → Q (.there (if ad then none else some i)) s) (no : k ∉ L.map (·.2) → Q (.free (slAt P w t k N) false) s) :
    ∀ (f c : Nat) (st : Option SetTable.Probe), st.getD (t.probeStart (thash P w k)) = stAt P w t k c → c ≤ N → N < f + c →
      (∀ (i : Nat) p, L[i]? = some p → p.2 = k → ∃ c', c ≤ c' ∧ c' < N ∧ t.place.toList[i]? = some (slAt P w t k c')) →
      wpAny (model P w) A (setSearchFrom a (.ref x) (thash P w k) ad f st) Q E s := by
  intro f
  induction f with
  | zero => intro c st _ h1 h2 _; omega
  | succ f ih =>
    intro c st est hc hf ahead
    obtain ⟨o, ho, hex, hd⟩ := R.obj
    rw [setSearchFrom_succ]
    refine wpAny_bind (wpAny_setState_of ho hd R.fts ?_)
    dsimp only
    refine wp_if_neg R.odd ?_
    try refine wpAny_bind (wpAny_pure ?_)
    have hashes : ∀ (i : Nat) p, L[i]? = some p → (es[i]?.map (·.1)).getD 0 = thash P w p.2 := fun i p g => by
      rw [R.ent g]
      rfl
    have spec := go_spec t R.tb.ris R.tb.dm (fun i => (es[i]?.map (·.1)).getD 0) (thash P w k) (10 * SetTable.turns t.mask) (N - c) (stAt P w t k c) (stAt_dm k c) (by omega)
      (fun q hq => by rw [stAt_add]; exact full (c + q) (by omega)) (by rw [stAt_add, Nat.add_sub_cancel' hc]; exact free)
    rw [est]
    simp only [stAt_add] at spec
    rcases spec with ⟨q, i, hq, hi, _, early, pr⟩ | ⟨early, pr⟩
    · -- an entry of this hash stands there
      have pr2 : t.probe (fun i => (es[i]?.map (·.1)).getD 0) (thash P w k) (stAt P w t k c) = _ := pr
      rw [pr2]
      dsimp only
      have il : i < L.length := by
        have e := (List.getElem?_eq_some_iff.mp hi).1
        rw [Array.length_toList, R.psz] at e
        exact e
      obtain ⟨p, gp⟩ : ∃ p, L[i]? = some p := ⟨_, List.getElem?_eq_getElem il⟩
      have mp : p ∈ L := List.mem_of_getElem? gp
      have live : t.slot (slAt P w t k (c + q)) = .live i := slot_live R.tb.ris hi
      have go : wpAny (model P w) A (searchRest a (.ref x) (thash P w k) ad f es t (slAt P w t k (c + q)) i (stAt P w t k (c + (q + 1)))) Q E s := by
        unfold searchRest
        rw [R.ent gp]
        dsimp only
        refine wpAny_bind (wpAny_holding (wpAny_eqBool_tuple hu (R.tps p mp) hx ?_))
        refine wpAny_bind (wpAny_setState_of ho hd R.fts ?_)
        dsimp only
        have later : p.2 ≠ k → wpAny (model P w) A (setSearchFrom a (.ref x) (thash P w k) ad f (some (stAt P w t k (c + (q + 1))))) Q E s := fun ne => by
          refine ih (c + (q + 1)) _ rfl (by omega) (by omega) fun i2 p2 g2 e2 => ?_
          obtain ⟨c2, b1, b2, b3⟩ := ahead i2 p2 g2 e2
          refine ⟨c2, ?_, b2, b3⟩
          refine Classical.byContradiction fun lt => ?_
          by_cases hc2 : c2 < c + q
          · refine early (c2 - c) i2 (by omega) (by rw [Nat.add_sub_cancel' b1]; exact b3) ?_
            rw [hashes i2 p2 g2, e2]
          · have e3 : c2 = c + q := by omega
            rw [e3] at b3
            have l2 := slot_live R.tb.ris b3
            rw [live] at l2
            injection l2 with l2
            rw [← l2, gp] at g2
            rw [Option.some.inj g2] at ne
            exact ne e2
        by_cases hk : p.2 = k
        · have mk : k ∈ L.map (·.2) := List.mem_map.mpr ⟨p, mp, hk⟩
          cases ad with
          | true =>
            refine wp_if_pos (by simp [hk]) ?_
            exact wpAny_pure (yes i mk)
          | false =>
            refine wp_if_neg (by simp) ?_
            try refine wpAny_bind (wpAny_pure ?_)
            rw [sameMem]
            dsimp only
            simp only [if_true, live, R.ent gp]
            refine wpAny_bind (wpAny_isSame_ref_self (wpAny_bind (wpAny_pure ?_)))
            rw [if_pos rfl]
            dsimp only
            rw [if_pos (decide_eq_true hk)]
            exact wpAny_pure (yes i mk)
        · refine wp_if_neg (by simp [hk]) ?_
          try refine wpAny_bind (wpAny_pure ?_)
          rw [sameMem]
          dsimp only
          simp only [if_true, live, R.ent gp]
          refine wpAny_bind (wpAny_isSame_ref_self (wpAny_bind (wpAny_pure ?_)))
          rw [if_pos rfl]
          dsimp only
          rw [if_neg (by rw [decide_eq_true_eq]; exact hk)]
          exact later hk
      by_cases hl : t.led = true
      · refine wp_if_neg (by rw [hl]; decide) ?_
        try refine wpAny_bind (wpAny_pure ?_)
        exact go
      · refine wp_if_pos (by simp [hl]) ?_
        refine wpAny_bind (seen_tup hx (fun y hy => ?_) ?_)
        · obtain ⟨e, he, rfl⟩ := List.mem_map.mp hy
          have he2 : e ∈ es.toList := by
            have := (Array.mem_filter.mp (Array.mem_toList_iff.mp he)).1
            exact Array.mem_toList_iff.mpr this
          rw [R.rw_] at he2
          obtain ⟨p2, m2, rfl⟩ := List.mem_map.mp he2
          exact ⟨p2.2, p2.1, rfl, R.tps p2 m2⟩
        · refine wp_if_neg Bool.false_ne_true ?_
          try refine wpAny_bind (wpAny_pure ?_)
          exact go
    · -- the empty slot
      have pr2 : t.probe (fun i => (es[i]?.map (·.1)).getD 0) (thash P w k) (stAt P w t k c) = _ := pr
      rw [pr2, Nat.add_sub_cancel' hc]
      dsimp only
      refine wpAny_pure (no fun hm => ?_)
      obtain ⟨p, mp, e⟩ := List.mem_map.mp hm
      obtain ⟨i, gp⟩ := List.getElem?_of_mem mp
      obtain ⟨c2, b1, b2, b3⟩ := ahead i p gp e
      refine early (c2 - c) i (by omega) (by rw [Nat.add_sub_cancel' b1]; exact b3) ?_
      rw [hashes i p gp, e]
/-- the search as it is asked for -/
theorem psearch0 (R : PsR P w s.heap a L es ep t) {x : Addr} {k : List Int} (hx : IsT P w s.heap k x) (hu : A.units < cLine) (ad : Bool) {Q : SetFound → Shared → Prop}
    (yes : ∀ i, k ∈ L.map (·.2) → Q (.there (if ad then none else some i)) s)
    (no : ∀ N, k ∉ L.map (·.2) → slAt P w t k N ∉ t.place.toList → (∀ c, c < N → slAt P w t k c ∈ t.place.toList) → Q (.free (slAt P w t k N) false) s) :
    wpAny (model P w) A (setSearch a (.ref x) (thash P w k) ad) Q E s := by
  have few := R.rm
  obtain ⟨N, n1, n2, n3⟩ := R.tb.first (by rw [List.length_map]; omega) (thash P w k)
  have n4 : N < 100000 := by
    have e : 10 * SetTable.turns t.mask ≤ 1420 := by
      unfold SetTable.turns
      rcases R.tb.mok with e | e | e <;> omega
    omega
  unfold setSearch
  refine psearch R hx hu ad n1 n2 n3 yes (fun z => no N z n2 n3) 100000 0 none rfl (Nat.zero_le _) (by omega) fun i p gp e => ?_
  have g1 : (L.map fun p => thash P w p.2)[i]? = some (thash P w k) := by
    rw [List.getElem?_map, gp, ← e]
    rfl
  have g2 : i < t.place.toList.length := by
    rw [Array.length_toList, R.psz]
    exact (List.getElem?_eq_some_iff.mp gp).1
  obtain ⟨c, c1, c2⟩ := R.tb.before n2 g1 (List.getElem?_eq_getElem g2)
  refine ⟨c, Nat.zero_le _, c1, ?_⟩
  rw [List.getElem?_eq_getElem g2]
  exact congrArg some c2.symm
end

section
variable {P : Program} {w : World} {A : Around} {E : Value → Shared → Prop} {s : Shared}
variable {a : Addr} {L : List (Addr × List Int)} {es : Array (Int × Value)} {ep : Nat} {t : SetTable}
theorem PsR.ty (R : PsR P w s.heap a L es ep t) : s.TypeIs (.ref a) "set" := by
  obtain ⟨o, ho, hx, _⟩ := R.obj
  exact ⟨o, ho, hx.1⟩
theorem PsR.nodict (R : PsR P w s.heap a L es ep t) : ∀ b, Value.ref a = .ref b → ∃ ob, s.heap.get? b = some ob ∧ ob.dict = none := fun b e => by
  injection e with e
  subst e
  obtain ⟨o, ho, hx, _⟩ := R.obj
  exact ⟨o, ho, hx.2.1⟩
/-- who is sought among tuples -/
theorem pfind (R : PsR P w s.heap a L es ep t) {x : Addr} {k : List Int} (hx : IsT P w s.heap k x) (hu : A.units < cLine) {Q : Option Nat → Shared → Prop}
    (h : ∀ r : Option Nat, r.isSome = decide (k ∈ L.map (·.2)) → Q r s) : wpAny (model P w) A (setFind a (.ref x) (thash P w k)) Q E s := by
  obtain ⟨o, ho, hex, hd⟩ := R.obj
  show wpAny (model P w) A (setFindIn a (.ref x) (thash P w k) (99999 + 1)) Q E s
  unfold setFindIn
  refine wpAny_bind (wpAny_setState_of ho hd R.fts ?_)
  dsimp only
  refine wp_if_neg (by simp [byScan, Value.scannable]) ?_
  try refine wpAny_bind (wpAny_pure ?_)
  refine wpAny_bind (psearch0 R hx hu false (fun i m => ?_) fun N m _ _ => ?_)
  · dsimp only
    exact wpAny_pure (h (some i) (by rw [decide_eq_true m]; rfl))
  · dsimp only
    exact wpAny_pure (h none (by rw [decide_eq_false m]; rfl))
theorem pis_in (R : PsR P w s.heap a L es ep t) {x : Addr} {k : List Int} (hx : IsT P w s.heap k x) (hu : A.units + 4 < cLine) {Q : Value → Shared → Prop}
    (h : Q (.bool (decide (k ∈ L.map (·.2)))) { s with toks := s.toks + (k.length + 1) }) : wpAny (model P w) A (compareOp .In (.ref x) (.ref a)) Q E s := by
  have ty := R.ty
  have ask : wpAny (model P w) A.in1 (Builtin.«frozenset.__contains__» ⟨[.ref a, .ref x], []⟩) (fun fin s' => ∃ v, fin = .done (.ret v) ∧ wpAny (model P w) A (truthy v) (fun c s' => wpAny (model P w) A (pure (Value.bool c)) Q E s') E s') E s := by
    simp only [Builtin.«frozenset.__contains__», Builtin.Frozenset.oneOther, Builtin.Frozenset.addrOf, Builtin.Frozenset.withSetAsKey, setContains, List.isEmpty_nil, bind_assoc]
    refine wpAny_bind (wpAny_pure ?_); try dsimp only
    refine wpAny_bind (wpAny_pure ?_); try dsimp only
    refine wpAny_bind (wpAny_tryCatch (wpAny_holding (wpAny_bind (wpAny_pyHash_tuple (by show A.units + 1 < cLine; omega) hx ?_))))
    refine wpAny_bind (pfind (s := { s with toks := s.toks + (k.length + 1) }) R hx (by show A.units + 1 < cLine; omega) fun r er => wpAny_pure ?_)
    show wpAny _ _ (ret (Value.bool r.isSome)) _ _ _
    rw [er]
    exact wpAny_pure ⟨_, rfl, wpAny_truthy_bool (wpAny_pure h)⟩
  show wpAny _ _ (contains (.ref a) (.ref x) >>= fun b => pure (Value.bool b)) Q E s
  refine wpAny_bind ?_
  unfold contains
  try with_reducible refine wpAny_holding ?_
  refine wpAny_bind (wpAny_specialOf ty F.slot_set_contains.lookup ?_)
  refine wp_if_neg (by rw [beq_builtin_none]; decide) (wpAny_bind (wpAny_callSpecialUnlessNone?_slot (name := Str.ofString "__contains__") ty F.slot_set_contains (wpAny_call_entry F.slot_set_contains ty entry_set_contains ask (F.args_set_contains_2 _ _))))
end

section
variable {P : Program} {w : World} {A : Around} {E : Value → Shared → Prop} {s : Shared}
variable {a : Addr} {L : List (Addr × List Int)} {es : Array (Int × Value)} {ep : Nat} {t : SetTable}
theorem PsR.small {h : Heap} (R : PsR P w h a L es ep t) (few : L.length < 64) : SetTR P w h a L es ep t := ⟨R.obj, R.rw_, R.tb, R.nod, R.tps, R.pln, R.ld, R.rm, few⟩
theorem PsR.of {h : Heap} (R : SetTR P w h a L es ep t) : PsR P w h a L es ep t := ⟨R.ob, R.rows, R.tab, R.nd, R.tup, R.plain, R.led, R.room⟩
/-- one more tuple -/
theorem padd (R : PsR P w s.heap a L es ep t) {x : Addr} {k : List Int} (hx : IsT P w s.heap k x) (hu : A.units < cLine) (bnd : L.length + 1 ≤ 76) {Q : Bool → Shared → Prop}
    (h : ∀ b h' L' es' ep' t', Heap.SameBut a s.heap h' → PsR P w h' a L' es' ep' t' → (k ∈ L.map (·.2) → L' = L) → (k ∉ L.map (·.2) → L'.Perm ((x, k) :: L)) → Q b { s with heap := h' }) :
    wpAny (model P w) A (setAddHashed a (.ref x) (thash P w k)) Q E s := by
  by_cases few : L.length + 1 < 64
  · exact add_at (R.small (by omega)) hx hu few fun b h' L' es' ep' t' sb R' c1 c2 => h b h' L' es' ep' t' sb (PsR.of R') c1 c2
  · obtain ⟨o, ho, hex, hd⟩ := R.obj
    have m127 : t.mask = 127 := by
      have := R.rm
      rcases R.tb.mok with e | e | e <;> omega
    unfold setAddHashed
    refine wpAny_holding ?_
    show wpAny (model P w) A (setAddHashedIn a (.ref x) (thash P w k) (99999 + 1)) Q E s
    rw [setAddHashedIn_succ]
    refine wpAny_bind (wpAny_setState_of ho hd R.fts ?_)
    dsimp only
    refine wp_if_neg (by simp [byScan, Value.scannable]) ?_
    try refine wpAny_bind (wpAny_pure ?_)
    refine wpAny_bind (psearch0 R hx hu true (fun i m => ?_) fun N m n1 n2 => ?_)
    · dsimp only
      exact wpAny_pure (h false s.heap L es ep t (Heap.SameBut.refl a s.heap) R (fun _ => rfl) fun z => absurd m z)
    · dsimp only
      refine wpAny_bind (wpAny_setState_of ho hd R.fts ?_)
      dsimp only
      obtain ⟨q1, q2, q3, q4, q5, q6, q7, q8, q9⟩ := R.tb.put n1 n2
      have e0 : way t.mask (thash P w k) N = slAt P w t k N := rfl
      rw [e0] at q1 q2 q3 q4 q5 q6 q7 q8 q9
      generalize slAt P w t k N = sl at q1 q2 q3 q4 q5 q6 q7 q8 q9 ⊢
      rw [q1]
      generalize (t.put sl).1 = t1 at q3 q4 q5 q6 q7 q8 q9 ⊢
      generalize SetTable.below t.place sl = b at q2 q3 ⊢
      have plain1 : t1.plain = true := by rw [q6]; exact R.pln
      refine wp_if_pos plain1 (wpAny_bind (hashBy_tup hx ?_))
      simp only [if_true, Bool.not_false, Bool.true_and]
      have pm : (L.take b ++ (x, k) :: L.drop b).Perm ((x, k) :: L) := put_perm L b (x, k)
      have rows : (SetTable.insertAt es b (thash P w k, Value.ref x)).toList = rowsOf P w (L.take b ++ (x, k) :: L.drop b) := by
        rw [rows_put, ← R.rw_]
        exact SetTable.toList_insertAt _ _ _
      have tabs : TabOk t1 ((L.take b ++ (x, k) :: L.drop b).map fun p => thash P w p.2) := by
        rw [List.map_append, List.map_cons, List.map_take, List.map_drop]
        exact q3
      generalize SetTable.insertAt es b (thash P w k, Value.ref x) = es1 at rows ⊢
      generalize L.take b ++ (x, k) :: L.drop b = L1 at pm rows tabs
      have len1 : L1.length = L.length + 1 := pm.length_eq
      have size1 : es1.size = L.length + 1 := by
        have e := congrArg List.length rows
        rw [Array.length_toList] at e
        rw [e, ← len1]
        exact List.length_map _
      have notFull : ¬ t1.tooFull = true := fun z => by
        have z2 : decide (t1.fill * 5 ≥ t1.mask * 3) = true := z
        rw [decide_eq_true_eq, q9, List.length_map, q4, m127] at z2
        omega
      refine wpAny_bind (wpAny_storeSet_of ho hd ?_ (by rw [size1, sizeLine_eq]; omega))
      refine wp_if_neg notFull ?_
      have sb : Heap.SameBut a s.heap (s.heap.update a (Obj.putSet es1 t1)) := Heap.SameBut.update ..
      refine wpAny_pure (h true _ L1 es1 (ep + 1) t1 sb ⟨⟨_, store_at ho hd, ⟨hex.1, hex.2.1, hex.2.2⟩, rfl⟩, rows, tabs, ?_, fun p hp => ?_, plain1, by rw [q5]; exact R.ld, by rw [len1, q4, m127]; omega⟩ (fun z => absurd z m) fun _ => pm)
      · refine (pm.map (·.2)).nodup_iff.mpr ?_
        rw [List.map_cons]
        exact List.nodup_cons.mpr ⟨m, R.nod⟩
      · rcases List.mem_cons.mp (pm.mem_iff.mp hp) with e | hp2
        · rw [e]
          exact isT_same hx ho hd sb
        · exact isT_same (R.tps p hp2) ho hd sb
end

/-! ### as rules of the layer: a set of pairs of ints -/
theorem perm_map {α β : Type} {f : α → β} {l m : List β} (h : l.Perm m) : ∀ L : List α, m = L.map f → ∃ L' : List α, List.Perm L' L ∧ l = List.map f L' := by
  induction h with
  | nil => intro L e; exact ⟨[], by rw [List.map_eq_nil_iff.mp e.symm], rfl⟩
  | cons x _ ih =>
    intro L e
    cases L with
    | nil => cases e
    | cons y L =>
      obtain ⟨e1, e2⟩ := List.cons.inj e
      obtain ⟨L', p, e3⟩ := ih L e2
      exact ⟨y :: L', p.cons y, by rw [List.map_cons, e1, e3]⟩
  | swap x y l =>
    intro L e
    match L, e with
    | y' :: x' :: L, e =>
      obtain ⟨e1, e2⟩ := List.cons.inj e
      obtain ⟨e3, e4⟩ := List.cons.inj e2
      exact ⟨x' :: y' :: L, List.Perm.swap y' x' L, by rw [List.map_cons, List.map_cons, ← e1, ← e3, ← e4]⟩
  | trans _ _ ih1 ih2 =>
    intro L e
    obtain ⟨L1, p1, e1⟩ := ih2 L e
    obtain ⟨L2, p2, e2⟩ := ih1 L1 e1
    exact ⟨L2, p2.trans p1, e2⟩
def pr2 : List Int → Pr
  | [x, y] => (x, y)
  | _ => (0, 0)
section
variable {P : Program} {w : World} {A : Around} {E : Value → Shared → Prop} {s : Shared}
variable {a : Addr} {L : List (Addr × List Int)} {es : Array (Int × Value)} {ep : Nat} {t : SetTable}
theorem IsT.pair {h : Heap} {b : Addr} {x y : Int} (q : IsT P w h [x, y] b) : Srt.IsPair h (.ref b) x y := by
  obtain ⟨o, items, n, ho, hc, hd, hi⟩ := q
  obtain ⟨its⟩ := items
  cases hi with
  | cons h1 h2 =>
    cases h2 with
    | cons h3 h4 =>
      cases h4
      obtain ⟨t1, rfl⟩ := Value.isInt_shape h1
      obtain ⟨t2, rfl⟩ := Value.isInt_shape h3
      exact ⟨b, o, t1, t2, n, rfl, ho, hc, hd⟩
/-- the pair that stands at a value -/
def kL (L : List (Addr × List Int)) (v : Value) : Pr := match v with
  | .ref b => pr2 ((L.lookup b).getD [])
  | _ => (0, 0)
theorem kL_of {h : Heap} (tps : ∀ p ∈ L, IsT P w h p.2 p.1) {q : Addr × List Int} (m : q ∈ L) : kL L (.ref q.1) = pr2 q.2 := by
  have key : ∀ L : List (Addr × List Int), (∀ p ∈ L, IsT P w h p.2 p.1) → q ∈ L → L.lookup q.1 = some q.2 := by
    intro L
    induction L with
    | nil => intro _ z; cases z
    | cons p L ih =>
      intro tps m
      obtain ⟨b, k⟩ := p
      by_cases e : q.1 = b
      · have t1 := tps _ m
        have t2 := tps (b, k) List.mem_cons_self
        rw [e] at t1
        have e2 : q.2 = k := t1.inj t2
        rw [List.lookup_cons, e, beq_self_eq_true, e2]
      · have m2 : q ∈ L := by
          rcases List.mem_cons.mp m with z | z
          · rw [z] at e
            exact absurd rfl e
          · exact z
        rw [List.lookup_cons, beq_eq_false_iff_ne.mpr e]
        exact ih (fun p hp => tps p (List.mem_cons_of_mem _ hp)) m2
  show pr2 ((L.lookup q.1).getD []) = _
  rw [key L tps m]
  rfl
/-- sorted(set) -/
theorem psorted (R : PsR P w s.heap a L es ep t) (hh : A.handled = none) (two : ∀ p ∈ L, ∃ x y, p.2 = [x, y]) (few : L.length ≤ 1000) {Q : Value → Shared → Prop}
    (h : ∀ s' p c (L' : List (Addr × List Int)), (∀ b o, s.heap.get? b = some o → s'.heap.get? b = some o) → s'.gens = s.gens → s'.os = s.os → s.heap.objs.size ≤ p → s'.heap.get? p = some (seqObj "list" (L'.map fun q => Value.ref q.1).toArray c) → L'.Perm L →
      L'.Pairwise (fun q r => ¬ lt2 (pr2 r.2) (pr2 q.2)) → Q (.ref p) s') : wpAny (model P w) A (call (.builtin "sorted") [.ref a]) Q E s := by
  obtain ⟨o, ho, hex, hd⟩ := R.obj
  have sz := R.sz
  refine Calls.call_function_entry kind_sorted plain_sorted entry_sorted (args_sorted1 _) ?_
  unfold Builtin.«sorted»; refine wpAny_bind (m := checkCount "sorted" 1 1 _) (wpAny_pure ?_)
  refine wpAny_bind (collect_set (A := A.in1) hh ⟨o, ho, hex.1, hd⟩ R.fts (by rw [sz]; unfold scanBound; omega) R.tb.ris R.ld fun s1 vs keep grow g1 o1 pm => ?_)
  have e1 : es.toList.map (·.2) = L.map fun q => Value.ref q.1 := by
    rw [R.rw_]
    show List.map _ (L.map _) = _
    rw [List.map_map]
    rfl
  rw [e1] at pm
  have lv : vs.length ≤ sizeLine := by
    rw [pm.length_eq, List.length_map, sizeLine_eq]
    omega
  refine wpAny_bind (wpAny_newList ?_ lv)
  have new : (s1.heap.push (seqObj "list" vs.toArray 0)).get? s1.heap.objs.size = some (seqObj "list" vs.toArray 0) := Heap.get?_push_size _ rfl
  have pairs : ∀ v ∈ vs, Srt.IsPair (s1.heap.push (seqObj "list" vs.toArray 0)) v (kL L v).1 (kL L v).2 := fun v hv => by
    obtain ⟨q, hq, rfl⟩ := List.mem_map.mp (pm.mem_iff.mp hv)
    rw [kL_of R.tps hq]
    obtain ⟨x, y, e2⟩ := two q hq
    have t1 := R.tps q hq
    rw [e2] at t1 ⊢
    exact Srt.IsPair.keeps (IsT.pair t1) fun b u e _ => Heap.get?_push_of_some _ (keep b u e)
  refine wpAny_bind (wpAny_holding (wpAny_call_entry slot_list_sort ⟨_, new, rfl⟩ entry_list_sort (SrtO.list_sort_ord (s := { s1 with heap := s1.heap.push (seqObj "list" vs.toArray 0) }) (SrtO.swo_lex (kL L)) new lv (fun h2 => SrtO.pairs_sortableO (by omega) pairs fun o e c => ?_) fun out so st => ⟨_, rfl, ?_⟩) (args_list_sort _)))
  · have e3 : some o = some (seqObj "list" vs.toArray 0) := e.symm.trans new
    cases e3
    exact absurd (Value.type.inj c) (by decide)
  · obtain ⟨L', p1, p2⟩ := perm_map (st.perm.trans pm) L rfl
    obtain ⟨c, hc⟩ := sortedHeap_at (vs := vs) (out := out.toArray) new
    refine wpAny_pure ⟨_, rfl, h _ s1.heap.objs.size c L' (fun b u e => ?_) g1 o1 grow ?_ p1 ?_⟩
    · have e4 := keep b u e
      have lt := Heap.lt_size e4
      show (sortedHeap (s1.heap.push (seqObj "list" vs.toArray 0)) s1.heap.objs.size vs out.toArray).get? b = some u
      rw [sortedHeap_old (Nat.ne_of_lt lt) (by rw [size_push']; exact Nat.lt_succ_of_lt lt)]
      exact Heap.get?_push_of_some _ e4
    · rw [← p2]
      exact hc
    · rw [p2] at so
      refine List.Pairwise.imp_of_mem (fun {q r} hq hr z => ?_) (List.pairwise_map.mp so)
      have z2 : SrtO.lexB (kL L (Value.ref r.1)) (kL L (Value.ref q.1)) = false := z
      rw [kL_of R.tps (p1.mem_iff.mp hq), kL_of R.tps (p1.mem_iff.mp hr)] at z2
      exact SrtO.lexB_no.mp z2
end
/-- the set at a without its tuples -/
structure Ps0 (P : Program) (w : World) (h : Heap) (a : Addr) (L : List (Addr × List Int)) : Prop where
  ex : ∃ (es : Array (Int × Value)) (ep : Nat) (t : SetTable), (∃ o, h.get? a = some o ∧ o.ExactSet ∧ o.data = .set es ep t) ∧ es.toList = rowsOf P w L ∧ TabOk t (L.map fun p => thash P w p.2) ∧ (L.map (·.2)).Nodup ∧ t.plain = true ∧ (w.params.followText "set-order" = true ∨ t.led = true) ∧ L.length * 5 < t.mask * 3
def PsO (P : Program) (w : World) (a : Addr) (L : List (Addr × List Int)) : HO := .ext fun h => Ps0 P w h a L
theorem PsR.p0 {P : Program} {w : World} {h : Heap} {a : Addr} {L : List (Addr × List Int)} {es : Array (Int × Value)} {ep : Nat} {t : SetTable} (R : PsR P w h a L es ep t) : Ps0 P w h a L := ⟨es, ep, t, R.obj, R.rw_, R.tb, R.nod, R.pln, R.ld, R.rm⟩
theorem Ps0.full {P : Program} {w : World} {h : Heap} {a : Addr} {L : List (Addr × List Int)} (R : Ps0 P w h a L) (tp : ∀ p ∈ L, IsT P w h p.2 p.1) : ∃ es ep t, PsR P w h a L es ep t := by
  obtain ⟨es, ep, t, h1, h2, h3, h4, h5, h6, h7⟩ := R.ex
  exact ⟨es, ep, t, ⟨h1, h2, h3, h4, tp, h5, h6, h7⟩⟩
theorem psO_new {P : Program} {w : World} {H : Hp} {h : Heap} {a : Addr} {L : List (Addr × List Int)} (R : Ps0 P w h a L) : ObjOk P w H h a (PsO P w a L) := by
  refine ⟨R, ?_, fun h1 h2 p k => ?_⟩
  · obtain ⟨_, _, _, ⟨o, ho, _⟩, _⟩ := R.ex
    exact ⟨o, ho⟩
  · obtain ⟨es, ep, t, ⟨o, ho, r⟩, q⟩ := Ps0.ex p
    exact ⟨es, ep, t, ⟨o, k o ho, r⟩, q⟩
section
variable {X : Cx}
theorem ps_get {pins : List (Addr × Obj)} {σ : L2.St} {H : Hp} {s : Shared} {a : Addr} {L : List (Addr × List Int)} (I : Inv X pins σ H s) (ha : H a = some (PsO X.prog X.w a L)) (tp : ∀ p ∈ L, SqT X.K H p.1 (p.2.map V.int)) : ∃ es ep t, PsR X.prog X.w s.heap a L es ep t :=
  Ps0.full (I.hok a _ ha).1 fun p hp => I.isT (tp p hp)
/-- set(), to be filled with pairs -/
def rPs0 (P : Program) (w : World) : List V → Hp → VK → Prop := fun xs H Q => xs = [] ∧ ∀ p, H p = none → Q (.ref p) (upd H p (PsO P w p []))
theorem cr_ps0 : CallR X (.type "set") (rPs0 X.prog X.w) := by
  intro pins s σ H xs us Q I r h
  obtain ⟨rfl, q⟩ := h
  cases r
  refine setR_new fun _ => ?_
  exact ⟨.ref _, upd H s.heap.objs.size (PsO X.prog X.w s.heap.objs.size []), I.laid (t' := s.toks) (fun b u e => Heap.get?_push_of_some _ e) (Nat.le_refl _) (psO_new (PsR.of (setTR_fresh (Heap.get?_push_size _ rfl))).p0), rfl, q _ (I.hok.fresh (Nat.le_refl _))⟩
/-- (a, b) in seen -/
def rPsIn (K : PySem.W.Frag) (P : Program) (w : World) : V → V → Hp → VK → Prop := fun x y H Q => ∃ b k a L, x = V.ref b ∧ y = V.ref a ∧ H a = some (PsO P w a L) ∧ (∀ p ∈ L, SqT K H p.1 (p.2.map V.int)) ∧ SqT K H b (k.map V.int) ∧ Q (.bl (decide (k ∈ L.map (·.2)))) H
theorem op_psIn (hu : X.A.units + 64 < cLine) : OpR X (compareOp .In) (rPsIn X.K X.prog X.w) := by
  intro pins s σ H x y v u Q I rx ry h
  obtain ⟨b, k, a, L, rfl, rfl, ha, tp, hb, q⟩ := h
  cases (show v = Value.ref b from rx)
  cases (show u = Value.ref a from ry)
  obtain ⟨es, ep, t, R⟩ := ps_get I ha tp
  exact pis_in R (I.isT hb) (by omega) ⟨.bl _, H, I.tok _, rfl, q⟩
/-- seen.add((a, b)) -/
def rPsAdd (K : PySem.W.Frag) (P : Program) (w : World) : V → List V → Hp → VK → Prop := fun x xs H Q => ∃ b k a L, x = V.ref a ∧ xs = [V.ref b] ∧ H a = some (PsO P w a L) ∧ (∀ p ∈ L, SqT K H p.1 (p.2.map V.int)) ∧ SqT K H b (k.map V.int) ∧ L.length + 1 ≤ 76 ∧
  ∀ L', (k ∈ L.map (·.2) → L' = L) → (k ∉ L.map (·.2) → L'.Perm ((b, k) :: L)) → Q .non (upd H a (PsO P w a L'))
theorem mt_psAdd (hu : X.A.units + 64 < cLine) : MtR X "set.add" (rPsAdd X.K X.prog X.w) := by
  intro pins s σ H x xs v us Q I rx rxs h
  obtain ⟨b, k, a, L, rfl, rfl, ha, tp, hb, bnd, q⟩ := h
  cases rx
  cases rxs with
  | cons ry rt =>
    cases rt
    cases (show _ = Value.ref b from ry)
    obtain ⟨es, ep, t, R⟩ := ps_get I ha tp
    have hx := I.isT hb
    refine wpAny_call_entry F.slot_set_add R.ty F.entry_set_add ?_ (F.args_set_add_2 _ _)
    simp only [Builtin.«set.add», Builtin.Frozenset.oneOther, Builtin.Frozenset.addrOf, setAdd, List.isEmpty_nil, bind_assoc]
    refine wpAny_bind (wpAny_pure ?_); try dsimp only
    refine wpAny_bind (wpAny_pure ?_); try dsimp only
    refine wpAny_bind (wpAny_holding (wpAny_bind (wpAny_pyHash_tuple (by show X.A.units + 1 < cLine; omega) hx ?_)))
    refine padd (s := { s with toks := s.toks + (k.length + 1) }) R hx (by show X.A.units + 1 < cLine; omega) bnd fun c h' L' es' ep' t' sb R' c1 c2 => ?_
    show wpAny _ _ (ret Value.none) _ _ _
    have he : ∃ u, h'.get? a = some u := by
      obtain ⟨o, ho, _⟩ := R'.obj
      exact ⟨o, ho⟩
    exact wpAny_pure ⟨_, rfl, .non, upd H a (PsO X.prog X.w a L'), I.write (e := a) (t' := s.toks + (k.length + 1)) (by rw [ha]; trivial) (.inl rfl) (fun b u hb hu => (sb.2 b hb).trans hu) he (psO_new R'.p0), rfl, q L' c1 c2⟩
/-- sorted(seen) -/
def rPsSort (K : PySem.W.Frag) (P : Program) (w : World) : List V → Hp → VK → Prop := fun vs H Q => ∃ a L, vs = [V.ref a] ∧ H a = some (PsO P w a L) ∧ (∀ p ∈ L, SqT K H p.1 (p.2.map V.int)) ∧ (∀ p ∈ L, ∃ x y, p.2 = [x, y]) ∧ L.length ≤ 1000 ∧
  ∀ (L' : List (Addr × List Int)) (p : Addr), L'.Perm L → (L'.map (·.2)).Nodup → L'.Pairwise (fun q r => ¬ lt2 (pr2 r.2) (pr2 q.2)) → H p = none → Q (.ref p) (upd H p (.lst (L'.map fun q => V.ref q.1)))
theorem cr_psSort (hc : X.calm = true) : CallR X (.builtin "sorted") (rPsSort X.K X.prog X.w) := by
  intro pins s σ H vs us Q I r h
  obtain ⟨a, L, rfl, ha, tp, two, few, q⟩ := h
  obtain ⟨es, ep, t, R⟩ := ps_get I ha tp
  rw [Vals.ref1 r]
  refine psorted R (I.ok.hd hc) two few fun s' p c L' keep g o hp hg pm pw => ?_
  have hn : H p = none := I.hok.fresh hp
  have ll : (L'.map fun q => V.ref q.1).length ≤ sizeLine := by
    rw [List.length_map, pm.length_eq, sizeLine_eq]
    omega
  have J : Inv X pins σ (upd H p (.lst (L'.map fun q => V.ref q.1))) { s with heap := s'.heap, gens := s'.gens, drawn := s'.drawn, toks := s'.toks } :=
    I.call (ch := []) (Un.laid keep hp hn) (I.hok.laid keep hp ⟨ll, _, c, vals_of_refs L', hg⟩) (by rw [g]; exact I.bare) (fun _ z => nomatch z)
  have e : s' = { s with heap := s'.heap, gens := s'.gens, drawn := s'.drawn, toks := s'.toks } := by
    cases s'
    cases s
    cases o
    rfl
  rw [e]
  exact ⟨.ref p, _, J, rfl, q L' p pm ((pm.map (·.2)).nodup_iff.mpr R.nod) pw hn⟩
/-- the call of the method -/
def tPsAdd (K : PySem.W.Frag) (P : Program) (w : World) (to : TE) (t : TA) : TE := fun σ H Q => to σ H fun x H1 => (∃ a L, x = V.ref a ∧ H1 a = some (PsO P w a L)) ∧ t σ H1 fun xs H2 => rPsAdd K P w x xs H2 Q
theorem ps_look {pins : List (Addr × Obj)} {σ : L2.St} {H : Hp} {s : Shared} {a : Addr} {L : List (Addr × List Int)} (I : Inv X pins σ H s) (ha : H a = some (PsO X.prog X.w a L)) : s.TypeIs (.ref a) "set" ∧ ∀ b, Value.ref a = .ref b → ∃ ob, s.heap.get? b = some ob ∧ ob.dict = none := by
  obtain ⟨_, _, _, ⟨o, ho, hx, _⟩, _⟩ := Ps0.ex (I.hok a _ ha).1
  refine ⟨⟨o, ho, hx.1⟩, fun b e => ?_⟩
  injection e with e
  subst e
  exact ⟨o, ho, hx.2.1⟩
theorem pe_psAdd {o e : Expr} {es : List Expr} {to : TE} {t : TA} {apos cpos : Pos} (hu : X.A.units + 64 < cLine) (ho : PE X o to) (ha : PA X (e :: es) t)
    (b1 : attributeBase o "add" X.env (eval o X.env) = eval o X.env := by rfl)
    (b2 : ((backTo cpos (starEach (e :: es) X.env)).all (fun x => !x.1) && (backToKw cpos (keywordEach [] X.env)).all (fun x => x.1.isSome) && decide ((e :: es).length + ([] : List Keyword).length + (if ([] : List Keyword).isEmpty then 0 else 1) < 30)) = true := by rfl)
    (b3 : (apos.endLine == cpos.line) = true := by rfl) (b4 : starEach (e :: es) X.env = (false, eval e X.env) :: starEach es X.env := by rfl) (b5 : (backTo cpos (starEach es X.env)).any (·.1) = false := by rfl) :
    PE X (.Call (.Attribute o "add" apos) (e :: es) [] cpos) (tPsAdd X.K X.prog X.w to t) := by
  refine ⟨fun pins s σ H Q I h => wpAny_Call_method_late b1 b2 b3 rfl (thn (ho.run pins s σ H _ I h) ?_)⟩
  rintro v s1 ⟨x, H1, I1, r1, ⟨a, L, rfl, hka⟩, q1⟩
  cases r1
  obtain ⟨k1, k2⟩ := ps_look I1 hka
  refine ⟨"set", "set.add", F.plainAttrs_set, F.slot_set_add, F.type_set_add, k1, k2, ?_⟩
  have run := ha.run cpos pins s1 σ H1 _ I1 q1
  rw [b4] at run ⊢
  refine Calls.callWith_builtin ?_ (Calls.evalArgs_plain (thn run ?_))
  · show (false || (backTo cpos (starEach es X.env)).any (·.1)) = false
    rw [b5]
    rfl
  · rintro us s2 ⟨vs, H2, I2, r2, q2⟩
    exact mt_psAdd hu pins s2 σ H2 (.ref a) vs (.ref a) us Q I2 rfl r2 q2
end

abbrev sHouse : Stmt := topS 7
abbrev sHinit : Stmt := inClass sHouse 2
abbrev sHcount : Stmt := inClass sHouse 3
abbrev sHdoors : Stmt := inClass sHouse 4
abbrev sHnear : Stmt := inClass sHouse 5
abbrev sHhas : Stmt := inClass sHouse 6
abbrev sRoom : Stmt := topS 8
abbrev sChk : Stmt := topS 9
/-- what the walk asks of the class House -/
structure Hs (K : PySem.W.Frag) (mg : Str → Option Value) (C : Addr) : Prop where
  cl : Cls K C
  nR : NoAttr K C "rooms"
  nD : NoAttr K C "_doors"
  nN : NoAttr K C "_near"
  mgC : mg "House" = some (.ref C)
  rd : ∃ mc u, ClX.CRead K C mc ∧ ClX.CVal K C mc "MOST_ROOMS" (.int 12) u
theorem for_enum {K : PySem.W.Frag} {a : Addr} {xs : List V} {g : TG} {tb : TS} {D : Ends} {σ : L2.St} {H : Hp} (Pv : Nat → L2.St → Hp → Prop) (h0 : Pv 0 σ H) (hl : ∀ i σ H, Pv i σ H → SqL K H a xs)
    (hs : ∀ (i : Nat) (x : V) (t : Addr) (σ : L2.St) (H : Hp), xs[i]? = some x → Pv i σ H → H t = none → g (.ref t) σ (upd H t (.tup [.int (i : Nat), x])) fun σ2 H2 => tb { D with nx := Pv (i + 1), ct := Pv (i + 1), bk := D.nx } σ2 H2) (hd : ∀ σ H, Pv xs.length σ H → D.nx σ H) :
    tFor (fun _ H R => R (Ite K a) H) g tb D σ H := by
  refine ⟨fun i m σ H => m = xs.length - i ∧ i ≤ xs.length ∧ Pv i σ H, ⟨xs.length, rfl, Nat.zero_le _, h0⟩, ?_⟩
  rintro i m σ H ⟨rfl, hi, p⟩
  have q := hl i σ H p
  by_cases lt : i < xs.length
  · refine .inr ⟨⟨xs, xs[i], q, List.getElem?_eq_getElem lt⟩, Pv (i + 1), fun σ' H' p' => ⟨xs.length - (i + 1), by omega, rfl, lt, p'⟩, ?_⟩
    rintro v H' ⟨t, x, rfl, nt, rfl, f⟩
    exact hs i x t σ H (f xs q) p nt
  · have e : i = xs.length := by omega
    subst e
    exact .inl ⟨⟨xs, q, Nat.le_refl _⟩, hd σ H p⟩
section
variable {P : Program} {w : World} {K : PySem.W.Frag} {mg : Str → Option Value} {base : Heap}
theorem scRoom : FnScope ["rooms"] ["rooms"] (defScope sRoom) := ⟨rfl, rfl, rfl, by decide +kernel, rfl, by decide +kernel, by decide +kernel⟩
def spRoom : Sp := fun vs H Q _ => ∃ r : Int, vs = [.int r] ∧ 1 ≤ r ∧ r ≤ 12 ∧ Q .non H
theorem ok_room {f C : Addr} {fd : FuncData} (F : Fun K "check_room_count" "check_room_count" sRoom f fd) (T : Hs K mg C) : FnOk P w K mg base CX0 1 f fd ["rooms"] spRoom := by
  refine F.ok scRoom (fun vs H Q E h => ?_) (fun cdv A outer s H vs Q E hr h => ?_)
  · obtain ⟨r, rfl, _⟩ := h
    rfl
  · obtain ⟨r, rfl, h1, h2, q⟩ := h
    refine ⟨_, (pss_one (ps_if (pt_not (pt_chain op_le op_le pe_int (pv 0) (ClX.pe_cval (pe_glob (v := .ref C) (by rfl) T.mgC rfl))))
      (pss_one (ps_never))
      pss_nil)), ?_⟩
    obtain ⟨mc, u, c1, c2⟩ := T.rd
    walk_at "rd"
    rw [if_pos h1]
    refine ⟨C, mc, .int 12, u, rfl, c1, c2, 12, rfl, ?_⟩
    rw [decide_eq_true h2]
    exact iteF q
theorem scChk : FnScope ["rooms", "doors", "seen", "place", "a", "b"] ["rooms", "doors"] (defScope sChk) := ⟨rfl, rfl, rfl, by decide +kernel, rfl, by decide +kernel, by decide +kernel⟩
def two (d : Pr) : List Int := [d.1, d.2]
theorem psO_ne {P : Program} {w : World} {a : Addr} {L : List (Addr × List Int)} {xs : List V} : PsO P w a L ≠ .tup xs := fun h => by
  unfold PsO at h
  cases h
theorem two_inj {d e : Pr} (h : two d = two e) : d = e := by
  unfold two at h
  obtain ⟨h1, h2⟩ := List.cons.inj h
  exact Prod.ext h1 (List.cons.inj h2).1
theorem not_taken {D : List Pr} (nd : D.Nodup) {i : Nat} {d : Pr} (g : D[i]? = some d) : d ∉ D.take i := fun z => by
  obtain ⟨j, gj⟩ := List.getElem?_of_mem z
  have lt : j < (D.take i).length := (List.getElem?_eq_some_iff.mp gj).1
  rw [List.length_take] at lt
  rw [List.getElem?_take_of_lt (by omega)] at gj
  have := nd_ix nd gj g
  omega
def spChk : Sp := fun vs H Q _ => ∃ (r : Nat) (l : Addr) (us : List V) (D : List Pr), vs = [.int r, .ref l] ∧ H l = some (.lst us) ∧ PL H us D ∧ D.Nodup ∧ (∀ d ∈ D, 0 ≤ d.1 ∧ d.1 < d.2 ∧ d.2 < r) ∧ r ≤ 12 ∧
  ∀ D' ws p H', Asc D' → (∀ d, d ∈ D' ↔ d ∈ D) → Same H H' → H p = none → H' p = some (.lst ws) → PL H' ws D' → Q (.ref p) H'
theorem ok_chk {f : Addr} {fd : FuncData} (F : Fun K "checked_doors" "checked_doors" sChk f fd) (T : Bi mg) : FnOk P w K mg base CX0 1 f fd ["rooms", "doors"] spChk := by
  refine F.ok scChk (fun vs H Q E h => ?_) (fun cdv A outer s H vs Q E hr h => ?_)
  · obtain ⟨r, l, us, D, rfl, _⟩ := h
    rfl
  · obtain ⟨r, l, us, D, rfl, hl, pl, nd, ok, hr12, q⟩ := h
    refine ⟨_, (pss_cons (ps_set (i := 2) scChk.nd rfl (Or.inl rfl) (pe_callTy0 cr_ps0 (by rfl) T.set (by decide +kernel)))
      (pss_cons (ps_for PassesOwn.never rfl (pi_enum (by rfl) T.enumerate (pa_cons (pv 1) pa_nil)) (pg_tup rfl (pgs_cons (pg_name (i := 3) scChk.nd rfl (Or.inl rfl)) (pgs_cons (pg_tup rfl (pgs_cons (pg_name (i := 4) scChk.nd rfl (Or.inl rfl)) (pgs_cons (pg_name (i := 5) scChk.nd rfl (Or.inl rfl)) pgs_nil))) pgs_nil)))
      (pss_cons (ps_if (PW.pt (pw_or (pt_not (PW.pt (pw_and (pt_chain op_le op_lt pe_int (pv 4) (pv 0)) (pw_and1 (pt_chain op_le op_lt pe_int (pv 5) (pv 0)))))) (pw_or (pt_cmpR op_eqI (pv 4) (pv 5) (nomark _)) (pw_or1 (pt_cmpR (op_psIn hr.units) (pe_tup (pa_cons (pv 4) (pa_cons (pv 5) pa_nil))) (pv 2) (by rfl))))))
        (pss_one (ps_never))
        pss_nil)
        (pss_one (ps_expr (pe_psAdd hr.units (pv 2) (pa_cons (pe_tup (pa_cons (pv 4) (pa_cons (pv 5) pa_nil))) pa_nil))))))
      (pss_one (ps_ret (pe_callB (cr_psSort rfl) (by rfl) T.sorted (by decide +kernel) (pa_cons (pv 2) pa_nil)))))), ?_⟩
    walk_at "rd"
    refine ⟨rfl, fun p np => ?_⟩
    obtain ⟨Pv, hPv⟩ : ∃ Pv : Nat → L2.St → Hp → Prop, Pv = (fun i σ H' => ∃ (L : List (Addr × List Int)) (v3 v4 v5 : Option V), σ = [some (.int r), some (.ref l), some (.ref p), v3, v4, v5] ∧ Same H H' ∧ H' p = some (PsO P w p L) ∧ (∀ q ∈ L, H' q.1 = some (.tup (q.2.map V.int))) ∧ List.Perm (L.map (·.2)) ((D.take i).map two)) := ⟨_, rfl⟩
    have hul : us.length = D.length := pl.len
    have dlen := drs_len' hr12 nd ok
    refine ⟨_, rfl, l, us, rfl, SqL.of (same_upd np l _ hl), for_enum (xs := us) Pv (by rw [hPv]; exact ⟨[], none, none, none, rfl, same_upd np, upd_same, fun q hq => (by cases hq), List.Perm.refl _⟩) (fun i σ H' pv => ?_) ?_ ?_⟩
    · rw [hPv] at pv
      obtain ⟨L, v3, v4, v5, _, sm, _⟩ := pv
      exact SqL.of (sm l _ hl)
    · rintro i v t σ H' gv pv nt
      have nxt : ∀ (L : List (Addr × List Int)) (v3 v4 v5 : Option V) (H' : Hp), Same H H' → H' p = some (PsO P w p L) → (∀ q ∈ L, H' q.1 = some (.tup (q.2.map V.int))) → List.Perm (L.map (·.2)) ((D.take (i + 1)).map two) → Pv (i + 1) [some (.int r), some (.ref l), some (.ref p), v3, v4, v5] H' := fun L v3 v4 v5 H' h1 h2 h3 h4 => by
        rw [hPv]
        exact ⟨L, v3, v4, v5, rfl, h1, h2, h3, h4⟩
      rw [hPv] at pv
      obtain ⟨L, v3, v4, v5, rfl, sm, hp, tp, pm⟩ := pv
      obtain ⟨d, gd, td, rfl, htd⟩ := pl.get gv
      have hid : i < D.length := (List.getElem?_eq_some_iff.mp gd).1
      have md : d ∈ D := List.mem_of_getElem? gd
      have okd := ok d md
      have hl1 := sm l _ hl
      have htd1 := sm td _ htd
      have ntd : td ≠ t := ne_of_none htd1 nt
      have htd2 : upd H' t (HO.tup [V.int i, V.ref td]) td = some (.tup [.int d.1, .int d.2]) := by rw [upd_ne ntd]; exact htd1
      walk_at "rd"
      refine ⟨[.int i, .ref td], SqT.of upd_same, rfl, .int i, [.ref td], rfl, .ref td, [], rfl, td, rfl, [.int d.1, .int d.2], SqT.of htd2, rfl, .int d.1, [.int d.2], rfl, .int d.2, [], rfl, rfl, rfl, d.1, rfl, ?_⟩
      rw [if_pos okd.1]
      refine ⟨d.1, rfl, ?_⟩
      rw [if_pos (show d.1 < (r : Int) by omega)]
      refine ⟨d.2, rfl, ?_⟩
      rw [if_pos (show 0 ≤ d.2 by omega)]
      refine ⟨d.2, rfl, ?_⟩
      rw [decide_eq_true okd.2.2]
      refine iteF ?_
      refine ⟨d.1, rfl, d.2, rfl, ?_⟩
      rw [if_neg (show ¬ d.1 = d.2 by omega)]
      refine ⟨by decide, fun t1 nt1 => ?_⟩
      have ne1 : t1 ≠ p := fun e => by
        rw [e, upd_ne (show p ≠ t from ne_of_none hp nt), hp] at nt1
        cases nt1
      have s1 : Same H' (upd (upd H' t (HO.tup [V.int i, V.ref td])) t1 (HO.tup [V.int d.1, V.int d.2])) := (same_upd nt).trans (same_upd nt1)
      have out : two d ∉ L.map (·.2) := fun z => by
        obtain ⟨e, he, ee⟩ := List.mem_map.mp (pm.mem_iff.mp z)
        rw [two_inj ee] at he
        exact not_taken nd gd he
      have lenL : L.length ≤ 66 := by
        have e := pm.length_eq
        rw [List.length_map, List.length_map, List.length_take] at e
        omega
      refine ⟨t1, two d, p, L, rfl, rfl, s1 p _ hp, fun q hq => SqT.of (s1 _ _ (tp q hq)), SqT.of upd_same, ?_⟩
      rw [decide_eq_false out]
      refine ⟨false, rfl, iteF ?_⟩
      generalize upd (upd H' t (HO.tup [V.int i, V.ref td])) t1 (HO.tup [V.int d.1, V.int d.2]) = H1 at s1
      have hp1 := s1 p _ hp
      refine ⟨_, rfl, ⟨p, L, rfl, hp1⟩, _, rfl, _, rfl, (by show 2 ≤ sizeLine; decide), fun t2 nt2 => ?_⟩
      have s2 : Same H1 (upd H1 t2 (HO.tup [V.int d.1, V.int d.2])) := same_upd nt2
      have hp2 := s2 p _ hp1
      refine ⟨t2, two d, p, L, rfl, rfl, hp2, fun q hq => SqT.of (s2 _ _ (s1 _ _ (tp q hq))), SqT.of upd_same, by omega, fun L' _ c2 => ?_⟩
      have pm2 := c2 out
      have keep : ∀ b xs, upd H1 t2 (HO.tup [V.int d.1, V.int d.2]) b = some (.tup xs) → upd (upd H1 t2 (HO.tup [V.int d.1, V.int d.2])) p (PsO P w p L') b = some (.tup xs) := fun b xs e => by
        rw [upd_ne]
        · exact e
        · rintro rfl
          rw [hp2] at e
          exact psO_ne (Option.some.inj e)
      refine nxt L' _ _ _ _ (same_ch ((sm.trans s1).trans s2) np) upd_same (fun q hq => ?_) ?_
      · refine keep _ _ ?_
        rcases List.mem_cons.mp (pm2.mem_iff.mp hq) with e | hq2
        · rw [e]
          exact upd_same
        · exact s2 _ _ (s1 _ _ (tp q hq2))
      · refine (pm2.map (·.2)).trans ?_
        rw [List.map_cons, List.take_add_one, gd, List.map_append]
        exact (List.Perm.cons _ pm).trans (List.perm_append_singleton _ _).symm
    · intro σ H' pv
      rw [hPv] at pv
      obtain ⟨L, v3, v4, v5, rfl, sm, hp, tp, pm⟩ := pv
      rw [hul, List.take_length] at pm
      have shape : ∀ q ∈ L, ∃ d ∈ D, q.2 = two d := fun q hq => by
        obtain ⟨d, hd, e⟩ := List.mem_map.mp (pm.mem_iff.mp (List.mem_map.mpr ⟨q, hq, rfl⟩))
        exact ⟨d, hd, e.symm⟩
      have lenL : L.length = D.length := by
        have e := pm.length_eq
        rw [List.length_map, List.length_map] at e
        exact e
      walk_at "rd"
      refine ⟨p, L, rfl, hp, fun q hq => SqT.of (tp q hq), fun q hq => ?_, by omega, fun L' t p1 n1 w1 nt => ?_⟩
      · obtain ⟨d, _, e⟩ := shape q hq
        exact ⟨d.1, d.2, e⟩
      · have hl' : ∀ q ∈ L', pr2 q.2 ∈ D ∧ H' q.1 = some (.tup [.int (pr2 q.2).1, .int (pr2 q.2).2]) := fun q hq => by
          have hq2 := p1.mem_iff.mp hq
          obtain ⟨d, hd, e⟩ := shape q hq2
          have e2 := tp q hq2
          rw [e] at e2 ⊢
          exact ⟨hd, e2⟩
        have back : ∀ q ∈ L', two (pr2 q.2) = q.2 := fun q hq => by
          obtain ⟨d, hd, e⟩ := shape q (p1.mem_iff.mp hq)
          rw [e]
          rfl
        refine q (L'.map fun q => pr2 q.2) (L'.map fun q => V.ref q.1) t _ (asc_of ?_ ?_) (fun d => ?_) (sm.trans (same_upd nt)) (sm.free nt) upd_same ?_
        · refine List.pairwise_map.mpr (List.Pairwise.imp_of_mem (fun {x y} hx hy hne e => hne ?_) (List.pairwise_map.mp n1))
          rw [← back x hx, ← back y hy, e]
        · exact List.pairwise_map.mpr w1
        · constructor
          · intro hd
            obtain ⟨q, hq, rfl⟩ := List.mem_map.mp hd
            exact (hl' q hq).1
          · intro hd
            have m1 : two d ∈ L.map (·.2) := pm.mem_iff.mpr (List.mem_map.mpr ⟨d, hd, rfl⟩)
            obtain ⟨q, hq, e⟩ := List.mem_map.mp m1
            refine List.mem_map.mpr ⟨q, p1.mem_iff.mpr hq, ?_⟩
            rw [e]
            rfl
        · have all : ∀ M : List (Addr × List Int), (∀ q ∈ M, H' q.1 = some (.tup [.int (pr2 q.2).1, .int (pr2 q.2).2])) → PL H' (M.map fun q => V.ref q.1) (M.map fun q => pr2 q.2) := by
            intro M
            induction M with
            | nil => intro _; exact Paired.nil
            | cons q M ih => intro h; exact Paired.cons ⟨q.1, rfl, h q List.mem_cons_self⟩ (ih fun z hz => h z (List.mem_cons_of_mem _ hz))
          exact (all L' fun q hq => (hl' q hq).2).kt (KT.new nt)
end

/-! ### the house as an object -/
def hf (r : Int) (l m : Addr) : List (Str × V) := putF "_near" (.ref m) (putF "_doors" (.ref l) (putF "rooms" (.int r) []))
theorem hn1 : ¬ (("rooms" : Str) = "_doors") := by decide +kernel
theorem hn2 : ¬ (("rooms" : Str) = "_near") := by decide +kernel
theorem hn3 : ¬ (("_doors" : Str) = "_near") := by decide +kernel
theorem hf_rooms (r : Int) (l m : Addr) : (hf r l m).lookup ("rooms" : Str) = some (.int r) := by
  unfold hf
  rw [lookup_putF, if_neg hn2, lookup_putF, if_neg hn1, lookup_putF, if_pos rfl]
theorem hf_doors (r : Int) (l m : Addr) : (hf r l m).lookup ("_doors" : Str) = some (.ref l) := by
  unfold hf
  rw [lookup_putF, if_neg hn3, lookup_putF, if_pos rfl]
theorem hf_near (r : Int) (l m : Addr) : (hf r l m).lookup ("_near" : Str) = some (.ref m) := by
  unfold hf
  rw [lookup_putF, if_pos rfl]
theorem hf_no (r : Int) (l m : Addr) {x : Str} (h1 : ¬ x = "_near") (h2 : ¬ x = "_doors") (h3 : ¬ x = "rooms") : (hf r l m).lookup x = none := by
  unfold hf
  rw [lookup_putF, if_neg h1, lookup_putF, if_neg h2, lookup_putF, if_neg h3]
  rfl
/-- the neighbours of room i by the doors D, in the order in which they are met -/
def nearF (i : Int) (D : List Pr) : List Int := D.filterMap fun d => if d.1 = i then some d.2 else if d.2 = i then some d.1 else none
/-- a house with these rooms and doors stands at p -/
structure HouseAt (C : Addr) (H : Hp) (p : Addr) (r : Nat) (D : List Pr) (own : List Addr) : Prop where
  ex : ∃ (dx l m : Addr) (ls : List V) (ns : List Addr), H p = some (.ins C dx (hf r l m)) ∧ H l = some (.lst ls) ∧ PL H ls D ∧ H m = some (.lst (ns.map V.ref)) ∧ ns.length = r ∧ (∀ i n, ns[i]? = some n → H n = some (.lst ((nearF (i : Nat) D).map V.int))) ∧ own = p :: l :: m :: ns
  ok : Drs r D
  r1 : 1 ≤ r
  r12 : r ≤ 12
theorem nearF_snoc (j : Int) (D : List Pr) (d : Pr) : nearF j (D ++ [d]) = nearF j D ++ (if d.1 = j then [d.2] else if d.2 = j then [d.1] else []) := by
  unfold nearF
  rw [List.filterMap_append]
  congr 1
  show List.filterMap _ [d] = _
  rw [List.filterMap_cons]
  by_cases h1 : d.1 = j
  · simp [h1]
  · by_cases h2 : d.2 = j
    · simp [h1, h2]
    · simp [h1, h2]
def mm2 (d : Pr) : Pr := (if d.2 < d.1 then d.2 else d.1, if d.2 > d.1 then d.2 else d.1)
section
variable {P : Program} {w : World} {K : PySem.W.Frag} {mg : Str → Option Value} {base : Heap}
theorem scHinit : FnScope ["self", "rooms", "doors", "a", "b", "_"] ["self", "rooms", "doors"] (defScope sHinit) := ⟨rfl, rfl, rfl, by decide +kernel, rfl, by decide +kernel, by decide +kernel⟩
def spHinit (C : Addr) : Sp := fun vs H Q _ => ∃ (p dx l : Addr) (r : Nat) (us : List V) (D E : List Pr), vs = [.ref p, .int r, .ref l] ∧ H p = some (.ins C dx []) ∧ H l = some (.lst us) ∧ PL H us D ∧ D.map mm2 = E ∧ E.Nodup ∧ (∀ d ∈ E, 0 ≤ d.1 ∧ d.1 < d.2 ∧ d.2 < r) ∧ 1 ≤ r ∧ r ≤ 12 ∧
  ∀ D' own H', (∀ d, d ∈ D' ↔ d ∈ E) → HouseAt C H' p r D' own → (∀ b o, H b = some o → b ≠ p → H' b = some o) → (∀ b ∈ own, b ≠ p → H b = none) → Q .non H'
theorem ok_hinit {f C fR fC : Addr} {fd fdR fdC : FuncData} (F : Fun K "__init__" "House.__init__" sHinit f fd) (T : Bi mg) (U : Hs K mg C) (d_check_room_count : Df P w K mg base "check_room_count" ["rooms"] 1 spRoom fR fdR)
    (d_checked_doors : Df P w K mg base "checked_doors" ["rooms", "doors"] 1 spChk fC fdC) : FnOk P w K mg base CX0 2 f fd ["self", "rooms", "doors"] (spHinit C) := by
  refine F.ok scHinit (fun vs H Q E h => ?_) (fun cdv A outer s H vs Q E hr h => ?_)
  · obtain ⟨p, dx, l, r, us, D, E, rfl, _⟩ := h
    rfl
  · obtain ⟨p, dx, l, r, us, D, E, rfl, hp, hl, pl, eE, nd, ok, hr1, hr12, q⟩ := h
    refine ⟨_, (pss_cons (ps_expr (pe_call d_check_room_count.ok (hr.mono (by decide)) (by rfl) d_check_room_count.at_ d_check_room_count.kp d_check_room_count.b .nil pass0 (pa_cons (pv 1) pa_nil)))
      (pss_cons (ps_fld (pv 0) (pv 1) rfl)
      (pss_cons (ps_fld (pv 0) (pe_call d_checked_doors.ok (hr.mono (by decide)) (by rfl) d_checked_doors.at_ d_checked_doors.kp d_checked_doors.b .nil pass0 (pa_cons (pv 1) (pa_cons (pe_lc (own := [("a", 3), ("b", 4)]) (g := gTup K 2 (gCons (gName 3) (gCons (gName 4) gNil))) (by rfl) scHinit.nd (pi_list (pv 2)) (blkOk_by (N := ["self", "rooms", "doors", "a", "b", "_"]) (sc := defScope sHinit) (by decide +kernel)) (fun _ _ _ _ _ => pg_tup rfl (pgs_cons (pg_name (i := 3) scHinit.nd rfl (Or.inl rfl)) (pgs_cons (pg_name (i := 4) scHinit.nd rfl (Or.inl rfl)) pgs_nil))) (fun _ _ _ _ _ => pts_nil) (fun _ _ _ _ _ => (pe_tup (pa_cons (pe_callB (call_min2 rfl) (by rfl) T.min (by decide +kernel) (pa_cons (pv 3) (pa_cons (pv 4) pa_nil))) (pa_cons (pe_callB (call_max2 rfl) (by rfl) T.max (by decide +kernel) (pa_cons (pv 3) (pa_cons (pv 4) pa_nil))) pa_nil))))) pa_nil))) rfl)
      (pss_cons (ps_fld (pv 0) (pe_lc (own := [("_", 5)]) (by rfl) scHinit.nd (pi_range1 (by rfl) T.range (pa_cons (pv 1) pa_nil)) (blkOk_by (N := ["self", "rooms", "doors", "a", "b", "_"]) (sc := defScope sHinit) (by decide +kernel)) (fun _ _ _ _ _ => pg_name (i := 5) scHinit.nd rfl (Or.inl rfl)) (fun _ _ _ _ _ => pts_nil) (fun _ _ _ _ _ => (pe_lst pa_nil))) rfl)
      (pss_one (ps_for PassesOwn.never rfl (pi_list (pe_fld (pv 0) rfl)) (pg_tup rfl (pgs_cons (pg_name (i := 3) scHinit.nd rfl (Or.inl rfl)) (pgs_cons (pg_name (i := 4) scHinit.nd rfl (Or.inl rfl)) pgs_nil)))
      (pss_cons (ps_expr (pe_bm PySem.F.plainAttrs_list PySem.F.slot_list_append PySem.F.type_list_append mt_append (pe_ix ix_list (pe_fld (pv 0) rfl) (pv 3) (fun _ _ => rfl)) (pa_cons (pv 4) pa_nil)))
        (pss_one (ps_expr (pe_bm PySem.F.plainAttrs_list PySem.F.slot_list_append PySem.F.type_list_append mt_append (pe_ix ix_list (pe_fld (pv 0) rfl) (pv 4) (fun _ _ => rfl)) (pa_cons (pv 3) pa_nil))))))))))), ?_⟩
    walk_at "rd"
    refine ⟨r, rfl, by omega, by omega, ?_⟩
    have npl : l ≠ p := ne_of hl hp (by intro z; cases z)
    refine ⟨C, dx, [], hp, U.cl, U.nR, (by show 0 < 1000; decide), ?_⟩
    have hl1 : upd H p (HO.ins C dx (putF "rooms" (V.int r) [])) l = some (.lst us) := by rw [upd_ne npl]; exact hl
    have pl1 : PL (upd H p (HO.ins C dx (putF "rooms" (V.int r) []))) us D := pl.kt (KT.ch hp (fun _ z => by cases z))
    have hp1 : upd H p (HO.ins C dx (putF "rooms" (V.int r) [])) p = some (HO.ins C dx (putF "rooms" (V.int r) [])) := upd_same
    have old1 : ∀ b o, H b = some o → b ≠ p → upd H p (HO.ins C dx (putF "rooms" (V.int r) [])) b = some o := fun b o e h => by rw [upd_ne h]; exact e
    have free1 : ∀ b, upd H p (HO.ins C dx (putF "rooms" (V.int r) [])) b = none → H b = none ∧ b ≠ p := fun b e => by
      have h : b ≠ p := fun z => by
        rw [z, upd_same] at e
        cases e
      rw [upd_ne h] at e
      exact ⟨e, h⟩
    generalize upd H p (HO.ins C dx (putF "rooms" (V.int r) [])) = H1 at hl1 pl1 hp1 old1 free1
    have dlen : D.length ≤ 66 := by
      have e := drs_len' hr12 nd ok
      rw [← eE, List.length_map] at e
      exact e
    have ul : us.length = D.length := pl.len
    -- [(min(a, b), max(a, b)) for a, b in doors]
    refine ⟨_, rfl, l, rfl, ⟨_, SqL.of hl1⟩, fun c nc => ?_⟩
    obtain ⟨Pv, hPv⟩ : ∃ Pv : Nat → Hp → Prop, Pv = (fun i H' => ∃ ws, Same H1 H' ∧ H' c = some (.lst ws) ∧ PL H' ws ((D.take i).map mm2)) := ⟨_, rfl⟩
    refine lc_list (K := K) (a := l) (xs := us) Pv (by rw [hPv]; exact ⟨[], same_upd nc, upd_same, PL.nil0 _⟩) (fun i H' _ pv => by rw [hPv] at pv; obtain ⟨_, sm, _⟩ := pv; exact SqL.of (sm _ _ hl1)) (fun i v H' gv pv => ?_) (fun H' pv => ?_)
    · have nxt : ∀ ws H', Same H1 H' → H' c = some (.lst ws) → PL H' ws ((D.take (i + 1)).map mm2) → Pv (i + 1) H' := fun ws H' h1 h2 h3 => by
        rw [hPv]
        exact ⟨ws, h1, h2, h3⟩
      rw [hPv] at pv
      obtain ⟨ws, sm, hc, pw⟩ := pv
      obtain ⟨d, gd, td, rfl, htd⟩ := pl1.get gv
      have hid : i < D.length := (List.getElem?_eq_some_iff.mp gd).1
      have htd1 := sm _ _ htd
      have lw : ws.length ≤ 66 := by
        rw [pw.len, List.length_map, List.length_take]
        omega
      simp only [wipe]
      walk_at "rd"
      refine ⟨_, SqT.of htd1, rfl, _, _, rfl, _, _, rfl, rfl, ?_⟩
      walk_at "rd"
      refine ⟨(by show 2 ≤ sizeLine; decide), fun t nt => ?_⟩
      have nct : c ≠ t := ne_of_none hc nt
      refine ⟨ws, by rw [upd_ne nct]; exact hc, len_big (by omega), nxt (ws ++ [.ref t]) _ (same_ch (sm.trans (same_upd nt)) nc) upd_same ?_⟩
      rw [List.take_add_one, gd, List.map_append]
      refine PL.snoc ((pw.kt (KT.new nt)).kt (KT.lst (by rw [upd_ne nct]; exact hc))) ⟨t, rfl, ?_⟩
      rw [upd_ne nct.symm, upd_same]
      rfl
    · rw [hPv] at pv
      obtain ⟨ws, s2, hc, pw⟩ := pv
      rw [ul, List.take_length, eE] at pw
      -- checked_doors
      refine ⟨r, c, ws, E, rfl, hc, pw, nd, ok, hr12, fun D' ls q0 H2 asc mem s3 nq hq pq => ?_⟩
      have s13 : Same H1 H2 := s2.trans s3
      have hp2 := s13 _ _ hp1
      have nqp : q0 ≠ p := ne_of hq hp2 (by intro z; cases z)
      refine ⟨C, dx, _, hp2, U.cl, U.nD, (by show 1 < 1000; decide), ?_⟩
      have hq3 : upd H2 p (HO.ins C dx (putF "_doors" (V.ref q0) (putF "rooms" (V.int r) []))) q0 = some (.lst ls) := by rw [upd_ne nqp]; exact hq
      have hp3 : upd H2 p (HO.ins C dx (putF "_doors" (V.ref q0) (putF "rooms" (V.int r) []))) p = some (HO.ins C dx (putF "_doors" (V.ref q0) (putF "rooms" (V.int r) []))) := upd_same
      have pq3 : PL (upd H2 p (HO.ins C dx (putF "_doors" (V.ref q0) (putF "rooms" (V.int r) [])))) ls D' := pq.kt (KT.ch hp2 (fun _ z => by cases z))
      have old3 : ∀ b o, H b = some o → b ≠ p → upd H2 p (HO.ins C dx (putF "_doors" (V.ref q0) (putF "rooms" (V.int r) []))) b = some o := fun b o e h => by
        rw [upd_ne h]
        exact s13 _ _ (old1 b o e h)
      have free3 : ∀ b, upd H2 p (HO.ins C dx (putF "_doors" (V.ref q0) (putF "rooms" (V.int r) []))) b = none → H b = none ∧ b ≠ p := fun b e => by
        have h : b ≠ p := fun z => by
          rw [z, upd_same] at e
          cases e
        rw [upd_ne h] at e
        exact free1 b (s13.free e)
      have fq : H q0 = none := (free1 q0 (s2.free nq)).1
      generalize upd H2 p (HO.ins C dx (putF "_doors" (V.ref q0) (putF "rooms" (V.int r) []))) = H3 at hq3 hp3 pq3 old3 free3
      -- [[] for _ in range(rooms)]
      refine ⟨_, rfl, r, rfl, by omega, by omega, fun m nm => ?_⟩
      obtain ⟨Pv, hPv⟩ : ∃ Pv : Nat → Hp → Prop, Pv = (fun i H' => ∃ ns : List Addr, Same H3 H' ∧ H' m = some (.lst (ns.map V.ref)) ∧ ns.length = i ∧ ns.Nodup ∧ (∀ n ∈ ns, H' n = some (.lst []) ∧ H3 n = none ∧ n ≠ m)) := ⟨_, rfl⟩
      refine lc_range (lo := 0) (n := ((r : Nat) : Int).toNat) Pv (by rw [hPv]; exact ⟨[], same_upd nm, upd_same, rfl, List.nodup_nil, fun n hn => by cases hn⟩) (fun i H' hi pv => ?_) (fun H' pv => ?_)
      · have nxt : ∀ (ns : List Addr) H', Same H3 H' → H' m = some (.lst (ns.map V.ref)) → ns.length = i + 1 → ns.Nodup → (∀ n ∈ ns, H' n = some (.lst []) ∧ H3 n = none ∧ n ≠ m) → Pv (i + 1) H' := fun ns H' h1 h2 h3 h4 h5 => by
          rw [hPv]
          exact ⟨ns, h1, h2, h3, h4, h5⟩
        rw [hPv] at pv
        obtain ⟨ns, sm, hm, ln, nn, hn⟩ := pv
        simp only [wipe]
        walk_at "rd"
        refine ⟨by decide, fun e ne => ?_⟩
        have nem : m ≠ e := ne_of_none hm ne
        refine ⟨ns.map V.ref, by rw [upd_ne nem]; exact hm, len_big (by rw [List.length_map]; omega), nxt (ns ++ [e]) _ (same_ch (sm.trans (same_upd ne)) nm) (by rw [upd_same, List.map_append]; rfl) (by rw [List.length_append, ln]; rfl) ?_ fun n hn2 => ?_⟩
        · refine List.nodup_append.mpr ⟨nn, by simp, fun a ha b hb => ?_⟩
          rw [List.mem_singleton.mp hb]
          exact ne_of_none (hn a ha).1 ne
        · rcases List.mem_append.mp hn2 with h | h
          · obtain ⟨h1, h2, h3⟩ := hn n h
            refine ⟨?_, h2, h3⟩
            rw [upd_ne h3, upd_ne (ne_of_none h1 ne)]
            exact h1
          · rw [List.mem_singleton.mp h]
            refine ⟨?_, sm.free ne, nem.symm⟩
            rw [upd_ne nem.symm, upd_same]
      · rw [hPv] at pv
        obtain ⟨ns, s4, hm, ln, nn, hn⟩ := pv
        have hp4 := s4 _ _ hp3
        have nmp : m ≠ p := (ne_of_none hp3 nm).symm
        refine ⟨C, dx, _, hp4, U.cl, U.nN, (by show 2 < 1000; decide), ?_⟩
        have ehf : putF "_near" (V.ref m) (putF "_doors" (V.ref q0) (putF "rooms" (V.int r) [])) = hf r q0 m := rfl
        rw [ehf]
        have npn : ∀ n ∈ ns, n ≠ p := fun n h => (ne_of_none hp3 (hn n h).2.1).symm
        have nqn : ∀ n ∈ ns, n ≠ q0 := fun n h => (ne_of_none hq3 (hn n h).2.1).symm
        have hp5 : upd H' p (HO.ins C dx (hf r q0 m)) p = some (HO.ins C dx (hf r q0 m)) := upd_same
        have hq5 : upd H' p (HO.ins C dx (hf r q0 m)) q0 = some (.lst ls) := by rw [upd_ne nqp]; exact s4 _ _ hq3
        have hm5 : upd H' p (HO.ins C dx (hf r q0 m)) m = some (.lst (ns.map V.ref)) := by rw [upd_ne nmp]; exact hm
        have hn5 : ∀ n ∈ ns, upd H' p (HO.ins C dx (hf r q0 m)) n = some (.lst []) := fun n h => by rw [upd_ne (npn n h)]; exact (hn n h).1
        have pq5 : PL (upd H' p (HO.ins C dx (hf r q0 m))) ls D' := (pq3.kt (KT.same s4)).kt (KT.ch hp4 (fun _ z => by cases z))
        have old5 : ∀ b o, H b = some o → b ≠ p → upd H' p (HO.ins C dx (hf r q0 m)) b = some o := fun b o e h => by
          rw [upd_ne h]
          exact s4 _ _ (old3 b o e h)
        have fm : H m = none := (free3 m nm).1
        have fn : ∀ n ∈ ns, H n = none := fun n h => (free3 n (hn n h).2.1).1
        have nmn : ∀ n ∈ ns, n ≠ m := fun n h => (hn n h).2.2
        generalize upd H' p (HO.ins C dx (hf r q0 m)) = H5 at hp5 hq5 hm5 hn5 pq5 old5
        have drs : Drs r D' := ⟨asc, fun d hd => ok d ((mem d).mp hd)⟩
        have dl : D'.length ≤ 66 := drs.len hr12
        have ll : ls.length = D'.length := pq.len
        -- the rooms' neighbours
        obtain ⟨Pw, hPw⟩ : ∃ Pw : Nat → L2.St → Hp → Prop, Pw = (fun i σ H' => ∃ v3 v4 : Option V, σ = [some (.ref p), some (.int r), some (.ref l), v3, v4, none] ∧ (∀ b o, H5 b = some o → b ∉ ns → H' b = some o) ∧ (∀ (j : Nat) n, ns[j]? = some n → H' n = some (.lst ((nearF (j : Nat) (D'.take i)).map V.int)))) := ⟨_, rfl⟩
        refine ⟨_, rfl, p, C, dx, _, .ref q0, rfl, hp5, U.cl, U.nD, hf_doors _ _ _, q0, rfl, ⟨_, SqL.of hq5⟩, for_list (K := K) (a := q0) (xs := ls) Pw (by rw [hPw]; exact ⟨none, none, rfl, fun b o e _ => e, fun j n g => hn5 n (List.mem_of_getElem? g)⟩) (fun i σ H' _ pv => ?_) (fun i v σ H' gv pv => ?_) (fun σ H' pv => ?_)⟩
        · rw [hPw] at pv
          obtain ⟨_, _, _, k1, _⟩ := pv
          exact SqL.of (k1 _ _ hq5 fun z => nqn _ z rfl)
        · have nxt : ∀ v3 v4 H', (∀ b o, H5 b = some o → b ∉ ns → H' b = some o) → (∀ (j : Nat) n, ns[j]? = some n → H' n = some (.lst ((nearF (j : Nat) (D'.take (i + 1))).map V.int))) → Pw (i + 1) [some (.ref p), some (.int r), some (.ref l), v3, v4, none] H' := fun v3 v4 H' h1 h2 => by
            rw [hPw]
            exact ⟨v3, v4, rfl, h1, h2⟩
          rw [hPw] at pv
          obtain ⟨v3, v4, rfl, k1, k2⟩ := pv
          obtain ⟨d, gd, td, rfl, htd⟩ := pq5.get gv
          have okd := drs.ok d (List.mem_of_getElem? gd)
          have htd1 : H' td = some (.tup [.int d.1, .int d.2]) := k1 _ _ htd fun z => by
            have e := hn5 td z
            rw [htd] at e
            cases e
          obtain ⟨ja, eja⟩ : ∃ ja : Nat, d.1 = ja := ⟨d.1.toNat, by omega⟩
          obtain ⟨jb, ejb⟩ : ∃ jb : Nat, d.2 = jb := ⟨d.2.toNat, by omega⟩
          obtain ⟨na, gna⟩ : ∃ n, ns[ja]? = some n := ⟨_, List.getElem?_eq_getElem (by omega)⟩
          obtain ⟨nb, gnb⟩ : ∃ n, ns[jb]? = some n := ⟨_, List.getElem?_eq_getElem (by omega)⟩
          have nab : na ≠ nb := fun z => by
            rw [← z] at gnb
            have := nd_ix nn gna gnb
            omega
          have mna := List.mem_of_getElem? gna
          have mnb := List.mem_of_getElem? gnb
          have hp6 := k1 _ _ hp5 fun z => npn _ z rfl
          have hm6 := k1 _ _ hm5 fun z => nmn _ z rfl
          have short : ∀ j : Int, (nearF j (D'.take i)).length ≤ 66 := fun j => by
            have := List.length_filterMap_le (fun d : Pr => if d.1 = j then some d.2 else if d.2 = j then some d.1 else none) (D'.take i)
            rw [List.length_take] at this
            show (List.filterMap _ _).length ≤ 66
            omega
          have ga := k2 ja na gna
          have gb := k2 jb nb gnb
          walk_at "rd"
          refine ⟨_, SqT.of htd1, rfl, _, _, rfl, _, _, rfl, rfl, ?_⟩
          walk_at "rd"
          have npa : p ≠ na := fun z => npn na mna z.symm
          have nma : m ≠ na := fun z => nmn na mna z.symm
          have big : ∀ j : Int, ((nearF j (D'.take i)).map V.int).length < sizeLine := fun j => len_big (by rw [List.length_map]; have := short j; omega)
          refine ⟨C, dx, _, hp6, U.cl, U.nN, .ref m, hf_near _ _ _, m, rfl, _, SqL.of hm6, .ref na, at_of (j := ja) eja (by rw [List.getElem?_map, gna]; rfl), .inl ⟨rfl, _, SqL.of ga⟩, na, rfl, _, ga, big _, ?_⟩
          refine ⟨C, dx, _, by rw [upd_ne npa]; exact hp6, U.cl, U.nN, .ref m, hf_near _ _ _, m, rfl, _, SqL.of (by rw [upd_ne nma]; exact hm6), .ref nb, at_of (j := jb) ejb (by rw [List.getElem?_map, gnb]; rfl), ?_⟩
          have gb2 : upd H' na (HO.lst ((nearF (ja : Nat) (D'.take i)).map V.int ++ [V.int d.2])) nb = some (.lst ((nearF (jb : Nat) (D'.take i)).map V.int)) := by rw [upd_ne nab.symm]; exact gb
          refine ⟨.inl ⟨rfl, _, SqL.of gb2⟩, nb, rfl, _, gb2, big _, ?_⟩
          refine nxt _ _ _ (fun b o e h => ?_) (fun j n gn => ?_)
          · rw [upd_ne (show b ≠ nb from fun z => h (by rw [z]; exact mnb)), upd_ne (show b ≠ na from fun z => h (by rw [z]; exact mna))]
            exact k1 b o e h
          · rw [List.take_add_one, gd]
            show _ = some (HO.lst ((nearF (j : Nat) (D'.take i ++ [d])).map V.int))
            rw [nearF_snoc]
            by_cases e1 : n = nb
            · subst e1
              have ej := nd_ix nn gn gnb
              subst ej
              rw [upd_same, if_neg (by omega), if_pos ejb, List.map_append, eja]
              rfl
            · rw [upd_ne e1]
              by_cases e2 : n = na
              · subst e2
                have ej := nd_ix nn gn gna
                subst ej
                rw [upd_same, if_pos eja, List.map_append]
                rfl
              · have j1 : ¬ d.1 = (j : Int) := fun z => e2 (by
                  have ej : j = ja := by omega
                  rw [ej, gna] at gn
                  exact (Option.some.inj gn).symm)
                have j2 : ¬ d.2 = (j : Int) := fun z => e1 (by
                  have ej : j = jb := by omega
                  rw [ej, gnb] at gn
                  exact (Option.some.inj gn).symm)
                rw [upd_ne e2, if_neg j1, if_neg j2, List.append_nil]
                exact k2 j n gn
        · rw [hPw] at pv
          obtain ⟨v3, v4, rfl, k1, k2⟩ := pv
          rw [ll, List.take_length] at k2
          refine q D' (p :: q0 :: m :: ns) H' mem ⟨⟨dx, q0, m, ls, ns, k1 _ _ hp5 fun z => npn _ z rfl, k1 _ _ hq5 fun z => nqn _ z rfl, ?_, k1 _ _ hm5 fun z => nmn _ z rfl, by omega, k2, rfl⟩, drs, hr1, hr12⟩ (fun b o e h => ?_) fun b hb h => ?_
          · refine Paired.mapP pq5 fun v d ⟨t, e, ht⟩ => ⟨t, e, k1 _ _ ht fun z => ?_⟩
            have e2 := hn5 t z
            rw [ht] at e2
            cases e2
          · refine k1 _ _ (old5 b o e h) fun z => ?_
            rw [fn b z] at e
            cases e
          · rcases List.mem_cons.mp hb with z | hb
            · exact absurd z h
            · rcases List.mem_cons.mp hb with z | hb
              · rw [z]; exact fq
              · rcases List.mem_cons.mp hb with z | hb
                · rw [z]; exact fm
                · exact fn b hb
end

theorem HouseAt.keep {C : Addr} {H H' : Hp} {p : Addr} {r : Nat} {D : List Pr} {own : List Addr} (h : HouseAt C H p r D own) (k : ∀ b o, b ∈ own → H b = some o → H' b = some o) (kt : KT H H') : HouseAt C H' p r D own := by
  obtain ⟨dx, l, m, ls, ns, h1, h2, h3, h4, h5, h6, rfl⟩ := h.ex
  refine ⟨⟨dx, l, m, ls, ns, k _ _ List.mem_cons_self h1, k _ _ (by simp) h2, h3.kt kt, k _ _ (by simp) h4, h5, fun i n g => k _ _ (by have := List.mem_of_getElem? g; simp [this]) (h6 i n g), rfl⟩, h.ok, h.r1, h.r12⟩
theorem HouseAt.same {C : Addr} {H H' : Hp} {p : Addr} {r : Nat} {D : List Pr} {own : List Addr} (h : HouseAt C H p r D own) (s : Same H H') : HouseAt C H' p r D own := h.keep (fun b o _ e => s b o e) (KT.same s)
theorem HouseAt.stands {C : Addr} {H : Hp} {p : Addr} {r : Nat} {D : List Pr} {own : List Addr} (h : HouseAt C H p r D own) : ∀ b ∈ own, ∃ o, H b = some o := by
  obtain ⟨dx, l, m, ls, ns, h1, h2, h3, h4, h5, h6, rfl⟩ := h.ex
  intro b hb
  rcases List.mem_cons.mp hb with z | hb
  · exact ⟨_, by rw [z]; exact h1⟩
  · rcases List.mem_cons.mp hb with z | hb
    · exact ⟨_, by rw [z]; exact h2⟩
    · rcases List.mem_cons.mp hb with z | hb
      · exact ⟨_, by rw [z]; exact h4⟩
      · obtain ⟨i, g⟩ := List.getElem?_of_mem hb
        exact ⟨_, h6 i b g⟩
section
variable {P : Program} {w : World} {K : PySem.W.Frag} {mg : Str → Option Value} {base : Heap}
theorem scHdoors : FnScope ["self"] ["self"] (defScope sHdoors) := ⟨rfl, rfl, rfl, by decide +kernel, rfl, by decide +kernel, by decide +kernel⟩
def spHdoors (C : Addr) : Sp := fun vs H Q _ => ∃ (p : Addr) (r : Nat) (D : List Pr) (own : List Addr), vs = [.ref p] ∧ HouseAt C H p r D own ∧ ∀ ls q, PL H ls D → H q = none → Q (.ref q) (upd H q (.lst ls))
theorem ok_hdoors {f C : Addr} {fd : FuncData} (F : Fun K "doors" "House.doors" sHdoors f fd) (T : Bi mg) (U : Hs K mg C) : FnOk P w K mg base CX0 1 f fd ["self"] (spHdoors C) := by
  refine F.ok scHdoors (fun vs H Q E h => ?_) (fun cdv A outer s H vs Q E hr h => ?_)
  · obtain ⟨p, r, D, own, rfl, _⟩ := h
    rfl
  · obtain ⟨p, r, D, own, rfl, hh, q⟩ := h
    obtain ⟨dx, l, m, ls, ns, h1, h2, h3, h4, h5, h6, rfl⟩ := hh.ex
    refine ⟨_, (pss_one (ps_ret (pe_callTy call_list_of (by rfl) T.list (by decide +kernel) (pa_cons (pe_fld (pv 0) rfl) pa_nil)))), ?_⟩
    walk_at "rd"
    exact ⟨C, dx, _, h1, U.cl, U.nD, .ref l, hf_doors _ _ _, l, rfl, _, .inl (SqL.of h2), fun t nt => q ls t h3 nt⟩
theorem scHnear : FnScope ["self", "room"] ["self", "room"] (defScope sHnear) := ⟨rfl, rfl, rfl, by decide +kernel, rfl, by decide +kernel, by decide +kernel⟩
def spHnear (C : Addr) : Sp := fun vs H Q _ => ∃ (p : Addr) (r : Nat) (D : List Pr) (own : List Addr) (i : Nat), vs = [.ref p, .int i] ∧ HouseAt C H p r D own ∧ i < r ∧ ∀ q, H q = none → Q (.ref q) (upd H q (.lst ((nearF (i : Nat) D).map V.int)))
theorem ok_hnear {f C : Addr} {fd : FuncData} (F : Fun K "neighbours" "House.neighbours" sHnear f fd) (T : Bi mg) (U : Hs K mg C) : FnOk P w K mg base CX0 1 f fd ["self", "room"] (spHnear C) := by
  refine F.ok scHnear (fun vs H Q E h => ?_) (fun cdv A outer s H vs Q E hr h => ?_)
  · obtain ⟨p, r, D, own, i, rfl, _⟩ := h
    rfl
  · obtain ⟨p, r, D, own, i, rfl, hh, hi, q⟩ := h
    obtain ⟨dx, l, m, ls, ns, h1, h2, h3, h4, h5, h6, rfl⟩ := hh.ex
    obtain ⟨n, gn⟩ : ∃ n, ns[i]? = some n := ⟨_, List.getElem?_eq_getElem (by omega)⟩
    refine ⟨_, (pss_one (ps_ret (pe_callTy call_list_of (by rfl) T.list (by decide +kernel) (pa_cons (pe_ix ix_list (pe_fld (pv 0) rfl) (pv 1) (fun _ _ => rfl)) pa_nil)))), ?_⟩
    walk_at "rd"
    refine ⟨C, dx, _, h1, U.cl, U.nN, .ref m, hf_near _ _ _, m, rfl, _, SqL.of h4, .ref n, atI_nat (by rw [List.getElem?_map, gn]; rfl), n, rfl, _, .inl (SqL.of (h6 i n gn)), fun t nt => q t nt⟩
end

/-! ### pieces of a house -/
def Adj (D : List Pr) (a b : Int) : Prop := (a, b) ∈ D ∨ (b, a) ∈ D
theorem mem_nearF {D : List Pr} {a b : Int} (ok : ∀ d ∈ D, d.1 < d.2) : b ∈ nearF a D ↔ Adj D a b := by
  unfold nearF Adj
  rw [List.mem_filterMap]
  constructor
  · rintro ⟨d, hd, e⟩
    by_cases h1 : d.1 = a
    · rw [if_pos h1] at e
      have e := Option.some.inj e
      subst h1
      subst e
      exact .inl hd
    · rw [if_neg h1] at e
      by_cases h2 : d.2 = a
      · rw [if_pos h2] at e
        have e := Option.some.inj e
        subst h2
        subst e
        exact .inr hd
      · rw [if_neg h2] at e
        cases e
  · rintro (h | h)
    · exact ⟨_, h, if_pos rfl⟩
    · have := ok _ h
      refine ⟨_, h, ?_⟩
      rw [if_neg (by simp only at this ⊢; omega), if_pos rfl]
inductive Rch (D : List Pr) (R : List Int) (s : Int) : Int → Prop
  | base : s ∈ R → Rch D R s s
  | step {a b : Int} : Rch D R s a → Adj D a b → b ∈ R → Rch D R s b
theorem Rch.mem {D : List Pr} {R : List Int} {s x : Int} (h : Rch D R s x) : x ∈ R := by
  cases h with
  | base h => exact h
  | step _ _ h => exact h
theorem Rch.start {D : List Pr} {R : List Int} {s x : Int} (h : Rch D R s x) : s ∈ R := by
  induction h with
  | base h => exact h
  | step _ _ _ ih => exact ih
theorem Rch.trans {D : List Pr} {R : List Int} {s x y : Int} (h : Rch D R s x) (k : Rch D R x y) : Rch D R s y := by
  induction k with
  | base _ => exact h
  | step _ a b ih => exact ih.step a b
theorem Rch.symm {D : List Pr} {R : List Int} {s x : Int} (h : Rch D R s x) : Rch D R x s := by
  induction h with
  | base h => exact .base h
  | step k a b ih => exact Rch.trans (.step (.base b) a.symm k.mem) ih
theorem Rch.mono {D : List Pr} {R R' : List Int} {s x : Int} (h : Rch D R s x) (m : ∀ x, x ∈ R → x ∈ R') : Rch D R' s x := by
  induction h with
  | base h => exact .base (m _ h)
  | step _ a b ih => exact ih.step a (m _ b)
theorem pw_uniq {α : Type} {r : α → α → Prop} (asy : ∀ a b, r a b → r b a → False) : ∀ {D E : List α}, D.Pairwise r → E.Pairwise r → (∀ p, p ∈ D ↔ p ∈ E) → D = E
  | [], [], _, _, _ => rfl
  | [], q :: E, _, _, h => by
    have := (h q).mpr List.mem_cons_self
    cases this
  | p :: D, [], _, _, h => by
    have := (h p).mp List.mem_cons_self
    cases this
  | p :: D, q :: E, hD, hE, h => by
    obtain ⟨a1, a2⟩ := List.pairwise_cons.mp hD
    obtain ⟨b1, b2⟩ := List.pairwise_cons.mp hE
    have e : p = q := by
      rcases List.mem_cons.mp ((h p).mp List.mem_cons_self) with e | hp
      · exact e
      · rcases List.mem_cons.mp ((h q).mpr List.mem_cons_self) with e | hq
        · exact e.symm
        · exact (asy _ _ (b1 p hp) (a1 q hq)).elim
    subst e
    rw [pw_uniq asy a2 b2 fun z => ?_]
    constructor
    · intro hz
      rcases List.mem_cons.mp ((h z).mp (List.mem_cons_of_mem _ hz)) with e | m
      · subst e
        exact (asy _ _ (a1 z hz) (a1 z hz)).elim
      · exact m
    · intro hz
      rcases List.mem_cons.mp ((h z).mpr (List.mem_cons_of_mem _ hz)) with e | m
      · subst e
        exact (asy _ _ (b1 z hz) (b1 z hz)).elim
      · exact m
def Up (ys : List Int) : Prop := ys.Pairwise (· < ·)
theorem up_uniq {ys zs : List Int} (h1 : Up ys) (h2 : Up zs) (h : ∀ x, x ∈ ys ↔ x ∈ zs) : ys = zs := pw_uniq (fun a b h1 h2 => by omega) h1 h2 h
def hdI : List Int → Int
  | [] => 0
  | x :: _ => x
theorem hdI_mem {ys : List Int} {x : Int} (h : x ∈ ys) : hdI ys ∈ ys := by
  cases ys with
  | nil => cases h
  | cons y ys => exact List.mem_cons_self
theorem hdI_le {ys : List Int} {x : Int} (u : Up ys) (h : x ∈ ys) : hdI ys ≤ x := by
  cases ys with
  | nil => cases h
  | cons y ys =>
    rcases List.mem_cons.mp h with e | m
    · rw [e]; exact Int.le_refl _
    · exact Int.le_of_lt ((List.pairwise_cons.mp u).1 x m)
/-- the piece of s among the rooms R -/
def Pc (D : List Pr) (R : List Int) (s : Int) (ys : List Int) : Prop := Up ys ∧ ∀ x, x ∈ ys ↔ Rch D R s x
/-- all pieces of the rooms R, by their least rooms -/
structure Pcs (D : List Pr) (R : List Int) (P : List (List Int)) : Prop where
  pc : ∀ ys ∈ P, ∃ s ∈ R, Pc D R s ys
  cov : ∀ s ∈ R, ∃ ys ∈ P, s ∈ ys
  asc : P.Pairwise fun a b => hdI a < hdI b
theorem Pc.of {D : List Pr} {R : List Int} {s t : Int} {ys : List Int} (h : Pc D R s ys) (m : t ∈ ys) : Pc D R t ys :=
  ⟨h.1, fun x => ⟨fun hx => (((h.2 t).mp m).symm).trans ((h.2 x).mp hx), fun hx => (h.2 x).mpr (((h.2 t).mp m).trans hx)⟩⟩
theorem Pc.congr {D : List Pr} {R R' : List Int} {s : Int} {ys : List Int} (h : Pc D R s ys) (e : ∀ x, x ∈ R ↔ x ∈ R') : Pc D R' s ys :=
  ⟨h.1, fun x => (h.2 x).trans ⟨fun z => z.mono fun x => (e x).mp, fun z => z.mono fun x => (e x).mpr⟩⟩
theorem Pc.uniq {D : List Pr} {R : List Int} {s : Int} {ys zs : List Int} (h : Pc D R s ys) (k : Pc D R s zs) : ys = zs := up_uniq h.1 k.1 fun x => (h.2 x).trans (k.2 x).symm
theorem Pc.self {D : List Pr} {R : List Int} {s : Int} {ys : List Int} (h : Pc D R s ys) (m : s ∈ R) : s ∈ ys := (h.2 s).mpr (.base m)
theorem Pcs.sub {D : List Pr} {R R' : List Int} {P P' : List (List Int)} (h : Pcs D R P) (k : Pcs D R' P') (e : ∀ x, x ∈ R ↔ x ∈ R') {ys : List Int} (m : ys ∈ P) : ys ∈ P' := by
  obtain ⟨s, hs, hc⟩ := h.pc ys m
  obtain ⟨zs, hz, sz⟩ := k.cov s ((e s).mp hs)
  obtain ⟨t, ht, hk⟩ := k.pc zs hz
  rw [(hc.congr e).uniq (hk.of sz)]
  exact hz
theorem Pcs.uniq {D : List Pr} {R R' : List Int} {P P' : List (List Int)} (h : Pcs D R P) (k : Pcs D R' P') (e : ∀ x, x ∈ R ↔ x ∈ R') : P = P' :=
  pw_uniq (fun a b h1 h2 => by omega) h.asc k.asc fun ys => ⟨fun m => h.sub k e m, fun m => k.sub h (fun x => (e x).symm) m⟩
theorem Pcs.nil (D : List Pr) : Pcs D [] [] := ⟨fun ys m => (by cases m), fun s m => (by cases m), List.Pairwise.nil⟩
/-- a piece is one piece -/
theorem Pc.one {D : List Pr} {R R' : List Int} {s : Int} {ys : List Int} (h : Pc D R s ys) (m : s ∈ R) (e : ∀ x, x ∈ R' ↔ x ∈ ys) : Pcs D R' [ys] := by
  have key : ∀ x, Rch D R s x → Rch D R' s x := fun x k => by
    induction k with
    | base k => exact .base ((e s).mpr (h.self m))
    | step k a b ih => exact ih.step a ((e _).mpr ((h.2 _).mpr (k.step a b)))
  refine ⟨fun zs hz => ?_, fun t ht => ⟨ys, List.mem_cons_self, (e t).mp ht⟩, List.pairwise_singleton _ _⟩
  rw [List.mem_singleton.mp hz]
  exact ⟨s, (e s).mpr (h.self m), h.1, fun x => ⟨fun hx => key x ((h.2 x).mp hx), fun hx => (e x).mp hx.mem⟩⟩
/-- two pieces are not one -/
theorem Pc.two {D : List Pr} {R R' : List Int} {s t : Int} {ys zs : List Int} {P : List (List Int)} (h : Pc D R s ys) (k : Pc D R t zs) (hs : s ∈ R) (ht : t ∈ R) (ne : ys ≠ zs) (e : ∀ x, x ∈ R' ↔ x ∈ ys ∨ x ∈ zs) (p : Pcs D R' P) : P.length ≠ 1 := by
  intro z
  obtain ⟨c, rfl⟩ : ∃ c, P = [c] := by
    cases P with
    | nil => cases z
    | cons c P =>
      cases P with
      | nil => exact ⟨c, rfl⟩
      | cons d P => exact absurd z (by rw [List.length_cons, List.length_cons]; omega)
  obtain ⟨c1, m1, s1⟩ := p.cov s ((e s).mpr (.inl (h.self hs)))
  obtain ⟨c2, m2, t2⟩ := p.cov t ((e t).mpr (.inr (k.self ht)))
  rw [List.mem_singleton.mp m1] at s1
  rw [List.mem_singleton.mp m2] at t2
  obtain ⟨u, hu, hc⟩ := p.pc c List.mem_cons_self
  have st : Rch D R' s t := (((hc.2 s).mp s1).symm).trans ((hc.2 t).mp t2)
  have st2 : Rch D R s t := st.mono fun x hx => by
    rcases (e x).mp hx with m | m
    · exact ((h.2 x).mp m).mem
    · exact ((k.2 x).mp m).mem
  exact ne ((h.of ((h.2 t).mpr st2)).uniq k)
/-! the program's way -/
structure PInv (D : List Pr) (R : List Int) (P : List (List Int)) (Lf : List Int) : Prop where
  pc : ∀ ys ∈ P, ∃ s ∈ R, Pc D R s ys
  lf : ∀ x, x ∈ Lf ↔ x ∈ R ∧ ∀ ys ∈ P, x ∉ ys
  asc : P.Pairwise fun a b => hdI a < hdI b
  lo : ∀ ys ∈ P, ∀ x ∈ Lf, hdI ys < x
  up : Lf.Pairwise (· ≤ ·)
theorem PInv.start {D : List Pr} {R Lf : List Int} (m : ∀ x, x ∈ Lf ↔ x ∈ R) (u : Lf.Pairwise (· ≤ ·)) : PInv D R [] Lf :=
  ⟨fun ys h => (by cases h), fun x => ⟨fun h => ⟨(m x).mp h, fun ys z => (by cases z)⟩, fun h => (m x).mpr h.1⟩, List.Pairwise.nil, fun ys h => (by cases h), u⟩
theorem PInv.done {D : List Pr} {R : List Int} {P : List (List Int)} (h : PInv D R P []) : Pcs D R P :=
  ⟨h.pc, fun s hs => Classical.byContradiction fun z => List.not_mem_nil ((h.lf s).mpr ⟨hs, fun ys hy m => z ⟨ys, hy, m⟩⟩), h.asc⟩
theorem PInv.rch {D : List Pr} {R : List Int} {P : List (List Int)} {Lf : List Int} (h : PInv D R P Lf) {s x : Int} : Rch D Lf s x ↔ s ∈ Lf ∧ Rch D R s x := by
  constructor
  · exact fun k => ⟨k.start, k.mono fun x hx => ((h.lf x).mp hx).1⟩
  · rintro ⟨m, k⟩
    induction k with
    | base _ => exact .base m
    | step k a b ih =>
      rename_i a' b'
      refine ih.step a ((h.lf _).mpr ⟨b, fun ys hy z => ?_⟩)
      obtain ⟨t, ht, hc⟩ := h.pc ys hy
      exact ((h.lf _).mp ih.mem).2 ys hy ((hc.2 _).mpr (((hc.2 _).mp z).step a.symm k.mem))
theorem PInv.step {D : List Pr} {R : List Int} {P : List (List Int)} {l0 : Int} {Lf ys : List Int} (h : PInv D R P (l0 :: Lf)) (k : Pc D (l0 :: Lf) l0 ys) : PInv D R (P ++ [ys]) ((l0 :: Lf).filter fun x => decide (x ∉ ys)) := by
  have m0 : l0 ∈ l0 :: Lf := List.mem_cons_self
  have r0 := ((h.lf l0).mp m0).1
  have kR : Pc D R l0 ys := ⟨k.1, fun x => (k.2 x).trans (h.rch.trans ⟨fun z => z.2, fun z => ⟨m0, z⟩⟩)⟩
  have hd : hdI ys = l0 := by
    have a1 := hdI_le k.1 (k.self m0)
    have a2 := ((k.2 _).mp (hdI_mem (k.self m0))).mem
    rcases List.mem_cons.mp a2 with e | e
    · exact e
    · have := (List.pairwise_cons.mp h.up).1 _ e
      omega
  refine ⟨fun zs hz => ?_, fun x => ?_, ?_, fun zs hz x hx => ?_, h.up.filter _⟩
  · rcases List.mem_append.mp hz with m | m
    · exact h.pc zs m
    · rw [List.mem_singleton.mp m]
      exact ⟨l0, r0, kR⟩
  · rw [List.mem_filter, h.lf x]
    constructor
    · rintro ⟨⟨h1, h2⟩, h3⟩
      refine ⟨h1, fun zs hz => ?_⟩
      rcases List.mem_append.mp hz with m | m
      · exact h2 zs m
      · rw [List.mem_singleton.mp m]
        exact of_decide_eq_true h3
    · rintro ⟨h1, h2⟩
      exact ⟨⟨h1, fun zs hz => h2 zs (List.mem_append_left _ hz)⟩, decide_eq_true (h2 ys (List.mem_append_right _ List.mem_cons_self))⟩
  · refine List.pairwise_append.mpr ⟨h.asc, List.pairwise_singleton _ _, fun a ha b hb => ?_⟩
    rw [List.mem_singleton.mp hb, hd]
    exact h.lo a ha l0 m0
  · obtain ⟨hx1, hx2⟩ := List.mem_filter.mp hx
    rcases List.mem_append.mp hz with m | m
    · exact h.lo zs m x hx1
    · rw [List.mem_singleton.mp m, hd]
      rcases List.mem_cons.mp hx1 with e | e
      · exact absurd (k.self m0) (by rw [← e]; exact of_decide_eq_true hx2)
      · have := (List.pairwise_cons.mp h.up).1 _ e
        have ne : x ≠ l0 := fun z => of_decide_eq_true hx2 (by rw [z]; exact k.self m0)
        omega
/-! the law's way -/
structure LInv (D : List Pr) (R S : List Int) (j : Nat) (P : List (List Int)) (dn : List Int) : Prop where
  pc : ∀ ys ∈ P, ∃ s ∈ R, Pc D R s ys
  dnm : ∀ x, x ∈ dn ↔ ∃ ys ∈ P, x ∈ ys
  asc : P.Pairwise fun a b => hdI a < hdI b
  seen : ∀ x ∈ S.take j, x ∈ dn
  hds : ∀ ys ∈ P, hdI ys ∈ S.take j
theorem LInv.start (D : List Pr) (R S : List Int) : LInv D R S 0 [] [] :=
  ⟨fun ys h => (by cases h), fun x => ⟨fun h => (by cases h), fun ⟨ys, h, _⟩ => (by cases h)⟩, List.Pairwise.nil, fun x h => (by rw [List.take_zero] at h; cases h), fun ys h => (by cases h)⟩
theorem LInv.skip {D : List Pr} {R S : List Int} {j : Nat} {P : List (List Int)} {dn : List Int} {x : Int} (h : LInv D R S j P dn) (g : S[j]? = some x) (m : x ∈ dn) : LInv D R S (j + 1) P dn := by
  refine ⟨h.pc, h.dnm, h.asc, fun y hy => ?_, fun ys hy => ?_⟩
  · rw [List.take_add_one, g] at hy
    rcases List.mem_append.mp hy with z | z
    · exact h.seen y z
    · rw [show y = x from List.mem_singleton.mp z]
      exact m
  · rw [List.take_add_one]
    exact List.mem_append_left _ (h.hds ys hy)
theorem LInv.step {D : List Pr} {R S : List Int} {j : Nat} {P : List (List Int)} {dn ys : List Int} {x : Int} (h : LInv D R S j P dn) (g : S[j]? = some x) (sm : ∀ x, x ∈ S ↔ x ∈ R) (su : S.Pairwise (· ≤ ·)) (m : x ∉ dn) (k : Pc D R x ys) : LInv D R S (j + 1) (P ++ [ys]) (dn ++ ys) := by
  have xR : x ∈ R := (sm x).mp (List.mem_of_getElem? g)
  have hj : j < S.length := (List.getElem?_eq_some_iff.mp g).1
  have split : S = S.take j ++ x :: S.drop (j + 1) := by
    have e := (List.take_append_drop j S).symm
    rw [List.drop_eq_getElem_cons hj] at e
    rw [List.getElem?_eq_getElem hj] at g
    rw [Option.some.inj g] at e
    exact e
  have su2 := su
  rw [split] at su2
  obtain ⟨_, sb, sc⟩ := List.pairwise_append.mp su2
  have hd : hdI ys = x := by
    have a1 := hdI_le k.1 (k.self xR)
    have a2 := (k.2 _).mp (hdI_mem (k.self xR))
    have a3 := (sm _).mpr a2.mem
    rw [split] at a3
    rcases List.mem_append.mp a3 with e | e
    · obtain ⟨zs, hz, mz⟩ := (h.dnm _).mp (h.seen _ e)
      obtain ⟨t, ht, hc⟩ := h.pc zs hz
      exact absurd ((h.dnm x).mpr ⟨zs, hz, (hc.2 x).mpr (((hc.2 _).mp mz).trans a2.symm)⟩) m
    · rcases List.mem_cons.mp e with e | e
      · exact e
      · have := (List.pairwise_cons.mp sb).1 _ e
        omega
  refine ⟨fun zs hz => ?_, fun y => ?_, ?_, fun y hy => ?_, fun zs hz => ?_⟩
  · rcases List.mem_append.mp hz with q | q
    · exact h.pc zs q
    · rw [List.mem_singleton.mp q]
      exact ⟨x, xR, k⟩
  · rw [List.mem_append, h.dnm y]
    constructor
    · rintro (⟨zs, hz, mz⟩ | z)
      · exact ⟨zs, List.mem_append_left _ hz, mz⟩
      · exact ⟨ys, List.mem_append_right _ List.mem_cons_self, z⟩
    · rintro ⟨zs, hz, mz⟩
      rcases List.mem_append.mp hz with q | q
      · exact .inl ⟨zs, q, mz⟩
      · rw [List.mem_singleton.mp q] at mz
        exact .inr mz
  · refine List.pairwise_append.mpr ⟨h.asc, List.pairwise_singleton _ _, fun a ha b hb => ?_⟩
    rw [List.mem_singleton.mp hb, hd]
    have m1 := h.hds a ha
    have le := sc _ m1 x List.mem_cons_self
    have ne : hdI a ≠ x := fun z => m (by rw [← z]; exact h.seen _ m1)
    omega
  · rw [List.take_add_one, g] at hy
    rcases List.mem_append.mp hy with z | z
    · exact List.mem_append_left _ (h.seen y z)
    · rw [show y = x from List.mem_singleton.mp z]
      exact List.mem_append_right _ (k.self xR)
  · rw [List.take_add_one, g]
    rcases List.mem_append.mp hz with q | q
    · exact List.mem_append_left _ (h.hds zs q)
    · rw [List.mem_singleton.mp q, hd]
      exact List.mem_append_right _ (by simp)
theorem LInv.fin {D : List Pr} {R S : List Int} {P : List (List Int)} {dn : List Int} (h : LInv D R S S.length P dn) (sm : ∀ x, x ∈ S ↔ x ∈ R) : Pcs D R P :=
  ⟨h.pc, fun s hs => (h.dnm s).mp (h.seen s (by rw [List.take_length]; exact (sm s).mpr hs)), h.asc⟩
/-! reaching by rounds -/
structure FInv (D : List Pr) (R : List Int) (s : Int) (F : List Int) : Prop where
  nd : F.Nodup
  rc : ∀ x ∈ F, Rch D R s x
  st : s ∈ R → s ∈ F
def Clo (D : List Pr) (R F : List Int) : Prop := ∀ a ∈ F, ∀ b ∈ R, Adj D a b → b ∈ F
theorem FInv.all {D : List Pr} {R F : List Int} {s : Int} (h : FInv D R s F) (c : Clo D R F) (x : Int) : x ∈ F ↔ Rch D R s x := by
  refine ⟨h.rc x, fun k => ?_⟩
  induction k with
  | base m => exact h.st m
  | step _ a b ih => exact c _ ih _ b a
theorem FInv.add {D : List Pr} {R F : List Int} {s a b : Int} (h : FInv D R s F) (ha : a ∈ F) (hb : b ∈ R) (ab : Adj D a b) (n : b ∉ F) : FInv D R s (F ++ [b]) := by
  refine ⟨?_, fun x hx => ?_, fun m => List.mem_append_left _ (h.st m)⟩
  · refine List.nodup_append.mpr ⟨h.nd, by simp, fun x hx y hy z => ?_⟩
    rw [List.mem_singleton.mp hy] at z
    exact n (by rw [← z]; exact hx)
  · rcases List.mem_append.mp hx with z | z
    · exact h.rc x z
    · rw [List.mem_singleton.mp z]
      exact (h.rc a ha).step ab hb

/-! ### logs in the heap -/
abbrev Cl := Int × Str
def IsC (H : Hp) (v : V) (c : Cl) : Prop := ∃ t, v = .ref t ∧ H t = some (.tup [.int c.1, .str c.2])
def LG (H : Hp) (vs : List V) (L : List Cl) : Prop := Paired (IsC H) vs L
theorem IsC.kt {H H' : Hp} {v : V} {d : Cl} (h : IsC H v d) (k : KT H H') : IsC H' v d := by
  obtain ⟨t, e, h⟩ := h
  exact ⟨t, e, k _ _ h⟩
theorem LG.kt {H H' : Hp} {vs : List V} {D : List Cl} (h : LG H vs D) (k : KT H H') : LG H' vs D := Paired.mapP h fun _ _ q => q.kt k
theorem LG.len {H : Hp} {vs : List V} {D : List Cl} (h : LG H vs D) : vs.length = D.length := Paired.length h
theorem LG.nil0 (H : Hp) : LG H [] [] := Paired.nil
theorem LG.snoc {H : Hp} {vs : List V} {D : List Cl} {v : V} {d : Cl} (h : LG H vs D) (q : IsC H v d) : LG H (vs ++ [v]) (D ++ [d]) := Paired.snoc h q
theorem pget {α β : Type} {F : α → β → Prop} : ∀ {vs : List α} {D : List β} {i : Nat} {v : α}, Paired F vs D → vs[i]? = some v → ∃ d, D[i]? = some d ∧ F v d
  | _, _, _, _, Paired.nil, e => by simp at e
  | _, _, 0, v, .cons r _, e => by
    have e2 := Option.some.inj e
    subst e2
    exact ⟨_, rfl, r⟩
  | _, _, i + 1, v, .cons _ t, e => pget (i := i) t e
theorem pget2 {α β : Type} {F : α → β → Prop} : ∀ {vs : List α} {D : List β} {i : Nat} {d : β}, Paired F vs D → D[i]? = some d → ∃ v, vs[i]? = some v ∧ F v d
  | _, _, _, _, Paired.nil, e => by simp at e
  | _, _, 0, v, .cons r _, e => by
    have e2 := Option.some.inj e
    subst e2
    exact ⟨_, rfl, r⟩
  | _, _, i + 1, v, .cons _ t, e => pget2 (i := i) t e
theorem prev {α β : Type} {F : α → β → Prop} {vs : List α} {D : List β} (h : Paired F vs D) : Paired F vs.reverse D.reverse := by
  induction h with
  | nil => exact Paired.nil
  | cons r _ ih =>
    rw [List.reverse_cons, List.reverse_cons]
    exact Paired.snoc ih r
theorem inV_ints (j : Int) (l : List Int) : inV (.int j) (l.map V.int) = decide (j ∈ l) := by
  induction l with
  | nil => rfl
  | cons x l ih =>
    have e : inV (.int j) ((x :: l).map V.int) = (eqV (.int x) (.int j) || inV (.int j) (l.map V.int)) := rfl
    rw [e, ih]
    have e2 : eqV (.int x) (.int j) = decide (x = j) := by
      unfold eqV
      by_cases h : x = j
      · subst h
        simp
      · simp [h]
    rw [e2]
    by_cases h : j = x
    · subst h
      simp
    · have h' : ¬ x = j := fun z => h z.symm
      simp [h, h']
theorem flat_ints (l : List Int) : (l.map V.int).all flatV = true := by
  rw [List.all_eq_true]
  intro v hv
  obtain ⟨x, _, rfl⟩ := List.mem_map.mp hv
  rfl
/-- the last calls of a log -/
theorem rep1 {α : Type} (n : Nat) (x : α) : (List.replicate n [x]).flatten = List.replicate n x := by
  induction n with
  | zero => rfl
  | succ n ih =>
    rw [List.replicate_succ, List.flatten_cons, List.replicate_succ, ih]
    rfl
def lastF : List Cl → List Cl
  | [] => []
  | c :: S => if c.1 ∈ S.map (·.1) then lastF S else c :: lastF S
theorem lastF_len (L : List Cl) : (lastF L).length ≤ L.length := by
  induction L with
  | nil => exact Nat.le_refl _
  | cons c S ih =>
    show (if c.1 ∈ S.map (·.1) then lastF S else c :: lastF S).length ≤ S.length + 1
    split
    · omega
    · rw [List.length_cons]
      omega
theorem drop_step {L : List Cl} {i : Nat} {c : Cl} (hi : i < L.length) (g : L[L.length - 1 - i]? = some c) : L.drop (L.length - (i + 1)) = c :: L.drop (L.length - i) := by
  have h : L.length - (i + 1) < L.length := by omega
  rw [List.drop_eq_getElem_cons h]
  have e1 : L.length - (i + 1) + 1 = L.length - i := by omega
  have e2 : L.length - (i + 1) = L.length - 1 - i := by omega
  rw [e1]
  congr 1
  rw [← e2, List.getElem?_eq_getElem h] at g
  exact Option.some.inj g
def inS (S : List Cl) : Int → Bool := fun k => decide (k ∈ S.map (·.1))
theorem inS_same {S : List Cl} {c : Cl} (h : c.1 ∈ S.map (·.1)) : inS (c :: S) = inS S := by
  funext k
  unfold inS
  by_cases e : k ∈ S.map (·.1)
  · rw [decide_eq_true e, List.map_cons, decide_eq_true (List.mem_cons_of_mem _ e)]
  · rw [decide_eq_false e, List.map_cons, decide_eq_false]
    intro z
    rcases List.mem_cons.mp z with z | z
    · exact e (by rw [z]; exact h)
    · exact e z
theorem inS_more {S : List Cl} {c : Cl} : (fun j => inS S j || decide (j = c.1)) = inS (c :: S) := by
  funext k
  unfold inS
  rw [List.map_cons]
  by_cases e1 : k = c.1
  · subst e1
    simp
  · by_cases e2 : k ∈ S.map (·.1)
    · rw [decide_eq_true e2, decide_eq_true (List.mem_cons_of_mem _ e2), Bool.true_or]
    · rw [decide_eq_false e2, decide_eq_false e1, decide_eq_false, Bool.or_false]
      intro z
      rcases List.mem_cons.mp z with z | z
      · exact e1 z
      · exact e2 z
theorem atI01 {a b : V} : atI [a, b] 0 = some a ∧ atI [a, b] 1 = some b := ⟨rfl, rfl⟩
abbrev sLast : Stmt := topS 0
abbrev sOrd : Stmt := topS 0
abbrev sWds : Stmt := topS 0
abbrev sLci : Stmt := topS 0
abbrev sTopR : Stmt := topS 0
abbrev sWof : Stmt := topS 0
abbrev sLof : Stmt := topS 0
section
variable {P : Program} {w : World} {K : PySem.W.Frag} {mg : Str → Option Value} {base : Heap}
def spLast : Sp := fun vs H Q _ => ∃ (l : Addr) (us : List V) (L : List Cl), vs = [.ref l] ∧ H l = some (.lst us) ∧ LG H us L ∧ L.length ≤ 1000 ∧
  ∀ ws p H', Same H H' → H p = none → H' p = some (.lst ws) → LG H' ws (lastF L) → Q (.ref p) H'
def spOrd : Sp := fun vs H Q _ => ∃ (l : Addr) (us : List V) (L : List Cl), vs = [.ref l] ∧ H l = some (.lst us) ∧ LG H us L ∧ L.length ≤ 1000 ∧
  ∀ p H', Same H H' → H p = none → H' p = some (.tup ((lastF L).map fun c => V.int c.1)) → Q (.ref p) H'
/-- the last word of each of r rooms -/
def wordsF (r : Nat) (L : List Cl) : List V := L.foldl (fun W c => W.set c.1.toNat (.str c.2)) (List.replicate r .non)
theorem wordsF_len (r : Nat) (L : List Cl) : (wordsF r L).length = r := by
  have key : ∀ (L : List Cl) (W : List V), (L.foldl (fun W c => W.set c.1.toNat (.str c.2)) W).length = W.length := by
    intro L
    induction L with
    | nil => intro W; rfl
    | cons c L ih =>
      intro W
      show (L.foldl _ (W.set c.1.toNat (.str c.2))).length = _
      rw [ih, List.length_set]
  unfold wordsF
  rw [key, List.length_replicate]
def InR (r : Nat) (L : List Cl) : Prop := ∀ c ∈ L, 0 ≤ c.1 ∧ c.1 < r
theorem wordsF_step {r : Nat} {L : List Cl} {j : Nat} {c : Cl} (g : L[j]? = some c) : wordsF r (L.take (j + 1)) = (wordsF r (L.take j)).set c.1.toNat (.str c.2) := by
  unfold wordsF
  rw [List.take_add_one, g, List.foldl_append]
  rfl
def spWds (C : Addr) : Sp := fun vs H Q _ => ∃ (p l : Addr) (us : List V) (L : List Cl) (r : Nat) (D : List Pr) (own : List Addr), vs = [.ref p, .ref l] ∧ HouseAt C H p r D own ∧ H l = some (.lst us) ∧ LG H us L ∧ InR r L ∧
  ∀ q H', Same H H' → H q = none → H' q = some (.lst (wordsF r L)) → Q (.ref q) H'
/-- the last call in any of the rooms -/
def lastIn (R : List Int) (L : List Cl) : Option Cl := L.reverse.find? fun c => decide (c.1 ∈ R)
def spLci (K : PySem.W.Frag) : Sp := fun vs H Q _ => ∃ (l o : Addr) (us : List V) (L : List Cl) (R : List Int), vs = [.ref l, .ref o] ∧ H l = some (.lst us) ∧ LG H us L ∧ (SqL K H o (R.map V.int) ∨ SqT K H o (R.map V.int)) ∧ (lastIn R L = none → Q .non H) ∧ (∀ t c, lastIn R L = some c → H t = some (.tup [.int c.1, .str c.2]) → Q (.ref t) H)
def optR (o : Option Cl) : V := match o with
  | none => .non
  | some c => .int c.1
def optW (o : Option Cl) : V := match o with
  | none => .non
  | some c => .str c.2
def spTopR (K : PySem.W.Frag) (g : Option Cl → V) : Sp := fun vs H Q _ => ∃ (l o : Addr) (us : List V) (L : List Cl) (R : List Int), vs = [.ref l, .ref o] ∧ H l = some (.lst us) ∧ LG H us L ∧ (SqL K H o (R.map V.int) ∨ SqT K H o (R.map V.int)) ∧ Q (g (lastIn R L)) H
theorem lastIn_at {H : Hp} {us : List V} {L : List Cl} {R : List Int} {c : Cl} (lg : LG H us L) (h : lastIn R L = some c) : ∃ t, H t = some (.tup [.int c.1, .str c.2]) := by
  unfold lastIn at h
  have m := List.mem_of_find?_eq_some h
  obtain ⟨i, g⟩ := List.getElem?_of_mem (List.mem_reverse.mp m)
  obtain ⟨v, _, t, _, e⟩ := pget2 lg g
  exact ⟨t, e⟩
def spLof (K : PySem.W.Frag) : Sp := fun vs H Q _ => ∃ (l o : Addr) (W : List V) (L : List Cl), vs = [.ref l, .ref o] ∧ H l = some (.lst W) ∧ H o = some (.tup (L.map fun c => V.int c.1)) ∧ L.length ≤ 1000 ∧ (∀ c ∈ L, 0 ≤ c.1 ∧ W[c.1.toNat]? = some (.str c.2)) ∧
  ∀ ws p H', Same H H' → H p = none → H' p = some (.lst ws) → LG H' ws L → Q (.ref p) H'
end
abbrev sLtop : Stmt := topS 30
abbrev sLwof : Stmt := topS 31
abbrev sLlast : Stmt := topS 0
abbrev sSpell : Stmt := topS 0
abbrev sPool : Stmt := topS 0
abbrev sSize : Stmt := topS 0
abbrev sDrawn : Stmt := topS 0
abbrev sChosen : Stmt := topS 0
theorem lastIn_step {R : List Int} {L : List Cl} {i : Nat} {c : Cl} (g : L[i]? = some c) : lastIn R (L.take (i + 1)) = if c.1 ∈ R then some c else lastIn R (L.take i) := by
  rw [List.take_add_one, g]
  unfold lastIn
  show List.find? _ (L.take i ++ [c]).reverse = _
  rw [List.reverse_append]
  show List.find? _ (c :: (L.take i).reverse) = _
  by_cases e : c.1 ∈ R
  · rw [List.find?_cons_of_pos (by simp [e]), if_pos e]
  · rw [List.find?_cons_of_neg (by simp [e]), if_neg e]
theorem cut_drop (xs : List V) (k : Nat) : cutV xs (some ((k : Nat) : Int)) none = xs.drop k := by
  unfold cutV
  rw [show HT.sIx xs.length 0 (some ((k : Nat) : Int)) = min k xs.length from HT.sIx_nat xs.length 0 k, HT.sIx_none]
  by_cases h : k ≤ xs.length
  · rw [Nat.min_eq_left h]
    refine List.take_of_length_le ?_
    rw [List.length_drop]
    exact Nat.le_refl _
  · rw [Nat.min_eq_right (by omega), List.drop_length, List.drop_eq_nil_of_le (by omega)]
    exact List.take_nil
theorem for_iter {wi : TI} {g : TG} {tb : TS} {D : Ends} {σ : L2.St} {H : Hp} (h : wi σ H fun J H1 => tFor (fun _ H R => R J H) g tb D σ H1) : tFor wi g tb D σ H := h
section
variable {P : Program} {w : World} {K : PySem.W.Frag} {mg : Str → Option Value} {base : Heap}
theorem scLtop : FnScope ["log", "rooms", "top", "call"] ["log", "rooms"] (defScope sLtop) := ⟨rfl, rfl, rfl, by decide +kernel, rfl, by decide +kernel, by decide +kernel⟩
theorem ok_ltop {f : Addr} {fd : FuncData} (F : Fun K "_law_top" "_law_top" sLtop f fd) : FnOk P w K mg base CX0 1 f fd ["log", "rooms"] (spTopR K optR) := by
  refine F.ok scLtop (fun vs H Q E h => ?_) (fun cdv A outer s H vs Q E hr h => ?_)
  · obtain ⟨l, o, us, L, R, rfl, _⟩ := h
    rfl
  · obtain ⟨l, o, us, L, R, rfl, hl, lg, ho, q⟩ := h
    have ul : us.length = L.length := lg.len
    refine ⟨_, (pss_cons (ps_set (i := 2) scLtop.nd rfl (Or.inl rfl) pe_non)
      (pss_cons (ps_for PassesOwn.never rfl (pi_list (pv 0)) (pg_name (i := 3) scLtop.nd rfl (Or.inl rfl))
      (pss_one (ps_if (pt_cmpR op_in_seq (pe_ix ix_tup (pv 3) pe_int (fun _ _ => rfl)) (pv 1) (by rfl))
        (pss_one (ps_set (i := 2) scLtop.nd rfl (Or.inl rfl) (pe_ix ix_tup (pv 3) pe_int (fun _ _ => rfl))))
        pss_nil)))
      (pss_one (ps_ret (pv 2))))), ?_⟩
    walk_at "rd"
    obtain ⟨Pv, hPv⟩ : ∃ Pv : Nat → L2.St → Hp → Prop, Pv = (fun i σ H' => ∃ v3 : Option V, σ = [some (.ref l), some (.ref o), some (optR (lastIn R (L.take i))), v3] ∧ H' = H) := ⟨_, rfl⟩
    refine ⟨_, rfl, l, rfl, ⟨_, SqL.of hl⟩, for_list (K := K) (a := l) (xs := us) Pv (by rw [hPv]; exact ⟨none, rfl, rfl⟩) (fun i σ H' _ pv => by rw [hPv] at pv; obtain ⟨_, _, rfl⟩ := pv; exact SqL.of hl) (fun i v σ H' gv pv => ?_) (fun σ H' pv => ?_)⟩
    · have nxt : ∀ v3, Pv (i + 1) [some (.ref l), some (.ref o), some (optR (lastIn R (L.take (i + 1)))), v3] H := fun v3 => by
        rw [hPv]
        exact ⟨v3, rfl, rfl⟩
      rw [hPv] at pv
      obtain ⟨v3, rfl, rfl⟩ := pv
      obtain ⟨c, gc, tc, rfl, htc⟩ := pget lg gv
      rw [lastIn_step gc] at nxt
      walk_at "rd"
      refine ⟨_, SqT.of htc, .int c.1, rfl, o, _, rfl, ho, rfl, flat_ints _, ?_⟩
      rw [inV_ints]
      refine ⟨_, rfl, ?_⟩
      by_cases e : c.1 ∈ R
      · rw [decide_eq_true e]
        rw [if_pos e] at nxt
        exact iteT ⟨_, SqT.of htc, .int c.1, rfl, nxt _⟩
      · rw [decide_eq_false e]
        rw [if_neg e] at nxt
        exact iteF (nxt _)
    · rw [hPv] at pv
      obtain ⟨v3, rfl, rfl⟩ := pv
      rw [ul, List.take_length]
      walk_at "rd"
      exact q
theorem scLwof : FnScope ["log", "rooms", "word", "call"] ["log", "rooms"] (defScope sLwof) := ⟨rfl, rfl, rfl, by decide +kernel, rfl, by decide +kernel, by decide +kernel⟩
theorem ok_lwof {f : Addr} {fd : FuncData} (F : Fun K "_law_word_of" "_law_word_of" sLwof f fd) : FnOk P w K mg base CX0 1 f fd ["log", "rooms"] (spTopR K optW) := by
  refine F.ok scLwof (fun vs H Q E h => ?_) (fun cdv A outer s H vs Q E hr h => ?_)
  · obtain ⟨l, o, us, L, R, rfl, _⟩ := h
    rfl
  · obtain ⟨l, o, us, L, R, rfl, hl, lg, ho, q⟩ := h
    have ul : us.length = L.length := lg.len
    refine ⟨_, (pss_cons (ps_set (i := 2) scLwof.nd rfl (Or.inl rfl) pe_non)
      (pss_cons (ps_for PassesOwn.never rfl (pi_list (pv 0)) (pg_name (i := 3) scLwof.nd rfl (Or.inl rfl))
      (pss_one (ps_if (pt_cmpR op_in_seq (pe_ix ix_tup (pv 3) pe_int (fun _ _ => rfl)) (pv 1) (by rfl))
        (pss_one (ps_set (i := 2) scLwof.nd rfl (Or.inl rfl) (pe_ix ix_tup (pv 3) pe_int (fun _ _ => rfl))))
        pss_nil)))
      (pss_one (ps_ret (pv 2))))), ?_⟩
    walk_at "rd"
    obtain ⟨Pv, hPv⟩ : ∃ Pv : Nat → L2.St → Hp → Prop, Pv = (fun i σ H' => ∃ v3 : Option V, σ = [some (.ref l), some (.ref o), some (optW (lastIn R (L.take i))), v3] ∧ H' = H) := ⟨_, rfl⟩
    refine ⟨_, rfl, l, rfl, ⟨_, SqL.of hl⟩, for_list (K := K) (a := l) (xs := us) Pv (by rw [hPv]; exact ⟨none, rfl, rfl⟩) (fun i σ H' _ pv => by rw [hPv] at pv; obtain ⟨_, _, rfl⟩ := pv; exact SqL.of hl) (fun i v σ H' gv pv => ?_) (fun σ H' pv => ?_)⟩
    · have nxt : ∀ v3, Pv (i + 1) [some (.ref l), some (.ref o), some (optW (lastIn R (L.take (i + 1)))), v3] H := fun v3 => by
        rw [hPv]
        exact ⟨v3, rfl, rfl⟩
      rw [hPv] at pv
      obtain ⟨v3, rfl, rfl⟩ := pv
      obtain ⟨c, gc, tc, rfl, htc⟩ := pget lg gv
      rw [lastIn_step gc] at nxt
      walk_at "rd"
      refine ⟨_, SqT.of htc, .int c.1, rfl, o, _, rfl, ho, rfl, flat_ints _, ?_⟩
      rw [inV_ints]
      refine ⟨_, rfl, ?_⟩
      by_cases e : c.1 ∈ R
      · rw [decide_eq_true e]
        rw [if_pos e] at nxt
        exact iteT ⟨_, SqT.of htc, .str c.2, rfl, nxt _⟩
      · rw [decide_eq_false e]
        rw [if_neg e] at nxt
        exact iteF (nxt _)
    · rw [hPv] at pv
      obtain ⟨v3, rfl, rfl⟩ := pv
      rw [ul, List.take_length]
      walk_at "rd"
      exact q
/-- a word: short, and its signs are signs -/
def wk (n : Nat) (z : Str) : Prop := z.length ≤ n ∧ PyData.strOk z = true
theorem wk.mono {n m : Nat} {z : Str} (h : wk n z) (l : n ≤ m) : wk m z := ⟨Nat.le_trans h.1 l, h.2⟩
theorem strOk_app {u v : Str} (h : PyData.strOk u = true) (k : PyData.strOk v = true) : PyData.strOk (u ++ v) = true := by
  show (u.cps ++ v.cps).all (· < 0x110000) = true
  rw [Array.all_append]
  show (PyData.strOk u && PyData.strOk v) = true
  rw [h, k]
  rfl
theorem wk_app {a b n : Nat} {u v : Str} (h : wk a u) (k : wk b v) (l : a + b ≤ n) : wk n (u ++ v) := ⟨by rw [Str.length_append]; have := h.1; have := k.1; omega, strOk_app h.2 k.2⟩
theorem wk_cut {n : Nat} {z : Str} (h : wk n z) (lo hi : Option Int) : wk n (cutS z lo hi) := by
  refine ⟨Nat.le_trans (cutS_length z lo hi) h.1, ?_⟩
  have h2 := h.2
  unfold PyData.strOk at h2 ⊢
  unfold cutS
  rw [Array.all_eq_true_iff_forall_mem] at h2 ⊢
  intro c hc
  refine h2 c ?_
  rw [Array.mem_def]
  simp only [List.mem_toArray] at hc
  exact List.mem_of_mem_drop (List.mem_of_mem_take hc)
theorem strOk_one {c : Nat} (h : c < 0x110000) : PyData.strOk (Str.mk #[c]) = true := by
  show (#[c] : Array Nat).all (· < 0x110000) = true
  simp [h]
def spSpell (K : PySem.W.Frag) : Sp := fun vs H Q _ => ∃ (a : Addr) (ns : List Int) (at_ : Nat), vs = [.ref a, .int at_] ∧ SqL K H a (ns.map V.int) ∧ at_ + 4 < ns.length ∧ ∀ z : Str, wk 8 z → Q (.str z) H
theorem letters_at {j : Nat} (h : j < 26) : ∃ c, atI (Str.ofString "abcdefghijklmnopqrstuvwxyz").cps.toList ((j : Nat) : Int) = some c ∧ c < 0x110000 := by
  have hl : (Str.ofString "abcdefghijklmnopqrstuvwxyz").cps.toList.length = 26 := by decide +kernel
  have ha : ((Str.ofString "abcdefghijklmnopqrstuvwxyz").cps.toList.all fun c => decide (c < 0x110000)) = true := by decide +kernel
  refine ⟨_, atI_nat (List.getElem?_eq_getElem (by rw [hl]; exact h)), ?_⟩
  exact of_decide_eq_true (List.all_eq_true.mp ha _ (List.getElem_mem _))
end

/-! ### own rules: data compared by <, len(set(tuple of ints)) -/
theorem pig : ∀ (ns K : List Int), K.Nodup → (∀ x ∈ K, x ∈ ns) → K.length ≤ ns.length
  | [], K, _, h => by
    cases K with
    | nil => exact Nat.le_refl _
    | cons a K => exact absurd (h a List.mem_cons_self) (by simp)
  | a :: ns, K, nd, h => by
    by_cases m : a ∈ K
    · have ih := pig ns (K.erase a) (nd.erase a) fun x hx => by
        have hx2 := (List.Nodup.mem_erase_iff nd).mp hx
        rcases List.mem_cons.mp (h x hx2.2) with e | e
        · exact absurd e hx2.1
        · exact e
      rw [List.length_erase_of_mem m] at ih
      have : 1 ≤ K.length := List.length_pos_of_mem m
      rw [List.length_cons]
      omega
    · have ih := pig ns K nd fun x hx => by
        rcases List.mem_cons.mp (h x hx) with e | e
        · rw [e] at hx; exact absurd hx m
        · exact e
      rw [List.length_cons]
      omega
theorem pig_nd : ∀ (ns K : List Int), K.Nodup → (∀ x ∈ K, x ∈ ns) → K.length = ns.length → ns.Nodup
  | [], K, _, _, _ => List.nodup_nil
  | a :: ns, K, nd, h, e => by
    have sub : a ∉ K → ∀ x ∈ K, x ∈ ns := fun m x hx => by
      rcases List.mem_cons.mp (h x hx) with z | z
      · rw [z] at hx; exact absurd hx m
      · exact z
    rw [List.length_cons] at e
    by_cases m : a ∈ K
    · by_cases r : a ∈ ns
      · have := pig ns K nd fun x hx => by
          rcases List.mem_cons.mp (h x hx) with z | z
          · rw [z]; exact r
          · exact z
        omega
      · refine List.nodup_cons.mpr ⟨r, pig_nd ns (K.erase a) (nd.erase a) (fun x hx => ?_) ?_⟩
        · have hx2 := (List.Nodup.mem_erase_iff nd).mp hx
          rcases List.mem_cons.mp (h x hx2.2) with z | z
          · exact absurd z hx2.1
          · exact z
        · rw [List.length_erase_of_mem m]
          omega
    · have := pig ns K nd (sub m)
      omega
theorem set_len {ns K : List Int} (nd : K.Nodup) (h : ∀ x, x ∈ ns ↔ x ∈ K) : K.length = ns.length ↔ ns.Nodup :=
  ⟨fun e => pig_nd ns K nd (fun x hx => (h x).mpr hx) e, fun n => Nat.le_antisymm (pig ns K nd fun x hx => (h x).mpr hx) (pig K ns n fun x hx => (h x).mp hx)⟩
def tLenSetT (K : PySem.W.Frag) (ta : TE) : TE := fun σ H Q => ta σ H fun x H1 => ∃ (l : Addr) (ns : List Int), x = V.ref l ∧ SqT K H1 l (ns.map V.int) ∧ ns.length ≤ 1000 ∧ ∀ m : Nat, (m = ns.length ↔ ns.Nodup) → Q (.int m) H1
theorem pe_lenSetT {X : Cx} {a : Expr} {ta : TE} {p p2 q pos : Pos} (hg : Gl X "len") (hm : X.mg "len" = none) (hg2 : Gl X "set") (hm2 : X.mg "set" = none) (ha : PE X a ta) (hc : X.calm = true := by rfl)
    (na : starEach [a] X.env = (false, eval a X.env) :: starEach [] X.env := by rfl) : PE X (.Call (.Name "len" p) [.Call (.Name "set" p2) [a] [] q] [] pos) (tLenSetT X.K ta) := by
  refine ⟨fun pins s σ H Q I h => ?_⟩
  refine Call_ (ld_blt I hg hm boot_len ?_)
  refine PyProof.Rows.callWith_builtin1 (PyProof.Rows.args_cons ?_ rfl) rfl rfl
  refine Call_ (ld_blt I hg2 hm2 boot_set ?_)
  refine PyProof.Rows.callWith_type1 (PyProof.Rows.args_cons (thn (ha.run pins s σ H _ I h) fun v s1 ⟨x, H1, I1, r1, q1⟩ => PyProof.Rows.args_nil ?_) na) na rfl
  obtain ⟨l, ns, rfl, hq, hl, q1⟩ := q1
  cases r1
  obtain ⟨its, r, pl, hz⟩ := I1.tuple hq
  refine call_set_tupI ns (I1.ok.hd hc) pl (by simpa using ints_of_vals r) (by unfold scanBound; omega) fun h' tk c hS hle hk => ?_
  refine PyProof.Rows.args_nil ?_
  obtain ⟨o, es, ep, t, ho, hex, hd, _, nd, mem, _, hf, hn, _⟩ := hS
  have I2 : Inv X pins σ H1 { s1 with heap := h', toks := tk } := I1.kept fun b o e => hk b o e
  refine call_len_set ho hex hd hf (by rw [hn] <;> omega) ⟨.int c, H1, I2.tok _, ⟨_, by rw [hn]⟩, q1 c ?_⟩
  have e := set_len nd (ns := ns) fun x => by rw [← mem x, decide_eq_true_iff]
  rw [List.length_map, Array.length_toList, hn] at e
  exact e
def rLtD (K : PySem.W.Frag) (n : Nat) : R2 := fun x y H Q => ∃ d e, Dp K H x d ∧ Dp K H y e ∧ PySem.W.alike d e = true ∧ d ≠ .none ∧ d.depth ≤ n ∧ Q (.bl (PySem.W.dataLt d e)) H
theorem op_ltD {X : Cx} {n : Nat} (hu : X.A.units + n < cLine) : OpR X (compareOp .Lt) (rLtD X.K n) := by
  intro pins s σ H x y v u Q I rx ry h
  obtain ⟨d, e, hd, he, al, nn, dep, q⟩ := h
  obtain ⟨as, r1⟩ := Dp.reads I d x v hd rx
  obtain ⟨bs, r2⟩ := Dp.reads I e y u he ry
  exact PySem.W.lt_data r1 r2 al nn (by have := Nat.min_le_left d.depth e.depth; omega) ⟨.bl _, H, I, rfl, q⟩

/-! ### for over an iterator: the loop by its walk -/
theorem for_iterW {wi : TI} {g : TG} {tb : TS} {D : Ends} {σ : L2.St} {H : Hp} (h : wi σ H fun J H1 => tFor (fun _ H R => R J H) g tb D σ H1) : tFor wi g tb D σ H := h

abbrev sLre : Stmt := topS 28
abbrev sLpc : Stmt := topS 29
theorem inI (j : Int) (l : List Int) : inV (.int j) (l.map V.int) = decide (j ∈ l) := by
  induction l with
  | nil => rfl
  | cons x l ih =>
    have e : inV (.int j) ((x :: l).map V.int) = (eqV (.int x) (.int j) || inV (.int j) (l.map V.int)) := rfl
    rw [e, ih]
    have e2 : eqV (.int x) (.int j) = decide (x = j) := by
      unfold eqV
      by_cases h : x = j
      · subst h
        simp
      · simp [h]
    rw [e2]
    by_cases h : j = x
    · subst h
      simp
    · have h' : ¬ x = j := fun z => h z.symm
      simp [h, h']
theorem flI (l : List Int) : (l.map V.int).all flatV = true := by
  rw [List.all_eq_true]
  intro v hv
  obtain ⟨x, _, rfl⟩ := List.mem_map.mp hv
  rfl
theorem same_sqT {K : PySem.W.Frag} {H H' : Hp} {a : Addr} {xs : List V} (e : Same H H') (h : SqT K H a xs) : SqT K H' a xs := by
  rcases h with (h | ⟨o, h⟩) | h
  · exact .inl (.inl (e _ _ h))
  · exact .inl (.inr ⟨o, e _ _ h⟩)
  · exact .inr h
theorem up_of {ys ks : List Int} (p : ys.Perm ks) (nd : ks.Nodup) (s : ys.Pairwise (· ≤ ·)) : Up ys := by
  have n2 : ys.Nodup := p.nodup_iff.mpr nd
  unfold Up
  refine List.Pairwise.imp (fun {a b} (h : a ≤ b ∧ a ≠ b) => by omega) (List.Pairwise.and s n2)
theorem lget {α β : Type} {F : α → β → Prop} : ∀ {vs : List α} {D : List β} {i : Nat} {v : α}, Paired F vs D → vs[i]? = some v → ∃ d, D[i]? = some d ∧ F v d
  | _, _, _, _, Paired.nil, e => by simp at e
  | _, _, 0, v, .cons r _, e => by
    have e2 := Option.some.inj e
    subst e2
    exact ⟨_, rfl, r⟩
  | _, _, i + 1, v, .cons _ t, e => lget (i := i) t e
def SeqI (K : PySem.W.Frag) (H : Hp) (o : Addr) (R : List Int) : Prop := SqL K H o (R.map V.int) ∨ SqT K H o (R.map V.int)
theorem SeqI.same {K : PySem.W.Frag} {H H' : Hp} {o : Addr} {R : List Int} (h : SeqI K H o R) (s : Same H H') : SeqI K H' o R := by
  rcases h with h | h
  · exact .inl (s.seq h)
  · exact .inr (same_sqT s h)
theorem int_sub_len {l m : List Int} (nd : l.Nodup) (h : ∀ x ∈ l, x ∈ m) (p : ∀ x ∈ m, 0 ≤ x) : l.length ≤ m.length := by
  have h1 : (l.map Int.toNat).Nodup := by
    refine List.pairwise_map.mpr (List.Pairwise.imp_of_mem (fun {x y} hx hy ne e => ?_) nd)
    have b1 := p x (h x hx)
    have b2 := p y (h y hy)
    omega
  have h2 := nat_nodup_len _ (m.map Int.toNat) h1 fun c hc => by
    obtain ⟨x, hx, rfl⟩ := List.mem_map.mp hc
    exact List.mem_map.mpr ⟨x, h x hx, rfl⟩
  rw [List.length_map, List.length_map] at h2
  exact h2
theorem FInv.full {D : List Pr} {R F : List Int} {s : Int} (h : FInv D R s F) (p : ∀ x ∈ R, 0 ≤ x) (l : R.length ≤ F.length) : Clo D R F := fun a ha b hb ab => Classical.byContradiction fun n => by
  have h2 := h.add ha hb ab n
  have := int_sub_len h2.nd (fun x hx => (h2.rc x hx).mem) p
  rw [List.length_append] at this
  have e : F.length + 1 ≤ R.length := this
  omega
/-- the doors so far lead nowhere new -/
def Cl1 (R F : List Int) (E : List Pr) : Prop := ∀ d ∈ E, (d.1 ∈ F → d.2 ∈ R → d.2 ∈ F) ∧ (d.2 ∈ F → d.1 ∈ R → d.1 ∈ F)
theorem Cl1.clo {D : List Pr} {R F : List Int} (h : Cl1 R F D) : Clo D R F := fun a ha b hb ab => by
  rcases ab with m | m
  · exact (h _ m).1 ha hb
  · exact (h _ m).2 ha hb
theorem half {K : PySem.W.Frag} {i j : Nat} {x y : Int} {fnd o : Addr} {Fc R : List Int} {D : Ends} {σ : L2.St} {H : Hp} (g1 : σ[i]? = some (some (.int x))) (g2 : σ[j]? = some (some (.int y))) (g3 : σ[3]? = some (some (.ref fnd))) (g4 : σ[2]? = some (some (.ref o))) (hf : H fnd = some (.lst (Fc.map V.int))) (ho : SeqI K H o R) (hl : Fc.length ≤ 1000)
    (no : ¬ (x ∈ Fc ∧ y ∈ R ∧ y ∉ Fc) → D.nx σ H) (yes : x ∈ Fc → y ∈ R → y ∉ Fc → D.nx σ (upd H fnd (.lst ((Fc ++ [y]).map V.int)))) :
    tIfS (tAnd (tTest (tOp (rIn K false) (tVar i) (tVar 3))) (tAnd (tTest (tOp (rIn K false) (tVar j) (tVar 2))) (tTest (tOp (rIn K true) (tVar j) (tVar 3))))) (tDrop (tBM K "list" rAppend (tVar 3) (tCons (tVar j) tNil))) tNext D σ H := by
  refine ⟨_, g1, _, g3, fnd, _, rfl, .inl (SqL.of hf), rfl, flI _, ?_⟩
  rw [inI]
  refine ⟨_, rfl, ?_⟩
  by_cases h1 : x ∈ Fc
  · rw [decide_eq_true h1]
    refine iteT ⟨_, g2, _, g4, o, _, rfl, ho, rfl, flI _, ?_⟩
    rw [inI]
    refine ⟨_, rfl, ?_⟩
    by_cases h2 : y ∈ R
    · rw [decide_eq_true h2]
      refine iteT ⟨_, g2, _, g3, fnd, _, rfl, .inl (SqL.of hf), rfl, flI _, ?_⟩
      rw [inI]
      refine ⟨_, rfl, ?_⟩
      by_cases h3 : y ∈ Fc
      · rw [decide_eq_true h3]
        exact iteF (no fun z => z.2.2 h3)
      · rw [decide_eq_false h3]
        refine iteT ⟨_, g3, .inl ⟨rfl, _, SqL.of hf⟩, _, g2, ?_⟩
        walk_at "rd"
        refine ⟨_, hf, len_big (by rw [List.length_map]; omega), ?_⟩
        have q := yes h1 h2 h3
        rw [List.map_append] at q
        exact q
    · rw [decide_eq_false h2]
      exact iteF (no fun z => h2 z.2.1)
  · rw [decide_eq_false h1]
    exact iteF (no fun z => h1 z.1)
section
variable {P : Program} {w : World} {K : PySem.W.Frag} {mg : Str → Option Value} {base : Heap}
theorem scLre : FnScope ["doors", "start", "inside", "found", "k", "before", "a", "b"] ["doors", "start", "inside"] (defScope sLre) := ⟨rfl, rfl, rfl, by decide +kernel, rfl, by decide +kernel, by decide +kernel⟩
def spLre (K : PySem.W.Frag) : Sp := fun vs H Q _ => ∃ (l o : Addr) (s : Int) (us : List V) (D : List Pr) (R : List Int), vs = [.ref l, .int s, .ref o] ∧ H l = some (.lst us) ∧ PL H us D ∧ SeqI K H o R ∧ R.length < 64 ∧ (∀ x ∈ R, 0 ≤ x) ∧
  ∀ (ys : List Int) (t : Addr) (H' : Hp), Pc D R s ys → Same H H' → H t = none → H' t = some (.lst (ys.map V.int)) → Q (.ref t) H'
theorem ok_lre {f : Addr} {fd : FuncData} (F : Fun K "_law_reach" "_law_reach" sLre f fd) (T : Bi mg) : FnOk P w K mg base CX0 1 f fd ["doors", "start", "inside"] (spLre K) := by
  refine F.ok scLre (fun vs H Q E h => ?_) (fun cdv A outer s0 H vs Q E hr h => ?_)
  · obtain ⟨l, o, s, us, D, R, rfl, _⟩ := h
    rfl
  · obtain ⟨l, o, s, us, D, R, rfl, hl, pl, ho, h64, hR, ret⟩ := h
    refine ⟨_, (pss_cons (ps_set (i := 3) scLre.nd rfl (Or.inl rfl) (pe_lst pa_nil))
      (pss_cons (ps_if (pt_cmpR op_in_seq (pv 1) (pv 2) (by rfl))
      (pss_one (ps_expr (pe_bm PySem.F.plainAttrs_list PySem.F.slot_list_append PySem.F.type_list_append mt_append (pv 3) (pa_cons (pv 1) pa_nil))))
      pss_nil)
      (pss_cons (ps_for PassesOwn.never rfl (pi_range1 (by rfl) T.range (pa_cons (pe_callB call_len_seq (by rfl) T.len (by decide +kernel) (pa_cons (pv 2) pa_nil)) pa_nil)) (pg_name (i := 4) scLre.nd rfl (Or.inl rfl))
      (pss_cons (ps_set (i := 5) scLre.nd rfl (Or.inl rfl) (pe_callB call_len_seq (by rfl) T.len (by decide +kernel) (pa_cons (pv 3) pa_nil)))
        (pss_cons (ps_for PassesOwn.never rfl (pi_list (pv 0)) (pg_tup rfl (pgs_cons (pg_name (i := 6) scLre.nd rfl (Or.inl rfl)) (pgs_cons (pg_name (i := 7) scLre.nd rfl (Or.inl rfl)) pgs_nil)))
        (pss_cons (ps_if (PW.pt (pw_and (pt_cmpR op_in_seq (pv 6) (pv 3) (by rfl)) (pw_and (pt_cmpR op_in_seq (pv 7) (pv 2) (by rfl)) (pw_and1 (pt_cmpR op_notIn_seq (pv 7) (pv 3) (by rfl))))))
          (pss_one (ps_expr (pe_bm PySem.F.plainAttrs_list PySem.F.slot_list_append PySem.F.type_list_append mt_append (pv 3) (pa_cons (pv 7) pa_nil))))
          pss_nil)
          (pss_one (ps_if (PW.pt (pw_and (pt_cmpR op_in_seq (pv 7) (pv 3) (by rfl)) (pw_and (pt_cmpR op_in_seq (pv 6) (pv 2) (by rfl)) (pw_and1 (pt_cmpR op_notIn_seq (pv 6) (pv 3) (by rfl))))))
          (pss_one (ps_expr (pe_bm PySem.F.plainAttrs_list PySem.F.slot_list_append PySem.F.type_list_append mt_append (pv 3) (pa_cons (pv 6) pa_nil))))
          pss_nil))))
        (pss_one (ps_if (pt_cmpR op_eqI (pe_callB call_len_seq (by rfl) T.len (by decide +kernel) (pa_cons (pv 3) pa_nil)) (pv 5) (nomark _))
        (pss_one (ps_break))
        pss_nil)))))
      (pss_one (ps_ret (pe_callB cr_sorted (by rfl) T.sorted (by decide +kernel) (pa_cons (pv 3) pa_nil))))))), ?_⟩
    walk_at "rd"
    refine ⟨Nat.zero_le _, fun fnd nf => ?_⟩
    have s1 : Same H (upd H fnd (HO.lst [])) := same_upd nf
    refine ⟨o, _, rfl, ho.same s1, rfl, flI _, ?_⟩
    rw [inI]
    refine ⟨_, rfl, ?_⟩
    by_cases m : s ∈ R
    rw [decide_eq_true m]
    refine iteT ?_
    walk_at "rd"
    refine ⟨.inl ⟨rfl, _, SqL.of upd_same⟩, [], upd_same, by decide, ?_⟩
    have s2 : Same H (upd (upd H fnd (HO.lst [])) fnd (HO.lst ([] ++ [V.int s]))) := same_ch s1 nf
    have pk : ∃ F0 : List Int, upd (upd H fnd (HO.lst [])) fnd (HO.lst ([] ++ [V.int s])) fnd = some (.lst (F0.map V.int)) ∧ FInv D R s F0 :=
      ⟨[s], upd_same, (by simp), fun x hx => (by rw [List.mem_singleton.mp hx]; exact .base m), fun _ => List.mem_cons_self⟩
    generalize upd (upd H fnd (HO.lst [])) fnd (HO.lst ([] ++ [V.int s])) = H1 at s2 pk
    rotate_left
    rw [decide_eq_false m]
    refine iteF ?_
    have s2 := s1
    have pk : ∃ F0 : List Int, upd H fnd (HO.lst []) fnd = some (.lst (F0.map V.int)) ∧ FInv D R s F0 := ⟨[], upd_same, List.nodup_nil, fun x hx => (by cases hx), fun z => absurd z m⟩
    generalize upd H fnd (HO.lst []) = H1 at s1 s2 pk
    all_goals
      clear s1
      obtain ⟨F0, hF0, fi0⟩ := pk
      have ul : us.length = D.length := pl.len
      have flen : ∀ F : List Int, FInv D R s F → F.length ≤ R.length := fun F fi => int_sub_len fi.nd (fun x hx => (fi.rc x hx).mem) hR
      refine for_iterW ?_
      walk_at "rd"
      obtain ⟨Pv, hPv⟩ : ∃ Pv : Nat → L2.St → Hp → Prop, Pv = (fun i σ H' => ∃ (F : List Int) (v4 v5 v6 v7 : Option V), σ = [some (.ref l), some (.int s), some (.ref o), some (.ref fnd), v4, v5, v6, v7] ∧ Same H H' ∧ H' fnd = some (.lst (F.map V.int)) ∧ FInv D R s F ∧ i ≤ F.length) := ⟨_, rfl⟩
      refine ⟨R.map V.int, ho.same s2, by rw [List.length_map]; omega, by rw [List.length_map]; omega, for_range (lo := 0) (n := (((R.map V.int).length : Nat) : Int).toNat) Pv (by rw [hPv]; exact ⟨F0, none, none, none, none, rfl, s2, hF0, fi0, Nat.zero_le _⟩) (fun i σ H2 hi pv => ?body) (fun σ H2 pv => ?done)⟩
      case done =>
        rw [hPv] at pv
        obtain ⟨F, v4, v5, v6, v7, rfl, sm, hF, fi, le⟩ := pv
        rw [List.length_map, Int.toNat_natCast] at le
        have clo := fi.full hR le
        have fl := flen F fi
        walk_at "rd"
        refine ⟨_, F, rfl, SqL.of hF, by omega, fun ys t pm so nt => ?_⟩
        exact ret ys t _ ⟨up_of pm fi.nd so, fun x => pm.mem_iff.trans (fi.all clo x)⟩ (sm.trans (same_upd nt)) (sm.free nt) upd_same
      case body =>
        rw [hPv] at pv
        obtain ⟨F, v4, v5, v6, v7, rfl, sm, hF, fi, le⟩ := pv
        have hl2 := sm _ _ hl
        have pl2 := pl.kt (KT.same sm)
        walk_at "rg"
        refine ⟨_, rfl, fnd, rfl, F.map V.int, .inl (SqL.of hF), ?_⟩
        walk_at "rg"
        refine for_iterW ?_
        obtain ⟨Pw, hPw⟩ : ∃ Pw : Nat → L2.St → Hp → Prop, Pw = (fun j σ H' => ∃ (G : List Int) (v6 v7 : Option V), σ = [some (.ref l), some (.int s), some (.ref o), some (.ref fnd), some (.int (0 + (i : Int))), some (.int ((F.map V.int).length : Nat)), v6, v7] ∧ Same H H' ∧ H' fnd = some (.lst ((F ++ G).map V.int)) ∧ FInv D R s (F ++ G) ∧ (G = [] → Cl1 R F (D.take j))) := ⟨_, rfl⟩
        refine ⟨_, rfl, l, rfl, ⟨_, SqL.of hl2⟩, for_list (K := K) (a := l) (xs := us) Pw (by rw [hPw]; exact ⟨[], v6, v7, rfl, sm, by rw [List.append_nil]; exact hF, by rw [List.append_nil]; exact fi, fun _ d hd => by rw [List.take_zero] at hd; cases hd⟩) (fun j σ H' _ pv => by rw [hPw] at pv; obtain ⟨_, _, _, _, s5, _⟩ := pv; exact SqL.of (s5 _ _ hl)) (fun j v σ H3 gv pv => ?inner) (fun σ H3 pv => ?after)⟩
        case after =>
          rw [hPw] at pv
          obtain ⟨G, v6, v7, rfl, s5, hG, fi5, cl5⟩ := pv
          rw [ul, List.take_length] at cl5
          have fl := flen _ fi5
          rw [List.length_append] at fl
          walk_at "rd"
          refine ⟨_, .inl (SqL.of hG), ?_⟩
          rw [List.length_map, List.length_map, List.length_append]
          cases G with
          | nil =>
            rw [List.append_nil] at hG fi5
            refine ite2 (fun _ => ?_) (fun z => (by simp at z))
            refine ⟨_, F, rfl, SqL.of hG, by omega, fun ys t pm so nt => ?_⟩
            exact ret ys t _ ⟨up_of pm fi5.nd so, fun x => pm.mem_iff.trans (fi5.all (cl5 rfl).clo x)⟩ (s5.trans (same_upd nt)) (s5.free nt) upd_same
          | cons g0 G =>
            refine ite2 (fun z => absurd z (by rw [List.length_cons]; omega)) (fun _ => ?_)
            rw [hPv]
            exact ⟨F ++ g0 :: G, _, _, _, _, rfl, s5, hG, fi5, by rw [List.length_append, List.length_cons]; omega⟩
        case inner =>
          have nxt : ∀ (G : List Int) (v6 v7 : Option V) (H' : Hp), Same H H' → H' fnd = some (.lst ((F ++ G).map V.int)) → FInv D R s (F ++ G) → (G = [] → Cl1 R F (D.take (j + 1))) → Pw (j + 1) [some (.ref l), some (.int s), some (.ref o), some (.ref fnd), some (.int (0 + (i : Int))), some (.int ((F.map V.int).length : Nat)), v6, v7] H' := fun G v6 v7 H' h1 h2 h3 h4 => by
            rw [hPw]
            exact ⟨G, v6, v7, rfl, h1, h2, h3, h4⟩
          rw [hPw] at pv
          obtain ⟨G, v6, v7, rfl, s5, hG, fi5, cl5⟩ := pv
          obtain ⟨d, gd, td, rfl, htd⟩ := lget pl gv
          have fl := flen _ fi5
          have dD : d ∈ D := List.mem_of_getElem? gd
          have tk : D.take (j + 1) = D.take j ++ [d] := by rw [List.take_add_one, gd]; rfl
          rw [tk] at nxt
          walk_at "rg"
          refine ⟨_, SqT.of (s5 _ _ htd), rfl, _, _, rfl, _, _, rfl, rfl, ?_⟩
          walk_at "rg"
          refine half (R := R) rfl rfl rfl rfl hG (ho.same s5) (by omega) (fun n1 => ?_) (fun a1 b1 c1 => ?_)
          · refine half (R := R) rfl rfl rfl rfl hG (ho.same s5) (by omega) (fun n2 => ?_) (fun a2 b2 c2 => ?_)
            · refine nxt G _ _ H3 s5 hG fi5 fun e => ?_
              subst e
              rw [List.append_nil] at n1 n2
              intro c hc
              rcases List.mem_append.mp hc with z | z
              · exact cl5 rfl c z
              · rw [List.mem_singleton.mp z]
                exact ⟨fun h1 h2 => Classical.byContradiction fun h3 => n1 ⟨h1, h2, h3⟩, fun h1 h2 => Classical.byContradiction fun h3 => n2 ⟨h1, h2, h3⟩⟩
            · rw [List.append_assoc]
              refine nxt (G ++ [d.1]) _ _ _ (same_ch s5 nf) (by rw [upd_same]) ?_ (fun e => absurd e (by simp))
              rw [← List.append_assoc]
              exact fi5.add a2 b2 (.inr dD) c2
          · have fi6 := fi5.add a1 b1 (.inl dD) c1
            have fl6 := flen _ fi6
            have s6 := same_ch (o := HO.lst ((F ++ G ++ [d.2]).map V.int)) s5 nf
            have hG6 : upd H3 fnd (HO.lst ((F ++ G ++ [d.2]).map V.int)) fnd = some (.lst ((F ++ G ++ [d.2]).map V.int)) := upd_same
            generalize upd H3 fnd (HO.lst ((F ++ G ++ [d.2]).map V.int)) = H6 at s6 hG6
            refine half (R := R) rfl rfl rfl rfl hG6 (ho.same s6) (by omega) (fun n2 => ?_) (fun a2 b2 c2 => ?_)
            · refine nxt (G ++ [d.2]) _ _ H6 s6 (by rw [← List.append_assoc]; exact hG6) (by rw [← List.append_assoc]; exact fi6) (fun e => absurd e (by simp))
            · rw [List.append_assoc, List.append_assoc]
              refine nxt (G ++ ([d.2] ++ [d.1])) _ _ _ (same_ch s6 nf) (by rw [upd_same]) ?_ (fun e => absurd e (by simp))
              rw [← List.append_assoc, ← List.append_assoc]
              exact fi6.add a2 b2 (.inr dD) c2
end

/-! ### what many laws need: the same data, a house made -/
theorem same_ok {n : Nat} {H : Hp} {x y : V} {Q : VK} {E : XK} (h : Sm H n x y) (q : Q (.bl true) H) : spSame n [x, y] H Q E := ⟨x, y, rfl, h, q⟩
theorem paired_flat {H : Hp} {n : Nat} {us : List V} (h : ∀ x ∈ us, flat4 x = true) : Paired (Sm H n) us us := by
  induction us with
  | nil => exact Paired.nil
  | cons a l ih => exact Paired.cons (Sm.flat (h a List.mem_cons_self)) (ih fun x hx => h x (List.mem_cons_of_mem _ hx))
theorem sm_flats {H : Hp} {x y : Addr} {us : List V} (hx : H x = some (.lst us)) (hy : H y = some (.lst us)) (h : ∀ x ∈ us, flat4 x = true) (hl : us.length ≤ 100000) (n : Nat) : Sm H (n + 1) (.ref x) (.ref y) :=
  .inr ⟨x, y, _, _, rfl, rfl, .inl ⟨hx, hy⟩, paired_flat h, hl⟩
theorem sm_flatsT {H : Hp} {x y : Addr} {us : List V} (hx : H x = some (.tup us)) (hy : H y = some (.tup us)) (h : ∀ x ∈ us, flat4 x = true) (hl : us.length ≤ 100000) (n : Nat) : Sm H (n + 1) (.ref x) (.ref y) :=
  .inr ⟨x, y, _, _, rfl, rfl, .inr ⟨hx, hy⟩, paired_flat h, hl⟩
theorem flat_intsV (l : List Int) : ∀ x ∈ l.map V.int, flat4 x = true := fun x hx => by
  obtain ⟨i, _, rfl⟩ := List.mem_map.mp hx
  rfl
theorem sm_call {H : Hp} {u v : V} {d : Cl} (hu : IsC H u d) (hv : IsC H v d) (n : Nat) : Sm H (n + 1) u v := by
  obtain ⟨t, rfl, e1⟩ := hu
  obtain ⟨t', rfl, e2⟩ := hv
  exact .inr ⟨t, t', _, _, rfl, rfl, .inr ⟨e1, e2⟩, Paired.cons (Sm.flat rfl) (Paired.cons (Sm.flat rfl) Paired.nil), by show 2 ≤ 100000; decide⟩
theorem sm_logs {H : Hp} {x y : Addr} {us vs : List V} {D : List Cl} (hx : H x = some (.lst us)) (hy : H y = some (.lst vs)) (pu : LG H us D) (pv : LG H vs D) (hl : D.length ≤ 100000) (n : Nat) : Sm H (n + 2) (.ref x) (.ref y) := by
  refine .inr ⟨x, y, _, _, rfl, rfl, .inl ⟨hx, hy⟩, ?_, by rw [pu.len]; exact hl⟩
  clear hx hy hl
  induction pu generalizing vs with
  | nil => cases pv; exact Paired.nil
  | cons r _ ih => cases pv with | cons r2 t2 => exact Paired.cons (sm_call r r2 n) (ih t2)
theorem sm_pair {H : Hp} {u v : V} {d : Pr} (hu : IsP H u d) (hv : IsP H v d) (n : Nat) : Sm H (n + 1) u v := by
  obtain ⟨t, rfl, e1⟩ := hu
  obtain ⟨t', rfl, e2⟩ := hv
  exact .inr ⟨t, t', _, _, rfl, rfl, .inr ⟨e1, e2⟩, Paired.cons (Sm.flat rfl) (Paired.cons (Sm.flat rfl) Paired.nil), by show 2 ≤ 100000; decide⟩
theorem sm_pairs {H : Hp} {x y : Addr} {us vs : List V} {D : List Pr} (hx : H x = some (.lst us)) (hy : H y = some (.lst vs)) (pu : PL H us D) (pv : PL H vs D) (hl : us.length ≤ 100000) (n : Nat) : Sm H (n + 2) (.ref x) (.ref y) := by
  refine .inr ⟨x, y, _, _, rfl, rfl, .inl ⟨hx, hy⟩, ?_, hl⟩
  clear hx hy hl
  induction pu generalizing vs with
  | nil => cases pv; exact Paired.nil
  | cons r _ ih => cases pv with | cons r2 t2 => exact Paired.cons (sm_pair r r2 n) (ih t2)
theorem mm2_same {r : Nat} {D : List Pr} (h : Drs r D) : D.map mm2 = D := by
  refine (List.map_congr_left fun d hd => ?_).trans (List.map_id _)
  have := (h.ok d hd).2.1
  unfold mm2
  rw [if_neg (by omega), if_pos (by omega)]
  rfl
theorem use_init {C x dx l : Addr} {r : Nat} {us : List V} {D G : List Pr} {H : Hp} {Q : VK} {E : XK} (nx : H x = none) (ndx : H dx = none) (hl : H l = some (.lst us)) (pl : PL H us D) (pm : (D.map mm2).Perm G) (drs : Drs r G) (r1 : 1 ≤ r) (r12 : r ≤ 12)
    (q : ∀ own H2, HouseAt C H2 x r G own → Same H H2 → (∀ b ∈ own, H b = none) → Q .non H2) : spHinit C [.ref x, .int r, .ref l] (upd (upd H dx (.own x)) x (.ins C dx [])) Q E := by
  have s0 : Same H (upd (upd H dx (.own x)) x (.ins C dx [])) := fun b o e => by
    rw [upd_ne (ne_of_none e nx), upd_ne (ne_of_none e ndx)]
    exact e
  refine ⟨x, dx, l, r, us, D, D.map mm2, rfl, upd_same, s0 _ _ hl, pl.kt (KT.same s0), rfl, pm.nodup_iff.mpr drs.asc.nodup, fun d hd => drs.ok d (pm.mem_iff.mp hd), r1, r12, fun D' own H' mem hh keep free => ?_⟩
  have e : D' = G := asc_uniq hh.ok.asc drs.asc fun d => (mem d).trans pm.mem_iff
  subst e
  refine q own H' hh (fun b o e => keep b o (s0 b o e) (ne_of_none e nx)) fun b hb => ?_
  by_cases e : b = x
  · rw [e]
    exact nx
  · exact s0.free (free b hb e)
/-- a method of the class at C that keeps a promise -/
structure Md (P : Program) (w : World) (K : PySem.W.Frag) (mg : Str → Option Value) (base : Heap) (C : Addr) (x : Str) (ps : List Str) (k : Nat) (sp : Sp) (f : Addr) (fd : FuncData) : Prop where
  m : Meth K C x f
  b : Binds K fd ps []
  ok : FnOk P w K mg base CX0 k f fd ps sp
theorem atI_neg {xs : List V} {j : Nat} {v : V} {z : Int} (e : z = -(1 + (j : Int))) (hj : j < xs.length) (g : xs[xs.length - 1 - j]? = some v) : atI xs z = some v := by
  unfold atI
  have e2 : ixN xs.length z = some (xs.length - 1 - j) := by
    unfold ixN
    rw [if_neg (by omega), if_pos (by omega)]
    congr 1
    omega
  rw [e2]
  exact g
theorem paired_append {α β : Type} {F : α → β → Prop} {a c : List α} {b d : List β} (h : Paired F a b) (k : Paired F c d) : Paired F (a ++ c) (b ++ d) := by
  induction h with
  | nil => exact k
  | cons r _ ih => exact Paired.cons r ih

abbrev sLwd : Stmt := topS 21
abbrev sLws : Stmt := topS 22
abbrev sLlg : Stmt := topS 26
section
variable {P : Program} {w : World} {K : PySem.W.Frag} {mg : Str → Option Value} {base : Heap}
theorem scLwd : FnScope ["a", "b", "letters", "word", "k"] ["a", "b"] (defScope sLwd) := ⟨rfl, rfl, rfl, by decide +kernel, rfl, by decide +kernel, by decide +kernel⟩
def spLwd : Sp := fun vs H Q _ => ∃ (x y : Int), vs = [.int x, .int y] ∧ ∀ z : Str, wk 8 z → 1 ≤ z.length → Q (.str z) H
theorem ok_lwd {f : Addr} {fd : FuncData} (F : Fun K "_law_word" "_law_word" sLwd f fd) (T : Bi mg) : FnOk P w K mg base CX0 1 f fd ["a", "b"] spLwd := by
  refine F.ok scLwd (fun vs H Q E h => ?_) (fun cdv A outer s H vs Q E hr h => ?_)
  · obtain ⟨x, y, rfl, _⟩ := h
    rfl
  · obtain ⟨x, y, rfl, q⟩ := h
    refine ⟨_, (pss_cons (ps_set (i := 2) scLwd.nd rfl (Or.inl rfl) pe_str)
      (pss_cons (ps_set (i := 3) scLwd.nd rfl (Or.inl rfl) pe_str)
      (pss_cons (ps_for PassesOwn.never rfl (pi_range1 (by rfl) T.range (pa_cons (pe_op op_add pe_int (pe_op op_mod (pe_callTy cr_intI (by rfl) T.int (by decide +kernel) (pa_cons (pv 0) pa_nil)) pe_int)) pa_nil)) (pg_name (i := 4) scLwd.nd rfl (Or.inl rfl))
      (pss_one (ps_set (i := 3) scLwd.nd rfl (Or.inl rfl) (pe_op op_add_str (pv 3) (pe_ix ix_str (pv 2) (pe_op op_mod (pe_callTy cr_intI (by rfl) T.int (by decide +kernel) (pa_cons (pe_op op_add (pv 1) (pe_op op_mul (pv 4) (pe_op op_fdiv (pv 0) pe_int))) pa_nil)) pe_int) (fun _ _ => rfl))))))
      (pss_one (ps_ret (pv 3)))))), ?_⟩
    walk_at "rd"
    have m0 := Int.emod_nonneg x (show (8 : Int) ≠ 0 by decide)
    have m1 := Int.emod_lt_of_pos x (show (0 : Int) < 8 by decide)
    obtain ⟨Pv, hPv⟩ : ∃ Pv : Nat → L2.St → Hp → Prop, Pv = (fun i σ H' => ∃ (z : Str) (v4 : Option V), σ = [some (.int x), some (.int y), some (.str (Str.ofString "abcdefghijklmnopqrstuvwxyz")), some (.str z), v4] ∧ H' = H ∧ z.length = i ∧ PyData.strOk z = true) := ⟨_, rfl⟩
    refine for_iterW ?_
    walk_at "rd"
    refine ⟨by decide, by omega, by omega, for_range (lo := 0) (n := (1 + x % 8).toNat) Pv (by rw [hPv]; exact ⟨_, none, rfl, rfl, by decide +kernel, by decide +kernel⟩) (fun i σ H' hi pv => ?_) (fun σ H' pv => ?_)⟩
    · have nxt : ∀ z v4, z.length = i + 1 → PyData.strOk z = true → Pv (i + 1) [some (.int x), some (.int y), some (.str (Str.ofString "abcdefghijklmnopqrstuvwxyz")), some (.str z), v4] H := fun z v4 h h2 => by
        rw [hPv]
        exact ⟨z, v4, rfl, rfl, h, h2⟩
      rw [hPv] at pv
      obtain ⟨z, v4, rfl, rfl, lz, oz⟩ := pv
      have k0 := Int.emod_nonneg (y + (0 + (i : Int)) * (x / 8)) (show (26 : Int) ≠ 0 by decide)
      have k1 := Int.emod_lt_of_pos (y + (0 + (i : Int)) * (x / 8)) (show (0 : Int) < 26 by decide)
      obtain ⟨j, ej⟩ : ∃ j : Nat, (y + (0 + (i : Int)) * (x / 8)) % 26 = j := ⟨((y + (0 + (i : Int)) * (x / 8)) % 26).toNat, by omega⟩
      obtain ⟨c, gc, c11⟩ := letters_at (j := j) (by omega)
      walk_at "rd"
      rw [ej]
      refine ⟨⟨by decide, by decide⟩, .inl (by constructor <;> omega), by decide, by decide +kernel, c, gc, ?_, nxt _ _ ?_ (strOk_app oz (strOk_one c11))⟩
      · have e1 : (Str.mk #[c]).length = 1 := rfl
        rw [e1]
        exact Nat.le_of_lt (len_big (by omega))
      · rw [Str.length_append, lz]
        rfl
    · rw [hPv] at pv
      obtain ⟨z, v4, rfl, rfl, lz, oz⟩ := pv
      walk_at "rd"
      exact q z ⟨by omega, oz⟩ (by omega)
theorem scLws : FnScope ["numbers", "at", "many", "k", "words", "place", "letter"] ["numbers", "at", "many"] (defScope sLws) := ⟨rfl, rfl, rfl, by decide +kernel, rfl, by decide +kernel, by decide +kernel⟩
/-- n words -/
def Words (n : Nat) (Z : List Str) : Prop := Z.length = n ∧ ∀ z ∈ Z, wk 17 z
def spLws (K : PySem.W.Frag) : Sp := fun vs H Q _ => ∃ (a : Addr) (ns : List Int) (at_ m : Nat), vs = [.ref a, .int at_, .int m] ∧ SqL K H a (ns.map V.int) ∧ at_ + 2 * m ≤ ns.length ∧ 1 ≤ m ∧ m ≤ 100 ∧ ∀ Z p H', Words m Z → Same H H' → H p = none → H' p = some (.lst (Z.map V.str)) → Q (.ref p) H'
theorem ok_lws {f fS : Addr} {fd fdS : FuncData} (F : Fun K "_law_words" "_law_words" sLws f fd) (T : Bi mg) (d__law_word : Df P w K mg base "_law_word" ["a", "b"] 1 spLwd fS fdS) : FnOk P w K mg base CX0 2 f fd ["numbers", "at", "many"] (spLws K) := by
  refine F.ok scLws (fun vs H Q E h => ?_) (fun cdv A outer s H vs Q E hr h => ?_)
  · obtain ⟨a, ns, at_, m, rfl, _⟩ := h
    rfl
  · obtain ⟨a, ns, at_, m, rfl, hS, hn, m1, m100, q⟩ := h
    refine ⟨_, (pss_cons (ps_setLc (i := 4) (own := [("k", 3)]) (te := tCall spLwd [] E0 (tCons (tOp (rIxL K) (tVar 0) (tOp (rI0 fun i j => V.int (i + j)) (tVar 1) (tOp (rI CMul fun i j => V.int (i * j)) (tC (V.int 2)) (tVar 3)))) (tCons (tOp (rIxL K) (tVar 0) (tOp (rI0 fun i j => V.int (i + j)) (tOp (rI0 fun i j => V.int (i + j)) (tVar 1) (tOp (rI CMul fun i j => V.int (i * j)) (tC (V.int 2)) (tVar 3))) (tC (V.int 1)))) tNil))) (by rfl) scLws.nd rfl rfl (sw_true rfl rfl rfl (by decide +kernel)) (pi_range1 (by rfl) T.range (pa_cons (pv 2) pa_nil)) (blkOk_by (N := ["numbers", "at", "many", "k", "words", "place", "letter"]) (sc := defScope sLws) (by decide +kernel)) (fun _ _ _ _ _ => pg_name (i := 3) scLws.nd rfl (Or.inl rfl)) (fun _ _ _ _ _ => pts_nil) (fun _ _ _ _ _ => (pe_call d__law_word.ok (hr.mono (by decide)) (by rfl) d__law_word.at_ d__law_word.kp d__law_word.b .nil pass0 (pa_cons (pe_ix ix_list (pv 0) (pe_op op_add (pv 1) (pe_op op_mul pe_int (pv 3))) (fun _ _ => rfl)) (pa_cons (pe_ix ix_list (pv 0) (pe_op op_add (pe_op op_add (pv 1) (pe_op op_mul pe_int (pv 3))) pe_int) (fun _ _ => rfl)) pa_nil)))))
      (pss_cons (ps_if (pt_cmpR op_eqI (pe_op op_mod (pe_op op_fdiv (pe_callTy cr_intI (by rfl) T.int (by decide +kernel) (pa_cons (pe_ix ix_list (pv 0) (pv 1) (fun _ _ => rfl)) pa_nil)) pe_int) pe_int) pe_int (nomark _))
      (pss_one (ps_for PassesOwn.never rfl (pi_range2 (by rfl) T.range (pa_cons pe_int (pa_cons (pv 2) pa_nil))) (pg_name (i := 3) scLws.nd rfl (Or.inl rfl))
        (pss_cons (ps_set (i := 5) scLws.nd rfl (Or.inl rfl) (pe_op op_mod (pe_callTy cr_intI (by rfl) T.int (by decide +kernel) (pa_cons (pe_ix ix_list (pv 0) (pe_op op_add (pv 1) (pe_op op_mul pe_int (pv 3))) (fun _ _ => rfl)) pa_nil)) (pe_callB call_len_str (by rfl) T.len (by decide +kernel) (pa_cons (pe_ix ix_list (pv 4) pe_int (fun _ _ => rfl)) pa_nil))))
          (pss_cons (ps_set (i := 6) scLws.nd rfl (Or.inl rfl) (pe_ix ix_str pe_str (pe_op op_mod (pe_callTy cr_intI (by rfl) T.int (by decide +kernel) (pa_cons (pe_ix ix_list (pv 0) (pe_op op_add (pe_op op_add (pv 1) (pe_op op_mul pe_int (pv 3))) pe_int) (fun _ _ => rfl)) pa_nil)) pe_int) (fun _ _ => rfl)))
          (pss_one (ps_asg (pe_op op_add_str (pe_op op_add_str (pe_slice sl_str (pe_ix ix_list (pv 4) pe_int (fun _ _ => rfl)) po_none (po_some (pv 5))) (pv 6)) (pe_slice sl_str (pe_ix ix_list (pv 4) pe_int (fun _ _ => rfl)) (po_some (pe_op op_add (pv 5) pe_int)) po_none)) (pg_sub (pv 4) (pv 3) set_list)))))))
      pss_nil)
      (pss_one (ps_ret (pv 4))))), ?_⟩
    walk_at "rd"
    have gn : ∀ (j : Nat), j < ns.length → ∃ x, (ns.map V.int)[j]? = some (.int x) := fun j hj => ⟨ns[j], by rw [List.getElem?_map, List.getElem?_eq_getElem hj]; rfl⟩
    refine ⟨_, rfl, m, rfl, by omega, by omega, fun p np => ?_⟩
    obtain ⟨Pw, hPw⟩ : ∃ Pw : Nat → Hp → Prop, Pw = (fun i Hx => ∃ Z : List Str, Same H Hx ∧ Hx p = some (.lst (Z.map V.str)) ∧ Z.length = i ∧ ∀ z ∈ Z, wk 8 z ∧ 1 ≤ z.length) := ⟨_, rfl⟩
    refine lc_range (lo := 0) (n := ((m : Nat) : Int).toNat) Pw (by rw [hPw]; exact ⟨[], same_upd np, upd_same, rfl, fun z hz => by cases hz⟩) (fun i Hx hi pv => ?_) (fun H1 pv => ?_)
    · rw [hPw] at pv
      obtain ⟨Z, sx, hp, lz, wz⟩ := pv
      obtain ⟨x0, g0⟩ := gn (at_ + 2 * i) (by omega)
      obtain ⟨x1, g1⟩ := gn (at_ + 2 * i + 1) (by omega)
      have hS' := sx.seq hS
      simp only [wipe]
      walk_at "rd"
      refine ⟨.inl (by decide), _, hS', _, at_of (j := at_ + 2 * i) (by omega) g0, .inl (by decide), _, hS', _, at_of (j := at_ + 2 * i + 1) (by omega) g1, x0, x1, rfl, fun z kz lz1 => ?_⟩
      refine ⟨_, hp, len_big (by rw [List.length_map]; omega), ?_⟩
      rw [hPw]
      refine ⟨Z ++ [z], same_ch sx np, by rw [upd_same, List.map_append]; rfl, by rw [List.length_append, lz]; rfl, fun y hy => ?_⟩
      rcases List.mem_append.mp hy with h | h
      · exact wz y h
      · rw [List.mem_singleton.mp h]
        exact ⟨kz, lz1⟩
    rw [hPw] at pv
    obtain ⟨Z, s1, hp, lz, wz⟩ := pv
    clear hPw Pw
    have lz : Z.length = m := by omega
    obtain ⟨xa, ga⟩ := gn at_ (by omega)
    refine ⟨_, s1.seq hS, _, at_of (j := at_) rfl ga, xa, rfl, ⟨by decide, by decide⟩, by decide, ?_⟩
    refine ite2 (fun _ => ?_) (fun _ => q Z p H1 ⟨lz, fun z hz => (wz z hz).1.mono (by decide)⟩ s1 np hp)
    obtain ⟨z0, gz0⟩ : ∃ z0, Z[0]? = some z0 := ⟨_, List.getElem?_eq_getElem (by omega)⟩
    have w0 := wz z0 (List.mem_of_getElem? gz0)
    obtain ⟨Pv, hPv⟩ : ∃ Pv : Nat → L2.St → Hp → Prop, Pv = (fun i σ Hx => ∃ (Y : List Str) (v3 v5 v6 : Option V), σ = [some (.ref a), some (.int at_), some (.int m), v3, some (.ref p), v5, v6] ∧ Same H Hx ∧ Hx p = some (.lst (Y.map V.str)) ∧ Y.length = m ∧ (∀ z ∈ Y, wk 17 z) ∧ Y[0]? = some z0) := ⟨_, rfl⟩
    refine for_iterW ?_
    walk_at "rd"
    refine ⟨by omega, by omega, by omega, by omega, for_range (lo := 1) (n := ((m : Int) - 1).toNat) Pv (by rw [hPv]; exact ⟨Z, none, none, none, rfl, s1, hp, lz, fun z hz => (wz z hz).1.mono (by decide), gz0⟩) (fun i σ Hx hi pv => ?_) (fun σ Hx pv => ?_)⟩
    rotate_left
    · rw [hPv] at pv
      obtain ⟨Y, v3, v5, v6, rfl, sm, hp, ly, wy, _⟩ := pv
      walk_at "rd"
      exact q Y p Hx ⟨ly, wy⟩ sm np hp
    have nxt : ∀ (Y : List Str) (v3 v5 v6 : Option V) (Hx : Hp), Same H Hx → Hx p = some (.lst (Y.map V.str)) → Y.length = m → (∀ z ∈ Y, wk 17 z) → Y[0]? = some z0 → Pv (i + 1) [some (.ref a), some (.int at_), some (.int m), v3, some (.ref p), v5, v6] Hx := fun Y v3 v5 v6 Hx h1 h2 h3 h4 h5 => by
      rw [hPv]
      exact ⟨Y, v3, v5, v6, rfl, h1, h2, h3, h4, h5⟩
    rw [hPv] at pv
    obtain ⟨Y, v3, v5, v6, rfl, sm, hp, ly, wy, gy0⟩ := pv
    have hS' := sm.seq hS
    have gy2 : (Y.map V.str)[0]? = some (.str z0) := by rw [List.getElem?_map, gy0]; rfl
    obtain ⟨x0, g0⟩ := gn (at_ + 2 * (1 + i)) (by omega)
    obtain ⟨x1, g1⟩ := gn (at_ + 2 * (1 + i) + 1) (by omega)
    have k0 := Int.emod_nonneg x1 (show (26 : Int) ≠ 0 by decide)
    have k1 := Int.emod_lt_of_pos x1 (show (0 : Int) < 26 by decide)
    obtain ⟨j, ej⟩ : ∃ j : Nat, x1 % 26 = j := ⟨(x1 % 26).toNat, by omega⟩
    obtain ⟨c, gc, c11⟩ := letters_at (j := j) (by omega)
    have big0 : z0.length ≤ sizeLine := Nat.le_of_lt (len_big (by have := w0.1.1; omega))
    have e1 : (Str.mk #[c]).length = 1 := rfl
    walk_at "rd"
    refine ⟨.inl (by decide), _, hS', _, at_of (j := at_ + 2 * (1 + i)) (by omega) g0, x0, rfl, _, SqL.of hp, _, at_of (j := 0) rfl gy2, z0, rfl, big0, by have := w0.2; omega, .inl (by decide), _, hS', _, at_of (j := at_ + 2 * (1 + i) + 1) (by omega) g1, x1, rfl, by decide, by decide +kernel, c, by rw [ej]; exact gc, _, SqL.of hp, _, at_of (j := 0) rfl gy2, ?_⟩
    generalize x0 % (z0.length : Int) = pl
    have c1 := wk_cut w0.1 none (some pl)
    have c2 := wk_cut w0.1 (some (pl + 1)) none
    have wc : wk 1 (Str.mk #[c]) := ⟨Nat.le_of_eq e1, strOk_one c11⟩
    have w9 : wk 9 (cutS z0 none (some pl) ++ Str.mk #[c]) := wk_app c1 wc (by decide)
    have w17 : wk 17 (cutS z0 none (some pl) ++ Str.mk #[c] ++ cutS z0 (some (pl + 1)) none) := wk_app w9 c2 (by decide)
    refine ⟨z0, rfl, big0, _, rfl, Nat.le_of_lt (len_big (by rw [e1]; have := c1.1; omega)), _, SqL.of hp, _, at_of (j := 0) rfl gy2, ?_⟩
    refine ⟨z0, rfl, big0, _, rfl, Nat.le_of_lt (len_big (by have := w9.1; have := c2.1; omega)), ?_⟩
    refine ⟨_, hp, 1 + i, ixn (by omega) (by rw [List.length_map]; omega), ?_⟩
    rw [set_map]
    refine nxt _ _ _ _ _ (same_ch sm np) upd_same (by rw [List.length_set]; exact ly) (fun z hz => ?_) (by rw [List.getElem?_set_ne (by omega)]; exact gy0)
    rcases List.mem_or_eq_of_mem_set hz with h | h
    · exact wy z h
    · rw [h]
      exact w17
theorem scLlg : FnScope ["numbers", "at", "many", "rooms", "words", "log", "k", "room"] ["numbers", "at", "many", "rooms", "words"] (defScope sLlg) := ⟨rfl, rfl, rfl, by decide +kernel, rfl, by decide +kernel, by decide +kernel⟩
def spLlg (K : PySem.W.Frag) : Sp := fun vs H Q _ => ∃ (a b : Addr) (ns : List Int) (at_ m r : Nat) (Z : List Str), vs = [.ref a, .int at_, .int m, .int r, .ref b] ∧ SqL K H a (ns.map V.int) ∧ at_ + 2 * m ≤ ns.length ∧ m ≤ 1000 ∧ 1 ≤ r ∧ H b = some (.lst (Z.map V.str)) ∧ 1 ≤ Z.length ∧ (∀ z ∈ Z, wk 17 z) ∧
  ∀ L ws p H', L.length = m → InR r L → (∀ c ∈ L, wk 17 c.2) → Same H H' → H p = none → H' p = some (.lst ws) → LG H' ws L → Q (.ref p) H'
theorem ok_llg {f : Addr} {fd : FuncData} (F : Fun K "_law_log" "_law_log" sLlg f fd) (T : Bi mg) : FnOk P w K mg base CX0 1 f fd ["numbers", "at", "many", "rooms", "words"] (spLlg K) := by
  refine F.ok scLlg (fun vs H Q E h => ?_) (fun cdv A outer s H vs Q E hr h => ?_)
  · obtain ⟨a, b, ns, at_, m, r, Z, rfl, _⟩ := h
    rfl
  · obtain ⟨a, b, ns, at_, m, r, Z, rfl, hS, hn, hm, r1, hb, z1, zw, q⟩ := h
    refine ⟨_, (pss_cons (ps_set (i := 5) scLlg.nd rfl (Or.inl rfl) (pe_lst pa_nil))
      (pss_cons (ps_for PassesOwn.never rfl (pi_range1 (by rfl) T.range (pa_cons (pv 2) pa_nil)) (pg_name (i := 6) scLlg.nd rfl (Or.inl rfl))
      (pss_cons (ps_set (i := 7) scLlg.nd rfl (Or.inl rfl) (pe_op op_mod (pe_callTy cr_intI (by rfl) T.int (by decide +kernel) (pa_cons (pe_ix ix_list (pv 0) (pe_op op_add (pv 1) (pe_op op_mul pe_int (pv 6))) (fun _ _ => rfl)) pa_nil)) (pv 3)))
        (pss_one (ps_expr (pe_bm PySem.F.plainAttrs_list PySem.F.slot_list_append PySem.F.type_list_append mt_append (pv 5) (pa_cons (pe_tup (pa_cons (pv 7) (pa_cons (pe_ix ix_list (pv 4) (pe_op op_mod (pe_callTy cr_intI (by rfl) T.int (by decide +kernel) (pa_cons (pe_ix ix_list (pv 0) (pe_op op_add (pe_op op_add (pv 1) (pe_op op_mul pe_int (pv 6))) pe_int) (fun _ _ => rfl)) pa_nil)) (pe_callB call_len_seq (by rfl) T.len (by decide +kernel) (pa_cons (pv 4) pa_nil))) (fun _ _ => rfl)) pa_nil))) pa_nil))))))
      (pss_one (ps_ret (pv 5))))), ?_⟩
    walk_at "rd"
    have gn : ∀ (j : Nat), j < ns.length → ∃ x, (ns.map V.int)[j]? = some (.int x) := fun j hj => ⟨ns[j], by rw [List.getElem?_map, List.getElem?_eq_getElem hj]; rfl⟩
    refine ⟨by decide, fun p np => ?_⟩
    refine for_iterW ?_
    walk_at "rd"
    obtain ⟨Pv, hPv⟩ : ∃ Pv : Nat → L2.St → Hp → Prop, Pv = (fun i σ H' => ∃ (ws : List V) (L : List Cl) (v5 v6 : Option V), σ = [some (.ref a), some (.int at_), some (.int m), some (.int r), some (.ref b), some (.ref p), v5, v6] ∧ Same H H' ∧ H' p = some (.lst ws) ∧ LG H' ws L ∧ L.length = i ∧ InR r L ∧ ∀ c ∈ L, wk 17 c.2) := ⟨_, rfl⟩
    refine ⟨by omega, by omega, for_range (lo := 0) (n := (m : Int).toNat) Pv (by rw [hPv]; exact ⟨[], [], none, none, rfl, same_upd np, upd_same, LG.nil0 _, rfl, (fun c hc => by cases hc), fun c hc => by cases hc⟩) (fun i σ H' hi pv => ?_) (fun σ H' pv => ?_)⟩
    rotate_left
    · rw [hPv] at pv
      obtain ⟨ws, L, v5, v6, rfl, sm, hp, lw, lL, inr, wks⟩ := pv
      walk_at "rd"
      exact q L ws p H' (by omega) inr wks sm np hp lw
    rw [hPv] at pv
    obtain ⟨ws, L, v5, v6, rfl, sm, hp, lw, lL, inr, wks⟩ := pv
    have hS' := sm.seq hS
    have hb' := sm _ _ hb
    obtain ⟨x0, g0⟩ := gn (at_ + 2 * i) (by omega)
    obtain ⟨x1, g1⟩ := gn (at_ + 2 * i + 1) (by omega)
    have r0 := Int.emod_nonneg x0 (show (r : Int) ≠ 0 by omega)
    have r2 := Int.emod_lt_of_pos x0 (show (0 : Int) < r by omega)
    have p0 := Int.emod_nonneg x1 (show (Z.length : Int) ≠ 0 by omega)
    have p1 := Int.emod_lt_of_pos x1 (show (0 : Int) < (Z.length : Int) by omega)
    obtain ⟨j, ej⟩ : ∃ j : Nat, x1 % (Z.length : Int) = j := ⟨(x1 % (Z.length : Int)).toNat, by omega⟩
    obtain ⟨z, gz, zk⟩ : ∃ z, (Z.map V.str)[j]? = some (.str z) ∧ wk 17 z := ⟨Z[j]'(by omega), by rw [List.getElem?_map, List.getElem?_eq_getElem (by omega)]; rfl, zw _ (List.getElem_mem _)⟩
    have wl : ws.length ≤ 1000 := by rw [lw.len]; omega
    walk_at "rd"
    refine ⟨.inl (by decide), _, hS', _, at_of (j := at_ + 2 * i) (by omega) g0, x0, rfl, by omega, .inl ⟨rfl, _, SqL.of hp⟩, .inl (by decide), _, hS', _, at_of (j := at_ + 2 * i + 1) (by omega) g1, x1, rfl, _, .inl (SqL.of hb'), by rw [List.length_map]; omega, _, SqL.of hb', .str z, by rw [List.length_map, ej]; exact atI_nat gz, by decide, fun t nt => ?_⟩
    have st := same_upd (o := HO.tup [V.int (x0 % (r : Int)), V.str z]) nt
    have ht := upd_same (H := H') (a := t) (o := HO.tup [V.int (x0 % (r : Int)), V.str z])
    generalize upd H' t (HO.tup [V.int (x0 % (r : Int)), V.str z]) = H2 at st ht ⊢
    have hp2 := st _ _ hp
    have kt : KT H2 (upd H2 p (HO.lst (ws ++ [V.ref t]))) := KT.lst hp2
    refine ⟨ws, hp2, len_big (by omega), ?_⟩
    rw [hPv]
    refine ⟨ws ++ [.ref t], L ++ [(x0 % (r : Int), z)], _, _, rfl, same_ch (sm.trans st) np, upd_same, LG.snoc ((lw.kt (KT.same st)).kt kt) ⟨t, rfl, kt _ _ ht⟩, by rw [List.length_append, lL]; rfl, fun c hc => ?_, fun c hc => ?_⟩
    · rcases List.mem_append.mp hc with h | h
      · exact inr c h
      · rw [List.mem_singleton.mp h]
        exact ⟨r0, r2⟩
    · rcases List.mem_append.mp hc with h | h
      · exact wks c h
      · rw [List.mem_singleton.mp h]
        exact zk
end

/-! ### _law_calls: a call for each cell -/
abbrev sLcs : Stmt := topS 27
theorem for_itL {wi : TI} {g : TG} {tb : TS} {D : Ends} {σ : L2.St} {H : Hp} (h : wi σ H fun J H1 => tFor (fun _ H R => R J H) g tb D σ H1) : tFor wi g tb D σ H := h
section
variable {P : Program} {w : World} {K : PySem.W.Frag} {mg : Str → Option Value} {base : Heap}
theorem scLcs : FnScope ["script", "at", "rooms", "words", "most", "log", "k", "cell"] ["script", "at", "rooms", "words", "most"] (defScope sLcs) := ⟨rfl, rfl, rfl, by decide +kernel, rfl, by decide +kernel, by decide +kernel⟩
def spLcs (K : PySem.W.Frag) : Sp := fun vs H Q _ => ∃ (a b : Addr) (ns : List Int) (at_ most r n : Nat) (Z : List Str), vs = [.ref a, .int at_, .int r, .ref b, .int most] ∧ SqL K H a (ns.map V.int) ∧ ns.length ≤ 63 ∧ at_ ≤ 1000 ∧ most ≤ 1000 ∧ 1 ≤ r ∧ H b = some (.lst (Z.map V.str)) ∧ 1 ≤ Z.length ∧ (∀ z ∈ Z, wk n z) ∧
  ∀ L ws p H', L.length ≤ most → InR r L → (∀ c ∈ L, wk n c.2) → (∀ c ∈ L, c.2 ∈ Z) → Same H H' → H p = none → H' p = some (.lst ws) → LG H' ws L → Q (.ref p) H'
theorem ok_lcs {f fC : Addr} {fd fdC : FuncData} (F : Fun K "_law_calls" "_law_calls" sLcs f fd) (T : Bi mg) (d__law_cell : Df P w K mg base "_law_cell" ["script", "k"] 1 (spCell K) fC fdC) : FnOk P w K mg base CX0 2 f fd ["script", "at", "rooms", "words", "most"] (spLcs K) := by
  refine F.ok scLcs (fun vs H Q E h => ?_) (fun cdv A outer s H vs Q E hr h => ?_)
  · obtain ⟨a, b, ns, at_, most, r, n, Z, rfl, _⟩ := h
    rfl
  · obtain ⟨a, b, ns, at_, most, r, n, Z, rfl, hS, hn, ha, hm, r1, hb, z1, zw, q⟩ := h
    refine ⟨_, (pss_cons (ps_set (i := 5) scLcs.nd rfl (Or.inl rfl) (pe_lst pa_nil))
      (pss_cons (ps_for PassesOwn.never rfl (pi_range2 (by rfl) T.range (pa_cons (pv 1) (pa_cons (pe_callB (call_min2 rfl) (by rfl) T.min (by decide +kernel) (pa_cons (pe_callB call_len_seq (by rfl) T.len (by decide +kernel) (pa_cons (pv 0) pa_nil)) (pa_cons (pe_op op_add (pv 1) (pv 4)) pa_nil))) pa_nil))) (pg_name (i := 6) scLcs.nd rfl (Or.inl rfl))
      (pss_cons (ps_set (i := 7) scLcs.nd rfl (Or.inl rfl) (pe_call d__law_cell.ok (hr.mono (by decide)) (by rfl) d__law_cell.at_ d__law_cell.kp d__law_cell.b .nil pass0 (pa_cons (pv 0) (pa_cons (pv 6) pa_nil))))
        (pss_one (ps_expr (pe_bm PySem.F.plainAttrs_list PySem.F.slot_list_append PySem.F.type_list_append mt_append (pv 5) (pa_cons (pe_tup (pa_cons (pe_op op_mod (pe_callTy cr_intI (by rfl) T.int (by decide +kernel) (pa_cons (pv 7) pa_nil)) (pv 2)) (pa_cons (pe_ix ix_list (pv 3) (pe_op op_mod (pe_callTy cr_intI (by rfl) T.int (by decide +kernel) (pa_cons (pe_op op_fdiv (pv 7) pe_int) pa_nil)) (pe_callB call_len_seq (by rfl) T.len (by decide +kernel) (pa_cons (pv 3) pa_nil))) (fun _ _ => rfl)) pa_nil))) pa_nil))))))
      (pss_one (ps_ret (pv 5))))), ?_⟩
    walk_at "rd"
    refine ⟨by decide, fun p np => ?_⟩
    refine for_itL ?_
    walk_at "rd"
    have hS1 := (same_upd (o := HO.lst []) np).seq hS
    refine ⟨_, .inl hS1, ?_⟩
    obtain ⟨e, he, el⟩ : ∃ e : Int, (if (at_ : Int) + (most : Int) < (((ns.map V.int).length : Nat) : Int) then (at_ : Int) + (most : Int) else (((ns.map V.int).length : Nat) : Int)) = e ∧ 0 ≤ e ∧ e ≤ at_ + most ∧ e ≤ 63 := by
      rw [List.length_map]
      by_cases c : (at_ : Int) + most < ns.length
      · rw [if_pos c]
        exact ⟨_, rfl, by omega, by omega, by omega⟩
      · rw [if_neg c]
        exact ⟨_, rfl, by omega, by omega, by omega⟩
    rw [he]
    obtain ⟨e0, e1, e2⟩ := el
    obtain ⟨Pv, hPv⟩ : ∃ Pv : Nat → L2.St → Hp → Prop, Pv = (fun i σ H' => ∃ (ws : List V) (L : List Cl) (v6 v7 : Option V), σ = [some (.ref a), some (.int at_), some (.int r), some (.ref b), some (.int most), some (.ref p), v6, v7] ∧ Same H H' ∧ H' p = some (.lst ws) ∧ LG H' ws L ∧ L.length = i ∧ InR r L ∧ (∀ c ∈ L, wk n c.2) ∧ ∀ c ∈ L, c.2 ∈ Z) := ⟨_, rfl⟩
    refine ⟨by omega, by omega, by omega, by omega, for_range (lo := (at_ : Int)) (n := (e - (at_ : Int)).toNat) Pv (by rw [hPv]; exact ⟨[], [], none, none, rfl, same_upd np, upd_same, LG.nil0 _, rfl, (fun c hc => by cases hc), (fun c hc => by cases hc), fun c hc => by cases hc⟩) (fun i σ H' hi pv => ?_) (fun σ H' pv => ?_)⟩
    rotate_left
    · rw [hPv] at pv
      obtain ⟨ws, L, v6, v7, rfl, sm, hp, lw, lL, inr, wks, mz⟩ := pv
      walk_at "rd"
      exact q L ws p H' (by omega) inr wks mz sm np hp lw
    rw [hPv] at pv
    obtain ⟨ws, L, v6, v7, rfl, sm, hp, lw, lL, inr, wks, mz⟩ := pv
    have hS' := sm.seq hS
    have hb' := sm _ _ hb
    rw [show ((at_ : Int) + (i : Int)) = ((at_ + i : Nat) : Int) by omega]
    walk_at "rd"
    refine ⟨a, ns, at_ + i, rfl, hS', fun x0 _ => ?_⟩
    have r0 := Int.emod_nonneg x0 (show (r : Int) ≠ 0 by omega)
    have r2 := Int.emod_lt_of_pos x0 (show (0 : Int) < r by omega)
    have p0 := Int.emod_nonneg (x0 / 13) (show (Z.length : Int) ≠ 0 by omega)
    have p1 := Int.emod_lt_of_pos (x0 / 13) (show (0 : Int) < (Z.length : Int) by omega)
    obtain ⟨j, ej⟩ : ∃ j : Nat, x0 / 13 % (Z.length : Int) = j := ⟨(x0 / 13 % (Z.length : Int)).toNat, by omega⟩
    obtain ⟨z, gz, zk, zm⟩ : ∃ z, (Z.map V.str)[j]? = some (.str z) ∧ wk n z ∧ z ∈ Z := ⟨Z[j]'(by omega), by rw [List.getElem?_map, List.getElem?_eq_getElem (by omega)]; rfl, zw _ (List.getElem_mem _), List.getElem_mem _⟩
    have wl : ws.length ≤ 1063 := by rw [lw.len]; omega
    refine ⟨.inl ⟨rfl, _, SqL.of hp⟩, x0, rfl, by omega, x0, rfl, (by unfold CDiv; first | exact .inr (by decide) | decide | omega), _, .inl (SqL.of hb'), by rw [List.length_map]; omega, _, SqL.of hb', .str z, by rw [List.length_map, ej]; exact atI_nat gz, by decide, fun t nt => ?_⟩
    have st := same_upd (o := HO.tup [V.int (x0 % (r : Int)), V.str z]) nt
    have ht := upd_same (H := H') (a := t) (o := HO.tup [V.int (x0 % (r : Int)), V.str z])
    generalize upd H' t (HO.tup [V.int (x0 % (r : Int)), V.str z]) = H2 at st ht ⊢
    have hp2 := st _ _ hp
    have kt : KT H2 (upd H2 p (HO.lst (ws ++ [V.ref t]))) := KT.lst hp2
    refine ⟨ws, hp2, len_big (by omega), ?_⟩
    rw [hPv]
    refine ⟨ws ++ [.ref t], L ++ [(x0 % (r : Int), z)], _, _, rfl, same_ch (sm.trans st) np, upd_same, LG.snoc ((lw.kt (KT.same st)).kt kt) ⟨t, rfl, kt _ _ ht⟩, by rw [List.length_append, lL]; rfl, fun c hc => ?_, fun c hc => ?_, fun c hc => ?_⟩
    · rcases List.mem_append.mp hc with h | h
      · exact inr c h
      · rw [List.mem_singleton.mp h]
        exact ⟨r0, r2⟩
    · rcases List.mem_append.mp hc with h | h
      · exact wks c h
      · rw [List.mem_singleton.mp h]
        exact zk
    · rcases List.mem_append.mp hc with h | h
      · exact mz c h
      · rw [List.mem_singleton.mp h]
        exact zm
end

/-! ### a block cut into stretches -/
theorem sq1 {a1 b : TS} {D : Ends} {σ : L2.St} {H : Hp} (h : ∀ N : L2.St → Hp → Prop, (∀ σ' H', b D σ' H' → N σ' H') → a1 { D with nx := N } σ H) : (tSeq a1 b) D σ H := h (b D) fun _ _ z => z
theorem sq2 {a1 a2 b : TS} {D : Ends} {σ : L2.St} {H : Hp} (h : ∀ N : L2.St → Hp → Prop, (∀ σ' H', b D σ' H' → N σ' H') → (tSeq a1 a2) { D with nx := N } σ H) : (tSeq a1 (tSeq a2 b)) D σ H := h (b D) fun _ _ z => z
theorem sq3 {a1 a2 a3 b : TS} {D : Ends} {σ : L2.St} {H : Hp} (h : ∀ N : L2.St → Hp → Prop, (∀ σ' H', b D σ' H' → N σ' H') → (tSeq a1 (tSeq a2 a3)) { D with nx := N } σ H) : (tSeq a1 (tSeq a2 (tSeq a3 b))) D σ H := h (b D) fun _ _ z => z
theorem sq4 {a1 a2 a3 a4 b : TS} {D : Ends} {σ : L2.St} {H : Hp} (h : ∀ N : L2.St → Hp → Prop, (∀ σ' H', b D σ' H' → N σ' H') → (tSeq a1 (tSeq a2 (tSeq a3 a4))) { D with nx := N } σ H) : (tSeq a1 (tSeq a2 (tSeq a3 (tSeq a4 b)))) D σ H := h (b D) fun _ _ z => z
theorem sq5 {a1 a2 a3 a4 a5 b : TS} {D : Ends} {σ : L2.St} {H : Hp} (h : ∀ N : L2.St → Hp → Prop, (∀ σ' H', b D σ' H' → N σ' H') → (tSeq a1 (tSeq a2 (tSeq a3 (tSeq a4 a5)))) { D with nx := N } σ H) : (tSeq a1 (tSeq a2 (tSeq a3 (tSeq a4 (tSeq a5 b))))) D σ H := h (b D) fun _ _ z => z
theorem sq6 {a1 a2 a3 a4 a5 a6 b : TS} {D : Ends} {σ : L2.St} {H : Hp} (h : ∀ N : L2.St → Hp → Prop, (∀ σ' H', b D σ' H' → N σ' H') → (tSeq a1 (tSeq a2 (tSeq a3 (tSeq a4 (tSeq a5 a6))))) { D with nx := N } σ H) : (tSeq a1 (tSeq a2 (tSeq a3 (tSeq a4 (tSeq a5 (tSeq a6 b)))))) D σ H := h (b D) fun _ _ z => z
theorem sq7 {a1 a2 a3 a4 a5 a6 a7 b : TS} {D : Ends} {σ : L2.St} {H : Hp} (h : ∀ N : L2.St → Hp → Prop, (∀ σ' H', b D σ' H' → N σ' H') → (tSeq a1 (tSeq a2 (tSeq a3 (tSeq a4 (tSeq a5 (tSeq a6 a7)))))) { D with nx := N } σ H) : (tSeq a1 (tSeq a2 (tSeq a3 (tSeq a4 (tSeq a5 (tSeq a6 (tSeq a7 b))))))) D σ H := h (b D) fun _ _ z => z
theorem sq8 {a1 a2 a3 a4 a5 a6 a7 a8 b : TS} {D : Ends} {σ : L2.St} {H : Hp} (h : ∀ N : L2.St → Hp → Prop, (∀ σ' H', b D σ' H' → N σ' H') → (tSeq a1 (tSeq a2 (tSeq a3 (tSeq a4 (tSeq a5 (tSeq a6 (tSeq a7 a8))))))) { D with nx := N } σ H) : (tSeq a1 (tSeq a2 (tSeq a3 (tSeq a4 (tSeq a5 (tSeq a6 (tSeq a7 (tSeq a8 b)))))))) D σ H := h (b D) fun _ _ z => z
theorem sq9 {a1 a2 a3 a4 a5 a6 a7 a8 a9 b : TS} {D : Ends} {σ : L2.St} {H : Hp} (h : ∀ N : L2.St → Hp → Prop, (∀ σ' H', b D σ' H' → N σ' H') → (tSeq a1 (tSeq a2 (tSeq a3 (tSeq a4 (tSeq a5 (tSeq a6 (tSeq a7 (tSeq a8 a9)))))))) { D with nx := N } σ H) : (tSeq a1 (tSeq a2 (tSeq a3 (tSeq a4 (tSeq a5 (tSeq a6 (tSeq a7 (tSeq a8 (tSeq a9 b))))))))) D σ H := h (b D) fun _ _ z => z
theorem sq10 {a1 a2 a3 a4 a5 a6 a7 a8 a9 a10 b : TS} {D : Ends} {σ : L2.St} {H : Hp} (h : ∀ N : L2.St → Hp → Prop, (∀ σ' H', b D σ' H' → N σ' H') → (tSeq a1 (tSeq a2 (tSeq a3 (tSeq a4 (tSeq a5 (tSeq a6 (tSeq a7 (tSeq a8 (tSeq a9 a10))))))))) { D with nx := N } σ H) : (tSeq a1 (tSeq a2 (tSeq a3 (tSeq a4 (tSeq a5 (tSeq a6 (tSeq a7 (tSeq a8 (tSeq a9 (tSeq a10 b)))))))))) D σ H := h (b D) fun _ _ z => z
theorem sq11 {a1 a2 a3 a4 a5 a6 a7 a8 a9 a10 a11 b : TS} {D : Ends} {σ : L2.St} {H : Hp} (h : ∀ N : L2.St → Hp → Prop, (∀ σ' H', b D σ' H' → N σ' H') → (tSeq a1 (tSeq a2 (tSeq a3 (tSeq a4 (tSeq a5 (tSeq a6 (tSeq a7 (tSeq a8 (tSeq a9 (tSeq a10 a11)))))))))) { D with nx := N } σ H) : (tSeq a1 (tSeq a2 (tSeq a3 (tSeq a4 (tSeq a5 (tSeq a6 (tSeq a7 (tSeq a8 (tSeq a9 (tSeq a10 (tSeq a11 b))))))))))) D σ H := h (b D) fun _ _ z => z
theorem sq12 {a1 a2 a3 a4 a5 a6 a7 a8 a9 a10 a11 a12 b : TS} {D : Ends} {σ : L2.St} {H : Hp} (h : ∀ N : L2.St → Hp → Prop, (∀ σ' H', b D σ' H' → N σ' H') → (tSeq a1 (tSeq a2 (tSeq a3 (tSeq a4 (tSeq a5 (tSeq a6 (tSeq a7 (tSeq a8 (tSeq a9 (tSeq a10 (tSeq a11 a12))))))))))) { D with nx := N } σ H) : (tSeq a1 (tSeq a2 (tSeq a3 (tSeq a4 (tSeq a5 (tSeq a6 (tSeq a7 (tSeq a8 (tSeq a9 (tSeq a10 (tSeq a11 (tSeq a12 b)))))))))))) D σ H := h (b D) fun _ _ z => z
/-- sorted of a list of unlike pairs -/
theorem use_sortedP {K : PySem.W.Frag} {H : Hp} {l : Addr} {us : List V} {G : List Pr} {Q : VK} (hl : H l = some (.lst us)) (pl : PL H us G) (nd : G.Nodup) (q : ∀ (S : List Pr) (ys : List V) (p : Addr) (H' : Hp), Asc S → (∀ d, d ∈ S ↔ d ∈ G) → S.length = G.length → Same H H' → H p = none → H' p = some (.lst ys) → PL H' ys S → Q (.ref p) H') : rSortedPO K [.ref l] H Q := by
  obtain ⟨k1, k2⟩ := pl.toK
  refine ⟨l, us, kH H, rfl, SqL.of hl, k2, fun ys t so st nt => ?_⟩
  have pmy := st.perm
  have hy : ∀ v ∈ ys, IsP H v (kH H v) := fun v hv => k2 v (pmy.mem_iff.mp hv)
  have nd2 : (ys.map (kH H)).Nodup := by
    refine (pmy.map _).nodup_iff.mpr ?_
    rw [← k1]
    exact nd
  refine q (ys.map (kH H)) ys t _ (srtd_asc nd2 so) (fun d => ?_) ?_ (same_upd nt) nt upd_same ((PL.ofK hy).kt (KT.new nt))
  · rw [k1]
    exact (pmy.map _).mem_iff
  · rw [k1, List.length_map, List.length_map, pmy.length_eq]

/-! ### comprehensions with one name, over a list or a range -/
theorem fm_step {β : Type} (sel : Nat → Option β) (i : Nat) : (List.range (i + 1)).filterMap sel = (List.range i).filterMap sel ++ (match sel i with | some b => [b] | none => []) := by
  rw [List.range_succ, List.filterMap_append]
  congr 1
  rw [List.filterMap_cons, List.filterMap_nil]
  cases sel i <;> rfl
theorem fm_len {β : Type} (sel : Nat → Option β) (i : Nat) : ((List.range i).filterMap sel).length ≤ i := by
  have := List.length_filterMap_le sel (List.range i)
  rw [List.length_range] at this
  exact this
theorem gc_list {β : Type} {K : PySem.W.Frag} {a : Addr} {xs : List V} {i : Nat} {tt : TT} {te : TE} {σ : L2.St} {H1 : Hp} {Q : VK} (rel : Hp → V → β → Prop) (up : ∀ H H' v b, rel H v b → KT H H' → rel H' v b) (sel : Nat → Option β) (ha : H1 a = some (.lst xs)) (len : xs.length ≤ 100000)
    (step : ∀ (j : Nat) (x : V) (Hx : Hp) (A : VK) (B : Hp → Prop), xs[j]? = some x → Same H1 Hx → (∀ v b Hy, sel j = some b → Same Hx Hy → rel Hy v b → A v Hy) → (∀ Hy, sel j = none → Same Hx Hy → B Hy) → tt (σ.set i (some x)) Hx fun c H3 => if c = true then te (σ.set i (some x)) H3 A else B H3)
    (q : ∀ o ys H', Same H1 H' → H1 o = none → H' o = some (.lst ys) → Paired (rel H') ys ((List.range xs.length).filterMap sel) → Q (.ref o) H') :
    tLc (fun _ H R => R (Itl K a) H) (gName i) tt te [i] σ H1 Q := by
  intro D nD
  obtain ⟨Pv, hPv⟩ : ∃ Pv : Nat → Hp → Prop, Pv = (fun j Hx => ∃ ys, Same H1 Hx ∧ Hx D = some (.lst ys) ∧ Paired (rel Hx) ys ((List.range j).filterMap sel)) := ⟨_, rfl⟩
  refine lc_list (K := K) (a := a) (xs := xs) Pv (by rw [hPv]; exact ⟨[], same_upd nD, upd_same, Paired.nil⟩) (fun j H' _ pv => by rw [hPv] at pv; obtain ⟨_, sm, _⟩ := pv; exact SqL.of (sm _ _ ha)) (fun j x H' gx pv => ?_) (fun H' pv => ?_)
  · rw [hPv] at pv
    obtain ⟨ys, sm, hD, pr⟩ := pv
    have jl := (List.getElem?_eq_some_iff.mp gx).1
    have yl : ys.length ≤ j := by rw [pr.length]; exact fm_len sel j
    have ew : (wipe σ [i]).set i (some x) = σ.set i (some x) := by show (σ.set i none).set i (some x) = _; rw [List.set_set]
    show wipe ((wipe σ [i]).set i (some x)) [i] = wipe σ [i] ∧ tt ((wipe σ [i]).set i (some x)) H' fun c H3 => if c = true then te ((wipe σ [i]).set i (some x)) H3 _ else _
    rw [ew]
    refine ⟨by show (σ.set i (some x)).set i none = σ.set i none; rw [List.set_set], ?_⟩
    refine step j x H' _ _ gx sm (fun v b Hy es sy r => ?_) (fun Hy es sy => ?_)
    · have hD2 := sy _ _ hD
      refine ⟨ys, hD2, len_big (by omega), ?_⟩
      rw [hPv]
      refine ⟨ys ++ [v], same_ch (sm.trans sy) nD, upd_same, ?_⟩
      rw [fm_step, es]
      have kt : KT Hy (upd Hy D (HO.lst (ys ++ [v]))) := KT.lst hD2
      exact Paired.snoc (Paired.mapP pr fun v b h => up _ _ _ _ (up _ _ _ _ h (KT.same sy)) kt) (up _ _ _ _ r kt)
    · rw [hPv]
      refine ⟨ys, sm.trans sy, sy _ _ hD, ?_⟩
      rw [fm_step, es, List.append_nil]
      exact Paired.mapP pr fun v b h => up _ _ _ _ h (KT.same sy)
  · rw [hPv] at pv
    obtain ⟨ys, sm, hD, pr⟩ := pv
    exact q D ys H' sm nD hD pr
theorem gc_range {β : Type} {lo : Int} {n i : Nat} {tt : TT} {te : TE} {σ : L2.St} {H1 : Hp} {Q : VK} (rel : Hp → V → β → Prop) (up : ∀ H H' v b, rel H v b → KT H H' → rel H' v b) (sel : Nat → Option β) (len : n ≤ 100000)
    (step : ∀ (j : Nat) (Hx : Hp) (A : VK) (B : Hp → Prop), j < n → Same H1 Hx → (∀ v b Hy, sel j = some b → Same Hx Hy → rel Hy v b → A v Hy) → (∀ Hy, sel j = none → Same Hx Hy → B Hy) → tt (σ.set i (some (.int (lo + (j : Nat))))) Hx fun c H3 => if c = true then te (σ.set i (some (.int (lo + (j : Nat))))) H3 A else B H3)
    (q : ∀ o ys H', Same H1 H' → H1 o = none → H' o = some (.lst ys) → Paired (rel H') ys ((List.range n).filterMap sel) → Q (.ref o) H') :
    tLc (fun _ H R => R (Itr lo n) H) (gName i) tt te [i] σ H1 Q := by
  intro D nD
  obtain ⟨Pv, hPv⟩ : ∃ Pv : Nat → Hp → Prop, Pv = (fun j Hx => ∃ ys, Same H1 Hx ∧ Hx D = some (.lst ys) ∧ Paired (rel Hx) ys ((List.range j).filterMap sel)) := ⟨_, rfl⟩
  refine lc_range (lo := lo) (n := n) Pv (by rw [hPv]; exact ⟨[], same_upd nD, upd_same, Paired.nil⟩) (fun j H' jl pv => ?_) (fun H' pv => ?_)
  · rw [hPv] at pv
    obtain ⟨ys, sm, hD, pr⟩ := pv
    have yl : ys.length ≤ j := by rw [pr.length]; exact fm_len sel j
    have ew : (wipe σ [i]).set i (some (.int (lo + (j : Nat)))) = σ.set i (some (.int (lo + (j : Nat)))) := by show (σ.set i none).set i (some (.int (lo + (j : Nat)))) = _; rw [List.set_set]
    show wipe ((wipe σ [i]).set i (some (.int (lo + (j : Nat))))) [i] = wipe σ [i] ∧ tt ((wipe σ [i]).set i (some (.int (lo + (j : Nat))))) H' fun c H3 => if c = true then te ((wipe σ [i]).set i (some (.int (lo + (j : Nat))))) H3 _ else _
    rw [ew]
    refine ⟨by show (σ.set i (some (.int (lo + (j : Nat))))).set i none = σ.set i none; rw [List.set_set], ?_⟩
    refine step j H' _ _ jl sm (fun v b Hy es sy r => ?_) (fun Hy es sy => ?_)
    · have hD2 := sy _ _ hD
      refine ⟨ys, hD2, len_big (by omega), ?_⟩
      rw [hPv]
      refine ⟨ys ++ [v], same_ch (sm.trans sy) nD, upd_same, ?_⟩
      rw [fm_step, es]
      have kt : KT Hy (upd Hy D (HO.lst (ys ++ [v]))) := KT.lst hD2
      exact Paired.snoc (Paired.mapP pr fun v b h => up _ _ _ _ (up _ _ _ _ h (KT.same sy)) kt) (up _ _ _ _ r kt)
    · rw [hPv]
      refine ⟨ys, sm.trans sy, sy _ _ hD, ?_⟩
      rw [fm_step, es, List.append_nil]
      exact Paired.mapP pr fun v b h => up _ _ _ _ h (KT.same sy)
  · rw [hPv] at pv
    obtain ⟨ys, sm, hD, pr⟩ := pv
    exact q D ys H' sm nD hD pr
/-- values that are these ints -/
def IsI (_ : Hp) (v : V) (n : Int) : Prop := v = .int n
theorem isI_map {H : Hp} : ∀ {vs : List V} {ns : List Int}, Paired (IsI H) vs ns → vs = ns.map V.int
  | _, _, .nil => rfl
  | _, _, .cons r t => by
    rw [isI_map t, List.map_cons]
    exact congrArg (· :: _) r
theorem fmap_congr {α β : Type} {f g : α → Option β} : ∀ l : List α, (∀ a ∈ l, f a = g a) → l.filterMap f = l.filterMap g
  | [], _ => rfl
  | a :: l, h => by
    rw [List.filterMap_cons, List.filterMap_cons, h a List.mem_cons_self, fmap_congr l fun b hb => h b (List.mem_cons_of_mem _ hb)]
theorem snoc_indJ {α : Type} {M : List α → Prop} (h0 : M []) (hs : ∀ S c, M S → M (S ++ [c])) (L : List α) : M L := by
  have key : ∀ K : List α, M K.reverse := by
    intro K
    induction K with
    | nil => exact h0
    | cons c K ih => rw [List.reverse_cons]; exact hs _ _ ih
  have := key L.reverse
  rw [List.reverse_reverse] at this
  exact this
theorem fm_range {β : Type} {L : List β} {γ : Type} (f : β → Option γ) : (List.range L.length).filterMap (fun j => L[j]?.bind f) = L.filterMap f := by
  refine snoc_indJ (M := fun L => (List.range L.length).filterMap (fun j => L[j]?.bind f) = L.filterMap f) rfl (fun L b ih => ?_) L
  rw [List.length_append, List.length_singleton, fm_step, List.filterMap_append]
  have e : (List.range L.length).filterMap (fun j => (L ++ [b])[j]?.bind f) = (List.range L.length).filterMap (fun j => L[j]?.bind f) := fmap_congr _ fun j hj => by
    rw [List.getElem?_append_left (List.mem_range.mp hj)]
  rw [e, ih, List.getElem?_append_right (Nat.le_refl _), Nat.sub_self]
  congr 1
  show (match f b with | some b => [b] | none => []) = _
  rw [List.filterMap_cons, List.filterMap_nil]
  cases f b <;> rfl
theorem fm_rg {γ : Type} (n : Nat) (f : Int → Option γ) : (List.range n).filterMap (fun j : Nat => f (j : Int)) = (rg n).filterMap f := by
  unfold rg
  rw [List.filterMap_map]
  rfl
/-- [c[0] for c in calls] -/
theorem lc_fst {K : PySem.W.Frag} {a : Addr} {ws : List V} {L : List Cl} {i : Nat} {σ : L2.St} {H1 : Hp} {Q : VK} (ha : H1 a = some (.lst ws)) (lg : LG H1 ws L) (len : L.length ≤ 100000) (hi : i < σ.length)
    (q : ∀ o H', Same H1 H' → H1 o = none → H' o = some (.lst ((L.map (·.1)).map V.int)) → Q (.ref o) H') :
    tLc (fun _ H R => R (Itl K a) H) (gName i) tYes (tOp (rIxT K) (tVar i) (tC (V.int 0))) [i] σ H1 Q := by
  have wl := lg.len
  refine gc_list IsI (fun _ _ _ _ h _ => h) (fun j => L[j]?.bind fun c => some c.1) ha (by omega) (fun j x Hx A B gx sx hA hB => ?_) (fun o ys H' s no ho pr => ?_)
  · obtain ⟨c, gc, t, rfl, ht⟩ := pget lg gx
    refine (show (if true = true then tOp (rIxT K) (tVar i) (tC (V.int 0)) (σ.set i (some (.ref t))) Hx A else B Hx) from ?_)
    rw [if_pos rfl]
    refine ⟨.ref t, by rw [List.getElem?_set_self hi], ?_⟩
    refine ⟨t, _, 0, .int c.1, rfl, rfl, SqT.of (sx _ _ ht), rfl, ?_⟩
    exact hA _ c.1 Hx (by rw [gc]; rfl) (Same.refl _) rfl
  · refine q o H' s no ?_
    have e := isI_map pr
    rw [wl, fm_range (L := L) (fun c => some c.1), List.filterMap_eq_map'] at e
    rw [e] at ho
    exact ho
/-- [r for r in range(n) if r not in L] -/
theorem lc_notin {K : PySem.W.Frag} {m : Nat} {b : Addr} {R : List Int} {n i : Nat} {σ : L2.St} {H1 : Hp} {Q : VK} (hm : (σ.set i none)[m]? = some (some (.ref b))) (hb : SqL K H1 b (R.map V.int) ∨ SqT K H1 b (R.map V.int)) (len : n ≤ 100000) (hi : i < σ.length)
    (q : ∀ o H', Same H1 H' → H1 o = none → H' o = some (.lst (((rg n).filter fun z => decide (z ∉ R)).map V.int)) → Q (.ref o) H') :
    tLc (fun _ H R => R (Itr 0 n) H) (gName i) (tTest (tOp (rIn K true) (tVar i) (tVar m))) (tVar i) [i] σ H1 Q := by
  have nm : m ≠ i := fun z => by
    subst z
    rw [List.getElem?_set_self hi] at hm
    cases hm
  refine gc_range IsI (fun _ _ _ _ h _ => h) (fun j => if (j : Int) ∈ R then none else some (j : Int)) len (fun j Hx A B jl sx hA hB => ?_) (fun o ys H' s no ho pr => ?_)
  · rw [Int.zero_add]
    refine ⟨.int (j : Int), by rw [List.getElem?_set_self hi], .ref b, ?_, b, R.map V.int, rfl, ?_, rfl, flI _, ?_⟩
    · rw [List.getElem?_set_ne (fun z => nm z.symm)]
      rw [List.getElem?_set_ne (fun z => nm z.symm)] at hm
      exact hm
    · exact SeqI.same hb sx
    · rw [inI, if_pos rfl]
      refine ⟨_, rfl, ?_⟩
      by_cases c : (j : Int) ∈ R
      · rw [decide_eq_true c]
        exact hB Hx (if_pos c) (Same.refl _)
      · rw [decide_eq_false c]
        exact ⟨_, by rw [List.getElem?_set_self hi], hA _ (j : Int) Hx (if_neg c) (Same.refl _) rfl⟩
  · refine q o H' s no ?_
    have e := isI_map pr
    rw [fm_rg n (fun z => if z ∈ R then none else some z)] at e
    have e2 : ∀ l : List Int, l.filterMap (fun z => if z ∈ R then none else some z) = l.filter fun z => decide (z ∉ R) := fun l => by
      induction l with
      | nil => rfl
      | cons z l ih =>
        by_cases c : z ∈ R
        · rw [List.filterMap_cons, if_pos c, List.filter_cons_of_neg (by simpa using c)]
          exact ih
        · rw [List.filterMap_cons, if_neg c, List.filter_cons_of_pos (by simpa using c), ih]
    rw [e, e2] at ho
    exact ho
/-- the calls at these places -/
def pickC (C : List Cl) (xs : List Int) : List Cl := xs.filterMap fun x => C[x.toNat]?
theorem pickC_perm {C : List Cl} {xs : List Int} (h : xs.Perm (rg C.length)) : (pickC C xs).Perm C := by
  have e : pickC C (rg C.length) = C := by
    unfold pickC rg
    rw [List.filterMap_map]
    have := fm_range (L := C) (fun c => some c)
    rw [List.filterMap_some] at this
    refine Eq.trans (fmap_congr _ fun j _ => ?_) this
    show C[((j : Nat) : Int).toNat]? = _
    rw [Int.toNat_natCast]
    cases C[j]? <;> rfl
  have := h.filterMap (fun x => C[x.toNat]?)
  show (xs.filterMap _).Perm C
  refine this.trans ?_
  show (pickC C (rg C.length)).Perm C
  rw [e]
/-- [calls[k] for k in places] -/
theorem lc_pick {K : PySem.W.Frag} {a g : Addr} {ws : List V} {C : List Cl} {xs : List Int} {c i : Nat} {σ : L2.St} {H1 : Hp} {Q : VK} (hc : (σ.set i none)[c]? = some (some (.ref g))) (hg : H1 g = some (.lst ws)) (lg : LG H1 ws C) (ha : H1 a = some (.lst (xs.map V.int))) (pm : xs.Perm (rg C.length)) (len : C.length ≤ 100000) (hi : i < σ.length)
    (q : ∀ o vs H', Same H1 H' → H1 o = none → H' o = some (.lst vs) → LG H' vs (pickC C xs) → Q (.ref o) H') :
    tLc (fun _ H R => R (Itl K a) H) (gName i) tYes (tOp (rIxL K) (tVar c) (tVar i)) [i] σ H1 Q := by
  have nm : c ≠ i := fun z => by
    subst z
    rw [List.getElem?_set_self hi] at hc
    cases hc
  have xl : xs.length = C.length := by rw [pm.length_eq, rg_len]
  refine gc_list (fun H v b => IsC H v b) (fun _ _ _ _ h k => h.kt k) (fun j => xs[j]?.bind fun x => C[x.toNat]?) ha (by rw [List.length_map]; omega) (fun j x Hx A B gx sx hA hB => ?_) (fun o ys H' s no ho pr => ?_)
  · rw [List.getElem?_map] at gx
    cases e : xs[j]? with
    | none => rw [e] at gx; cases gx
    | some y =>
      rw [e] at gx hA
      have ex := Option.some.inj gx
      subst ex
      obtain ⟨n, hn, rfl⟩ := List.mem_map.mp (pm.mem_iff.mp (List.mem_of_getElem? e))
      have hn2 := List.mem_range.mp hn
      obtain ⟨d, gd⟩ : ∃ d, C[n]? = some d := ⟨_, List.getElem?_eq_getElem hn2⟩
      obtain ⟨v, gv, r⟩ := pget2 lg gd
      refine (show (if true = true then tOp (rIxL K) (tVar c) (tVar i) (σ.set i (some (.int (Int.ofNat n)))) Hx A else B Hx) from ?_)
      rw [if_pos rfl]
      refine ⟨.ref g, ?_, .int (Int.ofNat n), by rw [List.getElem?_set_self hi], g, ws, Int.ofNat n, v, rfl, rfl, SqL.of (sx _ _ hg), atI_nat gv, ?_⟩
      · rw [List.getElem?_set_ne (fun z => nm z.symm)]
        rw [List.getElem?_set_ne (fun z => nm z.symm)] at hc
        exact hc
      · exact hA _ d Hx gd (Same.refl _) (r.kt (KT.same sx))
  · refine q o ys H' s no ho ?_
    rw [List.length_map, fm_range (L := xs) (fun x => C[x.toNat]?)] at pr
    exact pr

/-! ### all(test for x in a list or tuple) -/
section
variable {X : Cx} {pins : List (Addr × Obj)} {σ : L2.St} {H : Hp} {s : Shared}
/-- the element: a test of the value v, among what stood when the walk began (but for the table at P) -/
def EltV (X : Cx) (pins : List (Addr × Obj)) (σ : L2.St) (H1 : Hp) (P : Addr) (scope : Scope) (x : Str) (elt : Expr) (xs : List V) (pb : V → Bool) : Prop :=
  ∀ (cenv : Env) (A' : Around) (E' : Value → Shared → Prop) (v : V) (u : Value) (sa s2 : Shared) (m2 : Str → Option Value), cenv.scope = scope → cenv.cells = cloFrom X.env.cells scope.names [] → v ∈ xs → L2.RelV v u → s2.heap.Ns cenv.locals m2 → m2 x = some u →
    Inv X pins σ H1 sa → (∀ b o, b ≠ P → sa.heap.get? b = some o → s2.heap.get? b = some o) → wpAny (model X.prog X.w) A' (eval elt cenv) (fun y s3 => y = .bool (pb v) ∧ Keeps s2 s3) E' s2
/-- the generator expression's own scope, by looks at the two scopes -/
structure GenS0 (esc scope : Scope) (x : Str) : Prop where
  kind : scope.kind = .function
  co : scope.isCoroutine = false
  cell : ∀ y ∈ scope.names, y.2 ≠ .cell
  dot : scope.names.lookup (".0" : Str) = some NameKind.local
  loc : scope.names.lookup x = some .local
  free : ∀ y ∈ scope.names, y.2 = .free → esc.names.lookup y.1 = some .cell ∨ esc.names.lookup y.1 = some .free
theorem GenS0.of {scope : Scope} {x : Str} (S : GenS0 X.env.scope scope x) (ok : X.Ok) : GxR.GenS X.env scope x :=
  ⟨S.kind, S.co, S.cell, S.dot, S.loc, fun y hy e => (S.free y hy e).elim (fun z => ok.has _ (.inl z)) fun z => ok.has _ (.inr z)⟩
def trV (pb : V → Bool) (l : List V) (q0 : Nat) : Bool := match l[q0]? with
  | some b => pb b
  | none => false
theorem trV_some {pb : V → Bool} {l : List V} {q0 : Nat} {b : V} (h : l[q0]? = some b) : trV pb l q0 = pb b := by
  unfold trV
  rw [h]
theorem all_trV (l : List V) (pb : V → Bool) : (List.range l.length).all (trV pb l) = l.all pb := by
  rw [Bool.eq_iff_iff, List.all_eq_true, List.all_eq_true]
  constructor
  · intro h b hb
    obtain ⟨q0, q0l, e⟩ := List.getElem_of_mem hb
    have q := h q0 (List.mem_range.mpr q0l)
    rw [trV_some (List.getElem?_eq_getElem q0l), e] at q
    exact q
  · intro h q0 q0l
    have hj' := List.mem_range.mp q0l
    rw [trV_some (List.getElem?_eq_getElem hj')]
    exact h _ (List.getElem_mem hj')
/-- a list's or a tuple's iterator -/
theorem iter_vals {K : PySem.W.Frag} {yl : Addr} {xs : List V} {Q' : Value → Shared → Prop} (I : Inv X pins σ H s) (h : SqL X.K H yl xs ∨ SqT X.K H yl xs)
    (q : ∀ (us : List Value) (o : Obj) (St : Nat → Heap → Prop), Vals xs us → yl < s.heap.objs.size → (∃ oy, s.heap.get? yl = some oy ∧ ∀ us, oy.data ≠ .fields us) → (∀ A' : Around, A'.handled = none → Walks X.prog X.w A' s.heap.objs.size [s.heap.objs.size, yl] [s.heap.objs.size] us.toArray.size (fun i v => us.toArray[i]? = some v) St) →
      St 0 (s.heap.push o) → Q' (.ref s.heap.objs.size) { s with heap := s.heap.push o }) : wpAny (model X.prog X.w) X.A (pyIter (.ref yl)) Q' X.xe s := by
  rcases h with h | h
  · obtain ⟨us, rv, hl, hz⟩ := I.list h
    have lst := hl.isList
    have lt : yl < s.heap.objs.size := by
      obtain ⟨_, e, _⟩ := _root_.id lst
      exact Heap.lt_size e
    refine wpAny_pyIter_list lst (q us _ _ rv lt ?_ (fun A' hand => Walks.list hand _ _ (Nat.ne_of_lt lt) _) ⟨⟨_, Heap.get?_push_size _ rfl, rfl, rfl⟩, ?_⟩)
    · obtain ⟨ob, e, _, _, hd⟩ := _root_.id lst
      exact ⟨ob, e, fun us z => by rw [hd] at z; cases z⟩
    · obtain ⟨ob, e, r⟩ := _root_.id lst
      exact ⟨ob, Heap.get?_push_of_some _ e, r⟩
  · obtain ⟨us, rv, hl, hz⟩ := I.tuple h
    have lt : yl < s.heap.objs.size := by
      obtain ⟨_, e, _⟩ := _root_.id hl
      exact Heap.lt_size e
    refine wpAny_pyIter_tuple hl (q us _ _ rv lt ?_ (fun A' hand => Walks.tuple hand _ _ (Nat.ne_of_lt lt) _) ⟨⟨_, Heap.get?_push_size _ rfl, rfl, rfl⟩, ?_⟩)
    · obtain ⟨ob, e, _, _, hd⟩ := _root_.id hl
      exact ⟨ob, e, fun us z => by rw [hd] at z; cases z⟩
    · obtain ⟨ob, e, r⟩ := _root_.id hl
      exact ⟨ob, Heap.get?_push_of_some _ e, r⟩
/-- the generator g over the values xs, ready to be walked, in the state s5; H1: what was held before -/
def ReadyV (X : Cx) (pins : List (Addr × Obj)) (σ : L2.St) (H1 : Hp) (P : Addr) (xs : List V) (pb : V → Bool) (g : Addr) (s5 : Shared) : Prop :=
  ∃ (ft wt : List Addr) (G : Array GenState → Array GenState → Prop) (F : Nat → Value → Prop) (St : Nat → Shared → Prop),
    WalksS X.prog X.w X.A.in1 g ft wt G xs.length F St ∧ St 0 s5 ∧ TruthOf X.prog X.w X.A.in1 F (trV pb xs) ∧ ∀ s', Moved wt G s5 s' → ∃ H2, GxR.Tabbed P H1 H2 ∧ Inv X pins σ H2 s'
theorem gen_vals {c P : Addr} {elt iter : Expr} {x : Str} {px gpos : Pos} {scope : Scope} {pb : Hp → V → Bool} {te : TE} {k : Nat} {Q' : Value → Shared → Prop} {R : List V → Hp → Prop}
    (hr : Room k X.A) (TB : GxR.TabB X.base X.mg c P) (hcode : X.env.code = .ref c) (S : GxR.GenS X.env scope x) (hi : PE X iter te) (hs : ∀ v, genFold iter X.env v = pure v) (I : Inv X pins σ H s)
    (h : te σ H fun v H1 => ∃ (yl : Addr) (xs : List V), v = .ref yl ∧ (SqL X.K H1 yl xs ∨ SqT X.K H1 yl xs) ∧ (∀ pins, EltV X pins σ H1 P scope x elt xs (pb H1)) ∧ GxR.TabG H1 P ∧ R xs H1)
    (hQ : ∀ xs H1 g s5, R xs H1 → ReadyV X pins σ H1 P xs (pb H1) g s5 → Q' (.ref g) s5) :
    wpAny (model X.prog X.w) X.A (eval (.GeneratorExp elt [⟨.Name x px, iter, [], 0⟩] scope gpos) X.env) Q' X.xe s := by
  refine wpAny_GeneratorExp_walksQ hr.hd S.co (closure_ok S.free) S.cell S.dot S.loc S.kind (by have := hr.dp; omega) ?_ hs
  refine thn (hi.run pins s σ H _ I h) fun uv sa ⟨v, H1, I1, r1, q1⟩ => ?_
  obtain ⟨yl, xs, rfl, hyl, hel, ⟨ps, hP, ht⟩, q1⟩ := q1
  obtain rfl : uv = Value.ref yl := r1
  refine iter_vals (K := X.K) I1 hyl fun us o St rv ylt hyo W hst => ?_
  obtain ⟨oy, hoy, hyd⟩ := hyo
  have vlen : us.length = xs.length := rv.length.symm
  have vat : ∀ (i : Nat) (u : Value), us.toArray[i]? = some u → ∃ b, xs[i]? = some b ∧ L2.RelV b u := fun i u hv => by
    have gv : us[i]? = some u := by simpa using hv
    have ilt : i < us.length := (List.getElem?_eq_some_iff.mp gv).1
    obtain ⟨b, hb⟩ : ∃ b, xs[i]? = some b := ⟨xs[i]'(by omega), List.getElem?_eq_getElem _⟩
    obtain ⟨u2, hu, ru⟩ := rv.get hb
    rw [gv] at hu
    cases hu
    exact ⟨b, hb, ru⟩
  have tbs : sa.heap.get? P = some { cls := .none, data := .fields ps } := I1.hok P _ hP
  have tlt : P < sa.heap.objs.size := Heap.lt_size tbs
  have tb2 : (sa.heap.push o).get? P = some { cls := .none, data := .fields ps } := Heap.get?_push_of_some _ tbs
  have cd : PySem.W.CodeHd (sa.heap.push o) c P := TB.code.keeps fun b u e => Heap.get?_push_of_some _ (I1.bk b u e)
  have nl2 : (sa.heap.push o).NoLimit := I1.nolimit.push o
  have goes : ∀ (code : Value) (hw : Heap) (tk : Nat) (ps' : Array Value), Heap.ExtBut P (sa.heap.push o) hw → (sa.heap.push o).objs.size ≤ hw.objs.size → hw.get? P = some { cls := .none, data := .fields ps' } → (∃ add, ps' = ps ++ add) → TriplesOk ps'.toList →
      wpAny (model X.prog X.w) X.A (builtinsFor X.env.globals X.env.builtins) (fun bi z4 =>
        ∃ Ia ft wt nn Pf St0 pz F, Value.ref sa.heap.objs.size = .ref Ia ∧ (∀ A' : Around, A'.handled = none → Walks X.prog X.w A' Ia ft wt nn Pf St0) ∧ St0 0 z4.heap ∧ (∀ b ∈ ft, b < z4.heap.objs.size) ∧ z4.heap.NoLimit ∧ cStatics ∉ wt ∧
          (∀ hrf : Heap, (∀ b o, z4.heap.get? b = some o → hrf.get? b = some o) →
            QuietGen X.prog X.w (genEnv scope (cloFrom X.env.cells scope.names []) z4.heap.objs.size code bi X.env) x [] elt (List.range z4.heap.objs.size) wt Pf pz F hrf) ∧
          (∀ a hn5_ tk gst, gst.bare = true → z4.heap.objs.size < a → hn5_.objs.size = a + 1 → (∀ b o, z4.heap.get? b = some o → hn5_.get? b = some o) →
            WalksS X.prog X.w X.A.in4 a (a :: z4.heap.objs.size :: List.range z4.heap.objs.size) (z4.heap.objs.size :: wt) (GenOnlyQ z4.gens.size) (passing pz nn 0).length
              (fun q0 y => ∃ i, (passing pz nn 0)[q0]? = some i ∧ F i y) (GenAt X.prog X.w X.A.in4 a z4.gens.size z4.heap.objs.size (List.range z4.heap.objs.size) wt pz nn F) →
            GenAt X.prog X.w X.A.in4 a z4.gens.size z4.heap.objs.size (List.range z4.heap.objs.size) wt pz nn F 0 { z4 with gens := z4.gens.push gst, toks := tk, heap := hn5_ } →
            Q' (.ref a) { z4 with gens := z4.gens.push gst, toks := tk, heap := hn5_ })) X.xe { sa with heap := hw, toks := tk } := by
    intro code hw tk ps' hx hsz tb3 mre tr3
    obtain ⟨bm, ob, e1, e2, e3, e4, e5, e6, e7, e8⟩ := TB.bm
    have cnP : cStatics ≠ P := fun e => by
      obtain ⟨_, hns, _⟩ := I1.nolimit
      obtain ⟨o', es, ep, ho, hd, _⟩ := hns
      rw [e, tbs] at ho
      cases ho
      cases hd
    have clt : cStatics < sa.heap.objs.size := let ⟨_, hns, _⟩ := I1.nolimit; hns.lt
    have sze : (sa.heap.push o).objs.size = sa.heap.objs.size + 1 := Heap.size_push ..
    have kp3 : ∀ b u, b ≠ P → sa.heap.get? b = some u → hw.get? b = some u := fun b u hb e => hx b u hb (Heap.get?_push_of_some _ e)
    refine wpAny_builtinsFor (m := X.mg) (by rw [I1.ok.glob]; exact ((I1.mod.glob.keeps I1.bk).push o).extBut hx TB.gP) e1 e2 (kp3 _ _ e4 (I1.bk _ _ e5)) e6 e7 e8 ?_
    have ynP : yl ≠ P := fun z => by
      rw [z, tbs] at hoy
      cases hoy
      exact hyd _ rfl
    refine ⟨sa.heap.objs.size, [sa.heap.objs.size, yl], [sa.heap.objs.size], us.toArray.size, (fun i v => us.toArray[i]? = some v), St, (fun _ => true),
      (fun i y => ∃ b, xs[i]? = some b ∧ y = .bool (pb H1 b)), rfl, W, ?_, ?_, nl2.extBut hx cnP, ?_, ?_, ?_⟩
    · refine (W X.A hr.hd).frame _ _ _ hst fun b hb u e => hx b u (fun z => ?_) e
      rcases List.mem_cons.mp hb with z2 | z2
      · exact Nat.ne_of_lt tlt (z.symm.trans z2)
      · rcases List.mem_cons.mp z2 with z3 | z3
        · exact ynP (z3.symm.trans z)
        · cases z3
    · intro b hb
      rcases List.mem_cons.mp hb with z | z
      · rw [z]
        show sa.heap.objs.size < hw.objs.size
        omega
      · rcases List.mem_cons.mp z with z | z
        · rw [z]
          have e9 : sa.heap.objs.size ≤ hw.objs.size := by omega
          exact Nat.lt_of_lt_of_le ylt e9
        · cases z
    · intro z
      rcases List.mem_cons.mp z with z | z
      · exact Nat.ne_of_lt clt z
      · cases z
    · intro hrf khr
      refine ⟨fun A' E' i v s2 mm hand vP hn mvd hk => ?_, fun A' E' i v s2 mm hand vP hp hn mvd hk => ?_⟩
      · simp only [List.forIn_nil]
        exact wpAny_pure ⟨rfl, GxR.keeps_refl _⟩
      · obtain ⟨b, hb, rb⟩ := vat i v vP
        refine wpAny_mono (hel pins _ A' E' b v sa s2 mm rfl rfl (List.mem_of_getElem? hb) rb hn mvd I1 fun d u nd e => ?_) (fun y s3 r => ⟨⟨b, hb, r.1⟩, r.2⟩) fun _ _ e => e
        have e3 := kp3 d u nd e
        refine hk d (List.mem_range.mpr (Heap.lt_size e3)) (fun z => ?_) u (khr d u e3)
        rcases List.mem_cons.mp z with z | z
        · exact Nat.ne_of_lt (Heap.lt_size e) z
        · cases z
    · intro g hg5 tkg gst gbr agt sz5 kg5 Wg gat
      simp only [GxR.passing_true, List.length_range] at Wg
      have hn5 : us.toArray.size = xs.length := by rw [List.size_toArray, vlen]
      rw [hn5] at Wg gat
      refine hQ xs H1 g _ q1 ⟨_, _, _, _, _, Wg.in4_1, gat, ?_, fun s' mvd => ?_⟩
      · intro q0 y sj Qj Ej hy hQj
        obtain ⟨i, hij, b, hb, rfl⟩ := hy
        obtain ⟨q0l, ej⟩ := List.getElem?_eq_some_iff.mp hij
        rw [List.getElem_range] at ej
        subst ej
        have hQ2 : Qj (trV (pb H1) xs q0) sj := hQj
        rw [trV_some hb] at hQ2
        exact wpAny_truthy_bool hQ2
      · obtain ⟨add, eadd⟩ := mre
        have notw : ∀ b u, sa.heap.get? b = some u → b ∉ hw.objs.size :: [sa.heap.objs.size] := fun b u e hb => by
          have hl := Heap.lt_size e
          rcases List.mem_cons.mp hb with z | z
          · rw [z] at hl
            have h9 : (hw.objs.size : Nat) < sa.heap.objs.size := hl
            omega
          · rcases List.mem_cons.mp z with z | z
            · rw [z] at hl
              exact Nat.lt_irrefl _ hl
            · cases z
        have J := GxR.inv_tab (more := add) (h' := s'.heap) (g' := s'.gens) (d' := s'.drawn) (t' := s'.toks) I1 hP (fun b u hb e => mvd.heap b u (notw b u e) (kg5 b u (kp3 b u hb e)))
          (by rw [← eadd]; exact mvd.heap P _ (notw P _ tbs) (kg5 P _ tb3)) (AllBare.movedS (I1.bare.push gbr) mvd)
        rw [GxR.sh_eta sa s' mvd.os] at J
        refine ⟨upd H1 P (.tbl (ps ++ add)), ⟨⟨ps ++ add, upd_same, by rw [← eadd]; exact tr3⟩, fun b hb => upd_ne hb⟩, J⟩
  refine ⟨nl2, ?_⟩
  cases hf : codeAmong gpos ps.toList with
  | none =>
    refine wpAny_genexprCodeX hcode (cd.code tb2 ht) (cd.tab tb2) hf fun c' h' tk hx hge hlt hco' _ htab' _ => ?_
    obtain ⟨o1, vs, f1, tf, fl, tg, inF, tx, tt, op, _, _, _, _, _, _, _, _, _, htr, _⟩ := hco'
    exact goes _ h' tk _ hx (Nat.le_trans hge (Nat.le_of_lt hlt)) htab'.2 ⟨_, rfl⟩ htr
  | some cv =>
    refine wpAny_genexprCode_hit hcode (cd.code tb2 ht) hf ?_
    exact goes cv (sa.heap.push o) sa.toks ps (Heap.ExtBut.refl _ _) (Nat.le_refl _) tb2 ⟨#[], by simp⟩ ht
/-- all(test for x in e), e a list or a tuple; behind it the def's table may have grown -/
def tAllV (X : Cx) (P : Addr) (scope : Scope) (x : Str) (elt : Expr) (pb : Hp → V → Bool) (te : TE) : TE := fun σ H Q => te σ H fun v H1 => ∃ (yl : Addr) (xs : List V), v = .ref yl ∧ (SqL X.K H1 yl xs ∨ SqT X.K H1 yl xs) ∧ (∀ pins, EltV X pins σ H1 P scope x elt xs (pb H1)) ∧ GxR.TabG H1 P ∧ ∀ H2, GxR.Tabbed P H1 H2 → Q (.bl (xs.all (pb H1))) H2
theorem pe_allV {c P : Addr} {elt iter : Expr} {x : Str} {px p pos gpos : Pos} {scope : Scope} {pb : Hp → V → Bool} {te : TE} {k : Nat}
    (hr : Room k X.A) (hg : Gl X "all") (mvd : X.mg "all" = none) (hb : bootBuiltins "all" = some (.builtin "all")) (TB : GxR.TabB X.base X.mg c P) (hcode : X.env.code = .ref c) (S : GenS0 X.env.scope scope x) (hi : PE X iter te)
    (hs : ∀ v, genFold iter X.env v = pure v)
    (he : starEach [.GeneratorExp elt [⟨.Name x px, iter, [], 0⟩] scope gpos] X.env = (false, eval (.GeneratorExp elt [⟨.Name x px, iter, [], 0⟩] scope gpos) X.env) :: starEach [] X.env := by rfl) :
    PE X (.Call (.Name "all" p) [.GeneratorExp elt [⟨.Name x px, iter, [], 0⟩] scope gpos] [] pos) (tAllV X P scope x elt pb te) := by
  refine ⟨fun pins s σ H Q I h => ?_⟩
  refine wpAny_Call_Name_kw (ld_blt I hg mvd hb ?_)
  refine PyProof.Rows.callWith_builtin1 ?_ he (by rfl)
  rw [he]
  show wpAny _ _ (spliced ((false, eval (.GeneratorExp elt [⟨.Name x px, iter, [], 0⟩] scope gpos) X.env) :: backTo pos (starEach [] X.env))) _ _ s
  refine Calls.spliced_cons (gen_vals (pb := pb) (R := fun xs H1 => ∀ H2, GxR.Tabbed P H1 H2 → Q (.bl (xs.all (pb H1))) H2) hr TB hcode (S.of I.ok) hi hs I h fun xs H1 g s5 hR hG => ?_)
  obtain ⟨ft, wt, G, F, St, W, hst, htr, hI⟩ := hG
  refine Calls.spliced_nil ?_
  refine call_all_walkS (W.self 0 _ _ _ hst ⟨g, ft, wt, G, _, F, St, _, rfl, W, hst, htr, fun s' hmv => ?_⟩)
  obtain ⟨H2, hT, J⟩ := hI s' hmv
  refine ⟨.bl _, H2, J, rfl, ?_⟩
  rw [all_trV]
  exact hR H2 hT
end
/-! ### a code object's table, told only as a table -/
def TbO (a : Addr) : HO := .ext fun h => ∃ ps : Array Value, h.get? a = some { cls := .none, data := .fields ps } ∧ TriplesOk ps.toList
theorem tbO_ne (a : Addr) : (∀ x, TbO a ≠ .own x) ∧ (∀ xs, TbO a ≠ .tup xs) ∧ (∀ o u, TbO a ≠ .frz o u) ∧ ∀ ps, TbO a ≠ .tbl ps := by
  unfold TbO
  refine ⟨?_, ?_, ?_, ?_⟩ <;> intros <;> intro z <;> cases z
theorem hok_swap {P : Program} {w : World} {H : Hp} {h : Heap} {a : Addr} {o1 o2 : HO} (x : HOk P w H h) (e : H a = some o1) (n1 : ∀ y, o1 ≠ .own y) (n2 : ∀ xs, o1 ≠ .tup xs) (new : ObjOk P w (upd H a o2) h a o2) : HOk P w (upd H a o2) h := fun b o q => by
  by_cases hb : b = a
  · rw [hb, upd_same] at q
    cases q
    rw [hb]
    exact new
  · rw [upd_ne hb] at q
    refine (x b o q).stay (fun _ _ _ z => z) (fun d z => ?_) fun d xs z => ?_
    · rw [upd_ne (ne_of z e fun z2 => n1 _ z2.symm)]
      exact z
    · rw [upd_ne (ne_of z e fun z2 => n2 _ z2.symm)]
      exact z
theorem un_swap {fs : List Addr} {H H' : Hp} {h h' : Heap} {a : Addr} {o1 o2 o4 : HO} (e1 : H a = some o1) (u : Un fs [] (upd H a o2) H' h h') (n : ∀ xs, o1 ≠ .tup xs) (n2 : ∀ o x, o1 ≠ .frz o x) (n3 : ∀ ps, o1 = .tbl ps → ∃ more, o4 = .tbl (ps ++ more)) : Un fs [] H (upd H' a o4) h h' := by
  have nn : ∀ b, H b = none → b ≠ a := fun b z q => by
    rw [q, e1] at z
    cases z
  refine ⟨fun b o q z hb hx => u.keep b o q (by rw [upd_ne (nn b z)]; exact z) hb hx, fun b o q z hb hx => u.slot b o q (by rw [upd_ne (nn b z)]; exact z) hb hx, fun b o q z hx => ?_, u.there, fun b xs z => ?_, fun b o x z => ?_, fun b ps z => ?_⟩
  · rw [upd_ne (nn b z)]
    exact u.free b o q (by rw [upd_ne (nn b z)]; exact z) hx
  · have hb := ne_of z e1 fun q => n _ q.symm
    rw [upd_ne hb]
    exact u.tups b xs (by rw [upd_ne hb]; exact z)
  · have hb := ne_of z e1 fun q => n2 _ _ q.symm
    rw [upd_ne hb]
    exact u.frzs b o x (by rw [upd_ne hb]; exact z)
  · by_cases hb : b = a
    · rw [hb, e1] at z
      obtain ⟨more, q⟩ := n3 ps (Option.some.inj z)
      exact ⟨more, by rw [hb, upd_same, q]⟩
    · rw [upd_ne hb]
      exact u.tbls b ps (by rw [upd_ne hb]; exact z)
section
variable {P : Program} {w : World} {K : PySem.W.Frag} {mg : Str → Option Value} {base : Heap} {k : Nat} {f : Addr} {fd : FuncData} {ps : List Str} {sp : Sp}
theorem env0_swap {A : Around} {outer : List Env} {s : Shared} {H : Hp} {a : Addr} {o1 o2 : HO} (e0 : Env0 P w K mg base A outer s H) (e : H a = some o1) (n1 : ∀ y, o1 ≠ .own y) (n2 : ∀ xs, o1 ≠ .tup xs) (new : ObjOk P w (upd H a o2) s.heap a o2) : Env0 P w K mg base A outer s (upd H a o2) := by
  have nn : ∀ b, H b = none → b ≠ a := fun b z q => by
    rw [q, e] at z
    cases z
  exact ⟨e0.frames, e0.mod, fun b o q => ⟨(e0.bs b o q).1, by rw [upd_ne (nn b (e0.bs b o q).2)]; exact (e0.bs b o q).2⟩, e0.bsz, e0.funs, fun b hb => by rw [upd_ne (nn b (e0.frf b hb))]; exact e0.frf b hb, hok_swap e0.hok e n1 n2 new, e0.bare⟩
/-- a def that works with its table: told of the table only that it is one -/
theorem FnOk.tb (a : Addr) (F : FnOk P w K mg base CX0 k f fd ps sp) : FnOk P w K mg base CX0 k f fd ps (fun vs H Q E => H a = some (TbO a) ∧ ∀ tb : Array Value, TriplesOk tb.toList → sp vs (upd H a (.tbl tb)) (fun v H' => ∃ tb' : Array Value, H' a = some (.tbl tb') ∧ TriplesOk tb'.toList ∧ Q v (upd H' a (TbO a))) E) := by
  refine ⟨fun vs H Q E h => F.len _ _ _ _ (h.2 #[] True.intro), fun A outer s H args us vs Q E hr e0 hb r h => ?_⟩
  obtain ⟨ha, h⟩ := h
  obtain ⟨⟨tb, hg, ht⟩, _, _⟩ := e0.hok a _ ha
  obtain ⟨t1, t2, t3, t4⟩ := tbO_ne a
  refine codeAny_mono (F.run A outer s (upd H a (.tbl tb)) args us vs _ E hr (env0_swap e0 ha t1 t2 hg) hb r (h tb ht)) fun q s' hq => ?_
  cases q with
  | error e => exact hq
  | ok fl =>
    cases fl with
    | next => exact False.elim hq
    | brk => exact False.elim hq
    | cont => exact False.elim hq
    | ret u =>
      obtain ⟨v, H', os, bare, un, hok, rv, tb', h', ht', q⟩ := hq
      have hg' : s'.heap.get? a = some { cls := .none, data := .fields tb' } := hok a _ h'
      exact ⟨v, _, os, bare, un_swap ha un t2 t3 (fun ps z => absurd z (t4 ps)), hok_swap (o2 := TbO a) hok h' (fun _ z => by cases z) (fun _ z => by cases z) ⟨⟨tb', hg', ht'⟩, ⟨_, hg'⟩, fun h1 h2 ⟨ps, z, t⟩ st => ⟨ps, st _ z, t⟩⟩, rv, q⟩
/-- .. and back, for a row's end: the table is empty at the start -/
theorem FnOk.untb (a : Addr) (F : FnOk P w K mg base CX0 k f fd ps sp) : FnOk P w K mg base CX0 k f fd ps (fun vs H Q E => H a = some (.tbl #[]) ∧ sp vs (upd H a (TbO a)) (fun v H' => H' a = some (TbO a) ∧ ∀ tb' : Array Value, Q v (upd H' a (.tbl tb'))) E) := by
  refine ⟨fun vs H Q E h => F.len _ _ _ _ h.2, fun A outer s H args us vs Q E hr e0 hb r h => ?_⟩
  obtain ⟨ha, h⟩ := h
  have hg : s.heap.get? a = some { cls := .none, data := .fields #[] } := e0.hok a _ ha
  obtain ⟨t1, t2, t3, t4⟩ := tbO_ne a
  refine codeAny_mono (F.run A outer s (upd H a (TbO a)) args us vs _ E hr (env0_swap e0 ha (fun _ z => by cases z) (fun _ z => by cases z) ⟨⟨#[], hg, True.intro⟩, ⟨_, hg⟩, fun h1 h2 ⟨ps, z, t⟩ st => ⟨ps, st _ z, t⟩⟩) hb r h) fun q s' hq => ?_
  cases q with
  | error e => exact hq
  | ok fl =>
    cases fl with
    | next => exact False.elim hq
    | brk => exact False.elim hq
    | cont => exact False.elim hq
    | ret u =>
      obtain ⟨v, H', os, bare, un, hok, rv, h', q⟩ := hq
      obtain ⟨⟨tb', hg', ht'⟩, _, _⟩ := hok a _ h'
      exact ⟨v, _, os, bare, un_swap ha un (fun _ z => by cases z) (fun _ _ z => by cases z) (fun ps z => ⟨tb', by cases z; rw [Array.empty_append]⟩), hok_swap (o2 := .tbl tb') hok h' t1 t2 hg', rv, q tb'⟩
end
/-- x in y, x the walk's name, y a name of the def -/
theorem elt_in {X : Cx} {pins : List (Addr × Obj)} {σ : L2.St} {H1 : Hp} {P b : Addr} {scope : Scope} {x y : Str} {j : Nat} {xs items : List V} {p1 p2 p3 : Pos} (S : GenS0 X.env.scope scope x) (hy : (y, NameKind.free) ∈ scope.names) (hy2 : scope.names.lookup y = some .free) (hc : X.env.scope.names.lookup y = some .cell)
    (hj : X.N[j]? = some y) (hs : σ[j]? = some (some (V.ref b))) (hb : H1 b = some (.lst items) ∨ H1 b = some (.tup items)) (tb : GxR.TabG H1 P) (fi : items.all flatV = true) (fx : ∀ v ∈ xs, flatV v = true)
    (hd : (x == ("__debug__" : Str)) = false := by decide) (hd2 : (y == ("__debug__" : Str)) = false := by decide) (hn : (y == ("__classdict__" : Str)) = false := by decide) :
    EltV X pins σ H1 P scope x (.Compare (.Name x p1) [.In] [.Name y p2] p3) xs (fun v => inV v items) := by
  intro cenv A' E' v u s1 s2 m2 ecs ecc hv ru hns hm I keep
  obtain ⟨ps, hP, _⟩ := tb
  have nP : b ≠ P := fun z => by
    rw [z, hP] at hb
    rcases hb with h | h <;> cases h
  obtain ⟨m, hnm, hl⟩ := I.loc
  obtain ⟨ub, rb, look⟩ := hl j y (.ref b) hj hs (.inr (.inl hc))
  obtain rfl : ub = Value.ref b := rb
  obtain ⟨c, hcl, hcell⟩ : ∃ c, X.env.cells.lookup y = some c ∧ s1.heap.IsCell c (some (Value.ref b)) := by
    rcases look with ⟨z, _⟩ | ⟨_, a', ha', hcell⟩
    · have z' : X.env.scope.names.lookup y = some .local := z
      rw [hc] at z'
      cases z'
    · exact ⟨a', ha', hcell⟩
  have ncP : c ≠ P := fun z => by
    have := I.freeC y c hcl
    rw [z, hP] at this
    cases this
  have hcell2 : s2.heap.IsCell c (some (Value.ref b)) := by
    obtain ⟨o, ho, hd⟩ := hcell
    exact ⟨o, keep _ _ ncP ho, hd⟩
  have hcl2 : cenv.cells.lookup y = some c := by
    rw [ecc]
    exact NdefX.clo_has (S.of I.ok).free hy hcl
  refine wpAny_Compare1 ?_
  refine wpAny_Name (wpAny_loadName_local (by rw [ecs]; exact S.kind) (show cenv.scope.names.lookup x = some .local by rw [ecs]; exact S.loc) hns hm ?_) hd
  refine wpAny_Name (wpAny_loadName_free (by rw [ecs]; exact S.kind) (show cenv.scope.names.lookup y = some .free by rw [ecs]; exact hy2) hcl2 hcell2 ?_ hn) hd2
  rcases hb with hb | hb
  · obtain ⟨its, r, pl, hz⟩ := I.list (SqL.of hb)
    have hIL : s2.heap.IsList b its.toArray := by
      obtain ⟨ob, e, q⟩ := _root_.id pl.isList
      exact ⟨ob, keep _ _ nP e, q⟩
    refine SeqAt.in_listAt (eqU v) hIL (fun w hw => mem_eqAt ru (fx v hv) r fi w (by simpa using hw)) ⟨?_, GxR.keeps_refl _⟩
    rw [show its.toArray.any (eqU v) = its.any (eqU v) by simp, any_eqU r fi]
    rfl
  · obtain ⟨its, r, pl, hz⟩ := I.tuple (SqT.of hb)
    have hIL : s2.heap.IsTuple b its.toArray := by
      obtain ⟨ob, e, q⟩ := _root_.id pl
      exact ⟨ob, keep _ _ nP e, q⟩
    refine SeqAt.in_tupleAt (eqU v) hIL (fun w hw => mem_eqAt ru (fx v hv) r fi w (by simpa using hw)) ⟨?_, GxR.keeps_refl _⟩
    rw [show its.toArray.any (eqU v) = its.any (eqU v) by simp, any_eqU r fi]
    rfl
/-- a def whose code object is known -/
structure FunC (K : PySem.W.Frag) (x qual : Str) (st : Stmt) (f : Addr) (fd : FuncData) (c : Addr) : Prop where
  ex : ∃ (oc : Value) (od : Option Addr) (kV doc pm : Value) (an : Option Addr) (ct : Value) (osl : Array (Option Value)),
    fd = PySem.W.fnOf x qual (defArgs st) (defBody st) (defScope st) .none kV doc pm an (.ref c) ct ∧ K.lookup f = some ⟨oc, od, .func fd, osl⟩ ∧ PySem.W.codeIn K (.ref c) qual = true
theorem FunC.ok {P : Program} {w : World} {K : PySem.W.Frag} {mg : Str → Option Value} {base : Heap} {x qual : Str} {st : Stmt} {f c : Addr} {fd : FuncData} {N ps : List Str} {k : Nat} {sp : Sp} (F : FunC K x qual st f fd c) (S : FnScope N ps (defScope st)) (len : ∀ vs H Q E, sp vs H Q E → vs.length = ps.length)
    (hb : ∀ (A : Around) (outer : List Env) (s : Shared) (H : Hp) (vs : List V) (Q : VK) (E : XK), Room k (A.deeper (envOfC qual (defScope st) s.heap.objs.size f (.ref c))) → sp vs H Q E →
      ∃ t, PSs (cxOf CX0 P w K mg base N qual (defScope st) f (.ref c) A outer s H E).nox (defBody st) t ∧ t { nx := fun _ H' => Q .non H', rt := Q } (L2.start N vs) H) : FnOk P w K mg base CX0 (k + 1) f fd ps sp := by
  obtain ⟨oc, od, kV, doc, pm, an, ct, osl, rfl, lk, hcd⟩ := F.ex
  refine fn_of lk hcd S len fun A outer s H vs Q E hr hsp => ?_
  obtain ⟨t, h, q⟩ := hb A outer s H vs Q E hr hsp
  exact ⟨t, h.nox, q⟩

/-! ### sets of rooms, last calls -/
def optS (o : Option Str) : V := match o with
  | some z => .str z
  | none => .non
theorem optS_scal (o o' : Option Str) : scal (optS o) (optS o') = true := by cases o <;> cases o' <;> rfl
theorem optS_inj {o o' : Option Str} (h : optS o = optS o') : o = o' := by
  cases o with
  | none =>
    cases o' with
    | none => rfl
    | some z => cases h
  | some y =>
    cases o' with
    | none => cases h
    | some z => exact congrArg some (V.str.inj h)
def wordP (L : List Cl) (ps : List Int) : Option Str := (lastIn ps L).map (·.2)
theorem snoc_ind {α : Type} {M : List α → Prop} (h0 : M []) (hs : ∀ S c, M S → M (S ++ [c])) (L : List α) : M L := by
  have key : ∀ K : List α, M K.reverse := by
    intro K
    induction K with
    | nil => exact h0
    | cons c K ih => rw [List.reverse_cons]; exact hs _ _ ih
  have := key L.reverse
  rw [List.reverse_reverse] at this
  exact this
theorem lastIn_snoc (R : List Int) (S : List Cl) (c : Cl) : lastIn R (S ++ [c]) = if c.1 ∈ R then some c else lastIn R S := by
  unfold lastIn
  rw [List.reverse_append]
  show List.find? _ (c :: S.reverse) = _
  by_cases h : c.1 ∈ R
  · rw [List.find?_cons_of_pos (by simp [h]), if_pos h]
  · rw [List.find?_cons_of_neg (by simp [h]), if_neg h]
theorem find_ext {α : Type} {p q : α → Bool} : ∀ l : List α, (∀ a ∈ l, p a = q a) → l.find? p = l.find? q
  | [], _ => rfl
  | a :: l, h => by
    rw [List.find?_cons, List.find?_cons, h a List.mem_cons_self, find_ext l fun b hb => h b (List.mem_cons_of_mem _ hb)]
theorem lastIn_congr {R S : List Int} (h : ∀ x, x ∈ R ↔ x ∈ S) (L : List Cl) : lastIn R L = lastIn S L := by
  unfold lastIn
  refine find_ext _ fun c _ => ?_
  by_cases m : c.1 ∈ R
  · rw [decide_eq_true m, decide_eq_true ((h _).mp m)]
  · rw [decide_eq_false m, decide_eq_false fun z => m ((h _).mpr z)]
theorem wordP_snoc (S : List Cl) (c : Cl) (R : List Int) : wordP (S ++ [c]) R = if c.1 ∈ R then some c.2 else wordP S R := by
  unfold wordP
  rw [lastIn_snoc]
  by_cases h : c.1 ∈ R
  · rw [if_pos h, if_pos h]
    rfl
  · rw [if_neg h, if_neg h]
theorem wordP_congr {R S : List Int} (h : ∀ x, x ∈ R ↔ x ∈ S) (L : List Cl) : wordP L R = wordP L S := by
  unfold wordP
  rw [lastIn_congr h]
theorem lastIn_none {R : List Int} {L : List Cl} : lastIn R L = none ↔ ∀ c ∈ L, c.1 ∉ R := by
  unfold lastIn
  rw [List.find?_eq_none]
  constructor
  · intro h c hc z
    exact h c (List.mem_reverse.mpr hc) (decide_eq_true z)
  · intro h c hc z
    exact h c (List.mem_reverse.mp hc) (of_decide_eq_true z)
theorem int_sub_len2 {ys : List Int} : ∀ {R : List Int}, ys.Nodup → (∀ x ∈ ys, x ∈ R) → ys.length ≤ R.length := fun {R} nd h => by
  induction R generalizing ys with
  | nil =>
    cases ys with
    | nil => exact Nat.le_refl _
    | cons a l => exact absurd (h a List.mem_cons_self) (by simp)
  | cons a R ih =>
    have := ih (ys := ys.erase a) (nd.erase a) fun x hx => by
      have h2 := (List.Nodup.mem_erase_iff nd).mp hx
      rcases List.mem_cons.mp (h x h2.2) with e | e
      · exact absurd e h2.1
      · exact e
    have h3 : ys.length ≤ (ys.erase a).length + 1 := by
      by_cases m : a ∈ ys
      · rw [List.length_erase_of_mem m]
        omega
      · rw [List.erase_of_not_mem m]
        omega
    rw [List.length_cons]
    omega
theorem filter_lt {α : Type} {p : α → Bool} {x : α} : ∀ {l : List α}, x ∈ l → ¬ p x = true → (l.filter p).length < l.length
  | a :: l, h, n => by
    rcases List.mem_cons.mp h with e | m
    · rw [← e, List.filter_cons_of_neg n]
      exact Nat.lt_succ_of_le (List.length_filter_le _ _)
    · have ih := filter_lt m n
      by_cases c : p a = true
      · rw [List.filter_cons_of_pos c, List.length_cons, List.length_cons]
        omega
      · rw [List.filter_cons_of_neg c, List.length_cons]
        omega
theorem lastIn_in {R : List Int} {L : List Cl} {c : Cl} (h : lastIn R L = some c) : c.1 ∈ R := by
  have := List.find?_some h
  exact of_decide_eq_true this
/-- the last call of a set is the last one of each subset that holds its room -/
theorem lastIn_sub {R : List Int} {c : Cl} (L : List Cl) : ∀ {Q : List Int}, lastIn R L = some c → c.1 ∈ Q → (∀ z ∈ Q, z ∈ R) → lastIn Q L = some c := by
  refine snoc_ind (M := fun L => ∀ {Q : List Int}, lastIn R L = some c → c.1 ∈ Q → (∀ z ∈ Q, z ∈ R) → lastIn Q L = some c) (fun {Q} h => by cases h) (fun S d ih {Q} h hc sub => ?_) L
  rw [lastIn_snoc] at h ⊢
  by_cases m : d.1 ∈ R
  · rw [if_pos m] at h
    cases h
    rw [if_pos hc]
  · rw [if_neg m] at h
    rw [if_neg fun z => m (sub _ z)]
    exact ih h hc sub

/-! ### forms: the theory -/
/-- ascending, the same rooms -/
def insI (x : Int) : List Int → List Int
  | [] => [x]
  | y :: ys => if x < y then x :: y :: ys else if x = y then y :: ys else y :: insI x ys
theorem insI_mem (x : Int) : ∀ (ys : List Int) (z : Int), z ∈ insI x ys ↔ z = x ∨ z ∈ ys
  | [], z => by simp [insI]
  | y :: ys, z => by
    unfold insI
    split
    · rw [List.mem_cons]
    · split
      · rename_i h
        rw [h, List.mem_cons]
        exact ⟨fun q => .inr q, fun q => q.elim (fun e => .inl e) id⟩
      · rw [List.mem_cons, insI_mem x ys z, List.mem_cons]
        exact ⟨fun q => q.elim (fun e => .inr (.inl e)) fun q => q.elim .inl fun q => .inr (.inr q), fun q => q.elim (fun e => .inr (.inl e)) fun q => q.elim .inl fun q => .inr (.inr q)⟩
theorem insI_up (x : Int) : ∀ ys : List Int, Up ys → Up (insI x ys)
  | [], _ => List.pairwise_singleton _ _
  | y :: ys, h => by
    obtain ⟨h1, h2⟩ := List.pairwise_cons.mp h
    unfold insI
    split
    · rename_i c
      refine List.pairwise_cons.mpr ⟨fun z hz => ?_, h⟩
      rcases List.mem_cons.mp hz with e | m
      · omega
      · have := h1 z m
        omega
    · split
      · exact h
      · refine List.pairwise_cons.mpr ⟨fun z hz => ?_, insI_up x ys h2⟩
        rcases (insI_mem x ys z).mp hz with e | m
        · omega
        · exact h1 z m
def upF (R : List Int) : List Int := R.foldr insI []
theorem upF_mem (R : List Int) (x : Int) : x ∈ upF R ↔ x ∈ R := by
  induction R with
  | nil => exact Iff.rfl
  | cons y R ih =>
    show x ∈ insI y (upF R) ↔ _
    rw [insI_mem, ih, List.mem_cons]
theorem upF_up (R : List Int) : Up (upF R) := by
  induction R with
  | nil => exact List.Pairwise.nil
  | cons y R ih => exact insI_up y _ ih
theorem upF_eq {R ys : List Int} (h : Up ys) (m : ∀ x, x ∈ ys ↔ x ∈ R) : upF R = ys := up_uniq (upF_up R) h fun x => (upF_mem R x).trans (m x).symm
theorem up_nd {ys : List Int} (h : Up ys) : ys.Nodup := List.Pairwise.imp (fun {a b} (h : a < b) => by omega) h
open Classical in
theorem pc_ex (D : List Pr) (R : List Int) (s : Int) : ∃ ys, Pc D R s ys := by
  refine ⟨(upF R).filter fun x => decide (Rch D R s x), (upF_up R).filter _, fun x => ?_⟩
  rw [List.mem_filter, decide_eq_true_iff, upF_mem]
  exact ⟨fun h => h.2, fun h => ⟨h.mem, h⟩⟩
theorem pcs_go (D : List Pr) (R : List Int) : ∀ (n : Nat) (P : List (List Int)) (Lf : List Int), Lf.length ≤ n → PInv D R P Lf → ∃ L, Pcs D R L
  | _, P, [], _, h => ⟨P, h.done⟩
  | 0, _, _ :: _, h, _ => by cases h
  | n + 1, P, l0 :: Lf, hn, h => by
    obtain ⟨ys, hy⟩ := pc_ex D (l0 :: Lf) l0
    refine pcs_go D R n _ _ ?_ (h.step hy)
    have m : l0 ∈ ys := hy.self List.mem_cons_self
    rw [List.filter_cons_of_neg (by simpa using m)]
    exact Nat.le_trans (List.length_filter_le _ _) (Nat.le_of_succ_le_succ hn)
theorem pcs_ex (D : List Pr) (R : List Int) : ∃ L, Pcs D R L := pcs_go D R _ [] (upF R) (Nat.le_refl _) (.start (upF_mem R) (List.Pairwise.imp (fun {a b} (h : a < b) => Int.le_of_lt h) (upF_up R)))
open Classical in
noncomputable def pcsF (D : List Pr) (R : List Int) : List (List Int) := choose (pcs_ex D R)
theorem pcsF_spec (D : List Pr) (R : List Int) : Pcs D R (pcsF D R) := Classical.choose_spec (pcs_ex D R)
theorem pcsF_eq {D : List Pr} {R : List Int} {L : List (List Int)} (h : Pcs D R L) : pcsF D R = L := (pcsF_spec D R).uniq h fun _ => Iff.rfl
theorem pcsF_congr {D : List Pr} {R S : List Int} (h : ∀ x, x ∈ R ↔ x ∈ S) : pcsF D R = pcsF D S := (pcsF_spec D R).uniq (pcsF_spec D S) h
theorem pcsF_nil (D : List Pr) : pcsF D [] = [] := pcsF_eq (Pcs.nil D)
/-- a set of rooms that hangs together -/
def Part (D : List Pr) (Q : List Int) : Prop := Up Q ∧ ∃ s ∈ Q, ∀ x ∈ Q, Rch D Q s x
theorem Pc.part {D : List Pr} {R : List Int} {s : Int} {ys : List Int} (h : Pc D R s ys) (m : s ∈ R) : Part D ys := by
  refine ⟨h.1, s, h.self m, fun x hx => ?_⟩
  have key : ∀ x, Rch D R s x → Rch D ys s x := fun x k => by
    induction k with
    | base k => exact .base (h.self m)
    | step k a b ih => exact ih.step a ((h.2 _).mpr (k.step a b))
  exact key x ((h.2 x).mp hx)
theorem Pcs.part {D : List Pr} {R : List Int} {P : List (List Int)} (h : Pcs D R P) {ys : List Int} (m : ys ∈ P) : Part D ys := by
  obtain ⟨s, hs, hc⟩ := h.pc ys m
  exact hc.part hs
theorem Pcs.sub_of {D : List Pr} {R : List Int} {P : List (List Int)} (h : Pcs D R P) {ys : List Int} (m : ys ∈ P) : ∀ x ∈ ys, x ∈ R := fun x hx => by
  obtain ⟨s, hs, hc⟩ := h.pc ys m
  exact ((hc.2 x).mp hx).mem
theorem Pcs.ne {D : List Pr} {R : List Int} {P : List (List Int)} (h : Pcs D R P) {ys : List Int} (m : ys ∈ P) : ys ≠ [] := fun e => by
  obtain ⟨s, hs, hc⟩ := h.pc ys m
  have := hc.self hs
  rw [e] at this
  cases this
/-- a part lies in one piece -/
theorem Pcs.within {D : List Pr} {R : List Int} {P : List (List Int)} (h : Pcs D R P) {Q : List Int} (hQ : Part D Q) (sub : ∀ x ∈ Q, x ∈ R) {ys : List Int} (m : ys ∈ P) {x : Int} (hx : x ∈ Q) (hy : x ∈ ys) : ∀ z ∈ Q, z ∈ ys := fun z hz => by
  obtain ⟨_, s, hs, hr⟩ := hQ
  obtain ⟨t, ht, hc⟩ := h.pc ys m
  have r1 := (hr x hx).symm.trans (hr z hz)
  exact (hc.2 z).mpr (((hc.2 x).mp hy).trans (r1.mono sub))
theorem Pcs.apart {D : List Pr} {R : List Int} {P : List (List Int)} (h : Pcs D R P) {ys zs : List Int} (m : ys ∈ P) (k : zs ∈ P) {x : Int} (hy : x ∈ ys) (hz : x ∈ zs) : ys = zs := by
  obtain ⟨s, hs, hc⟩ := h.pc ys m
  obtain ⟨t, ht, hd⟩ := h.pc zs k
  exact (hc.of hy).uniq (hd.of hz)
theorem Pcs.len {D : List Pr} {R : List Int} {P : List (List Int)} (h : Pcs D R P) : P.length ≤ R.length := by
  have nd : (P.map hdI).Nodup := List.pairwise_map.mpr (List.Pairwise.imp (fun {a b} (q : hdI a < hdI b) => by omega) h.asc)
  have := int_sub_len2 nd fun x hx => by
    obtain ⟨ys, hy, rfl⟩ := List.mem_map.mp hx
    obtain ⟨s, hs, hc⟩ := h.pc ys hy
    exact ((hc.2 _).mp (hdI_mem (hc.self hs))).mem
  rw [List.length_map] at this
  exact this
/-- the keepers of a part with a word, the top room first -/
noncomputable def keepL (D : List Pr) (L : List Cl) : Nat → List Int → List Int
  | 0, _ => []
  | n + 1, P => match lastIn P L with
    | none => []
    | some c => c.1 :: (pcsF D (P.filter fun x => decide (x ≠ c.1))).flatMap fun Q => if wordP L Q = some c.2 then keepL D L n Q else []
theorem keepL_sub {D : List Pr} {L : List Cl} : ∀ (n : Nat) (P : List Int) (x : Int), x ∈ keepL D L n P → x ∈ P
  | 0, _, _, h => by cases h
  | n + 1, P, x, h => by
    unfold keepL at h
    split at h
    · cases h
    · rename_i c e
      rcases List.mem_cons.mp h with q | q
      · rw [q]
        exact (lastIn_in e)
      · obtain ⟨Q, hQ, hx⟩ := List.mem_flatMap.mp q
        split at hx
        · have := (pcsF_spec D _).sub_of hQ x (keepL_sub n Q x hx)
          exact (List.mem_filter.mp this).1
        · cases hx
/-- a keeper: each part within that holds the room has the word of the part -/
theorem keepL_iff {D : List Pr} {L : List Cl} : ∀ (n : Nat) (P : List Int) (w : Str), P.length ≤ n → Part D P → wordP L P = some w → ∀ x, x ∈ keepL D L n P ↔ x ∈ P ∧ ∀ Q, Part D Q → x ∈ Q → (∀ z ∈ Q, z ∈ P) → wordP L Q = some w
  | 0, P, w, hn, hp, _, x => by
    obtain ⟨_, s, hs, _⟩ := hp
    have : P = [] := List.length_eq_zero_iff.mp (Nat.le_zero.mp hn)
    rw [this] at hs
    cases hs
  | n + 1, P, w, hn, hp, hw, x => by
    obtain ⟨c, e, ec⟩ : ∃ c, lastIn P L = some c ∧ c.2 = w := by
      unfold wordP at hw
      cases e : lastIn P L with
      | none => rw [e] at hw; cases hw
      | some c => rw [e] at hw; exact ⟨c, rfl, Option.some.inj hw⟩
    subst ec
    have cP := lastIn_in e
    have hs := pcsF_spec D (P.filter fun x => decide (x ≠ c.1))
    have lt : ∀ Q ∈ pcsF D (P.filter fun x => decide (x ≠ c.1)), Q.length ≤ n := fun Q hQ => by
      have nd := up_nd (hs.part hQ).1
      have h1 := int_sub_len2 nd (hs.sub_of hQ)
      have h2 : (P.filter fun x => decide (x ≠ c.1)).length < P.length := filter_lt cP (by simp)
      omega
    have topIn : ∀ Q : List Int, c.1 ∈ Q → (∀ z ∈ Q, z ∈ P) → wordP L Q = some c.2 := fun Q hc sub => by
      unfold wordP
      rw [lastIn_sub L e hc sub]
      rfl
    unfold keepL
    rw [e]
    show x ∈ c.1 :: _ ↔ _
    rw [List.mem_cons]
    constructor
    · rintro (q | q)
      · rw [q]
        exact ⟨cP, fun Q _ hc sub => topIn Q hc sub⟩
      · obtain ⟨Q, hQ, hx⟩ := List.mem_flatMap.mp q
        split at hx
        · rename_i hwq
          obtain ⟨h1, h2⟩ := (keepL_iff n Q c.2 (lt Q hQ) (hs.part hQ) hwq x).mp hx
          refine ⟨(List.mem_filter.mp (hs.sub_of hQ x h1)).1, fun S hS xS sub => ?_⟩
          by_cases m : c.1 ∈ S
          · exact topIn S m sub
          · refine h2 S hS xS (hs.within hS (fun z hz => List.mem_filter.mpr ⟨sub z hz, decide_eq_true fun z' => m (by rw [← z']; exact hz)⟩) hQ xS h1)
        · cases hx
    · rintro ⟨h1, h2⟩
      by_cases q : x = c.1
      · exact .inl q
      · refine .inr ?_
        have xf : x ∈ P.filter fun x => decide (x ≠ c.1) := List.mem_filter.mpr ⟨h1, decide_eq_true q⟩
        obtain ⟨Q, hQ, xQ⟩ := hs.cov x xf
        have sub : ∀ z ∈ Q, z ∈ P := fun z hz => (List.mem_filter.mp (hs.sub_of hQ z hz)).1
        have hwq := h2 Q (hs.part hQ) xQ sub
        refine List.mem_flatMap.mpr ⟨Q, hQ, ?_⟩
        rw [if_pos hwq]
        exact (keepL_iff n Q c.2 (lt Q hQ) (hs.part hQ) hwq x).mpr ⟨xQ, fun S hS xS sb => h2 S hS xS fun z hz => sub z (sb z hz)⟩
/-- blocks -/
inductive Blk where
  | mk (w : Option Str) (t : List Int) (i : List Blk)
def Blk.w : Blk → Option Str
  | .mk w _ _ => w
def Blk.t : Blk → List Int
  | .mk _ t _ => t
def Blk.i : Blk → List Blk
  | .mk _ _ i => i
/-- the blocks of some rooms -/
noncomputable def blkF (D : List Pr) (L : List Cl) : Nat → List Int → List Blk
  | 0, _ => []
  | n + 1, R => (pcsF D R).map fun P => match wordP L P with
    | none => .mk none P []
    | some w => .mk (some w) (upF (keepL D L 12 P)) (blkF D L n (P.filter fun x => decide (x ∉ keepL D L 12 P)))
/-- two logs leave the same words in the parts of some rooms -/
def AlkP (D : List Pr) (R : List Int) (L M : List Cl) : Prop := ∀ Q, Part D Q → (∀ z ∈ Q, z ∈ R) → wordP L Q = wordP M Q
theorem keep_alk {D : List Pr} {L M : List Cl} {P : List Int} {w : Str} (hn : P.length ≤ 12) (hp : Part D P) (h : AlkP D P L M) (hw : wordP L P = some w) : ∀ x, x ∈ keepL D L 12 P ↔ x ∈ keepL D M 12 P := fun x => by
  have hm := (h P hp fun _ q => q).symm.trans hw
  rw [keepL_iff 12 P w hn hp hw x, keepL_iff 12 P w hn hp hm x]
  exact ⟨fun ⟨a, b⟩ => ⟨a, fun Q hQ xQ sub => (h Q hQ sub).symm.trans (b Q hQ xQ sub)⟩, fun ⟨a, b⟩ => ⟨a, fun Q hQ xQ sub => (h Q hQ sub).trans (b Q hQ xQ sub)⟩⟩
theorem blkF_alk {D : List Pr} {L M : List Cl} : ∀ (n : Nat) (R : List Int), R.length ≤ 12 → AlkP D R L M → blkF D L n R = blkF D M n R
  | 0, _, _, _ => rfl
  | n + 1, R, hR, h => by
    unfold blkF
    refine List.map_congr_left fun P hP => ?_
    have hs := pcsF_spec D R
    have sub := hs.sub_of hP
    have part := hs.part hP
    have pl : P.length ≤ 12 := Nat.le_trans (int_sub_len2 (up_nd part.1) sub) hR
    have hPa : AlkP D P L M := fun Q hQ sb => h Q hQ fun z hz => sub z (sb z hz)
    rw [← hPa P part fun _ q => q]
    cases e : wordP L P with
    | none => rfl
    | some w =>
      have km := keep_alk pl part hPa e
      have e1 : upF (keepL D L 12 P) = upF (keepL D M 12 P) := upF_eq (upF_up _) fun x => (upF_mem _ x).trans (km x).symm
      have e2 : (P.filter fun x => decide (x ∉ keepL D L 12 P)) = P.filter fun x => decide (x ∉ keepL D M 12 P) := List.filter_congr fun x _ => by
        rw [decide_eq_decide]
        exact not_congr (km x)
      show Blk.mk _ _ _ = Blk.mk _ _ _
      rw [e1, e2]
      rw [blkF_alk n _ (Nat.le_trans (List.length_filter_le _ _) pl) fun Q hQ sb => hPa Q hQ fun z hz => (List.mem_filter.mp (sb z hz)).1]

/-! ### the plain log of a form -/
theorem wordP_app (A B : List Cl) (Q : List Int) : wordP (A ++ B) Q = (wordP B Q).or (wordP A Q) := by
  refine snoc_ind (M := fun B => wordP (A ++ B) Q = (wordP B Q).or (wordP A Q)) ?_ (fun S c ih => ?_) B
  · rw [List.append_nil]
    rfl
  · rw [← List.append_assoc, wordP_snoc, wordP_snoc, ih]
    split <;> rfl
theorem lastIn_cons (R : List Int) (c : Cl) (S : List Cl) : lastIn R (c :: S) = match lastIn R S with
    | some d => some d
    | none => if c.1 ∈ R then some c else none := by
  unfold lastIn
  rw [List.reverse_cons, List.find?_append]
  cases e : S.reverse.find? (fun c => decide (c.1 ∈ R)) with
  | some d => rfl
  | none =>
    show List.find? (fun c : Cl => decide (c.1 ∈ R)) [c] = if c.1 ∈ R then some c else none
    by_cases h : c.1 ∈ R
    · rw [List.find?_cons_of_pos (by simp [h]), if_pos h]
    · rw [List.find?_cons_of_neg (by simp [h]), if_neg h]
      rfl
theorem lastIn_lastF (R : List Int) : ∀ S : List Cl, lastIn R (lastF S) = lastIn R S
  | [] => rfl
  | c :: S => by
    have ih := lastIn_lastF R S
    show lastIn R (if c.1 ∈ S.map (·.1) then lastF S else c :: lastF S) = _
    by_cases h : c.1 ∈ S.map (·.1)
    · rw [if_pos h, ih, lastIn_cons]
      cases e : lastIn R S with
      | some d => rfl
      | none =>
        obtain ⟨d, hd, ed⟩ := List.mem_map.mp h
        have n := lastIn_none.mp e d hd
        rw [ed] at n
        simp only [if_neg n]
    · rw [if_neg h, lastIn_cons, lastIn_cons, ih]
theorem wordP_last (L : List Cl) (ps : List Int) : wordP (lastF L) ps = wordP L ps := by
  unfold wordP
  rw [lastIn_lastF]
theorem wordP_out {A : List Cl} {Q : List Int} (h : ∀ c ∈ A, c.1 ∉ Q) : wordP A Q = none := by
  unfold wordP
  rw [lastIn_none.mpr h]
  rfl
theorem wordP_none {A : List Cl} {Q : List Int} (h : wordP A Q = none) : ∀ c ∈ A, c.1 ∉ Q := by
  unfold wordP at h
  cases e : lastIn Q A with
  | none => exact lastIn_none.mp e
  | some c => rw [e] at h; cases h
theorem wordP_sub {A : List Cl} {Q R : List Int} (h : wordP A R = none) (sub : ∀ z ∈ Q, z ∈ R) : wordP A Q = none := wordP_out fun c hc z => wordP_none h c hc (sub _ z)
theorem wordP_flat {α : Type} {g : α → List Cl} {Q : List Int} : ∀ {l : List α} {a : α}, a ∈ l → (∀ b ∈ l, b ≠ a → ∀ c ∈ g b, c.1 ∉ Q) → wordP (l.flatMap g) Q = wordP (g a) Q
  | b :: l, a, m, h => by
    rw [List.flatMap_cons, wordP_app]
    by_cases ml : a ∈ l
    · rw [wordP_flat ml fun b hb => h b (List.mem_cons_of_mem _ hb)]
      by_cases e : b = a
      · rw [e]
        cases wordP (g a) Q <;> rfl
      · rw [wordP_out (h b List.mem_cons_self e)]
        cases wordP (g a) Q <;> rfl
    · rcases List.mem_cons.mp m with e | m
      · subst e
        rw [wordP_out (A := l.flatMap g) fun c hc => ?_]
        · rfl
        · obtain ⟨d, hd, hc⟩ := List.mem_flatMap.mp hc
          exact h d (List.mem_cons_of_mem _ hd) (fun z => ml (by rw [← z]; exact hd)) c hc
      · exact absurd m ml
theorem wordP_const {T : List Int} {w : Str} {Q : List Int} {x : Int} (hx : x ∈ T) (hq : x ∈ Q) : wordP (T.map fun x => (x, w)) Q = some w := by
  cases e : wordP (T.map fun x => (x, w)) Q with
  | none => exact absurd hq (wordP_none e (x, w) (List.mem_map.mpr ⟨x, hx, rfl⟩))
  | some v =>
    unfold wordP at e
    cases e2 : lastIn Q (T.map fun x => (x, w)) with
    | none => rw [e2] at e; cases e
    | some c =>
      rw [e2] at e
      have hm := List.mem_reverse.mp (List.mem_of_find?_eq_some e2)
      obtain ⟨y, _, ey⟩ := List.mem_map.mp hm
      subst ey
      exact e.symm
def plainF : Nat → List Blk → List Cl
  | 0, _ => []
  | n + 1, bs => bs.flatMap fun b => match b.w with
    | none => []
    | some w => plainF n b.i ++ b.t.map fun x => (x, w)
/-- the block of a piece -/
noncomputable def blkP (D : List Pr) (L : List Cl) (n : Nat) (P : List Int) : Blk := match wordP L P with
  | none => .mk none P []
  | some w => .mk (some w) (upF (keepL D L 12 P)) (blkF D L n (P.filter fun x => decide (x ∉ keepL D L 12 P)))
theorem blkF_succ (D : List Pr) (L : List Cl) (n : Nat) (R : List Int) : blkF D L (n + 1) R = (pcsF D R).map (blkP D L n) := rfl
def plainB (n : Nat) (b : Blk) : List Cl := match b.w with
  | none => []
  | some w => plainF n b.i ++ b.t.map fun x => (x, w)
theorem plainF_succ (n : Nat) (bs : List Blk) : plainF (n + 1) bs = bs.flatMap (plainB n) := rfl
theorem keepL_ne {D : List Pr} {L : List Cl} {n : Nat} {P : List Int} {w : Str} (h : wordP L P = some w) : ∃ x ∈ P, x ∈ keepL D L (n + 1) P := by
  unfold wordP at h
  unfold keepL
  cases e : lastIn P L with
  | none => rw [e] at h; cases h
  | some c => exact ⟨c.1, lastIn_in e, List.mem_cons_self⟩
theorem plain_in {D : List Pr} {L : List Cl} : ∀ (n m : Nat) (R : List Int), ∀ c ∈ plainF n (blkF D L m R), c.1 ∈ R
  | 0, _, _, _, h => by cases h
  | n + 1, 0, R, c, h => by cases h
  | n + 1, m + 1, R, c, h => by
    rw [plainF_succ, blkF_succ] at h
    obtain ⟨b, hb, hc⟩ := List.mem_flatMap.mp h
    obtain ⟨P, hP, rfl⟩ := List.mem_map.mp hb
    refine (pcsF_spec D R).sub_of hP _ ?_
    unfold plainB blkP at hc
    cases e : wordP L P with
    | none =>
      rw [e] at hc
      cases hc
    | some w =>
      rw [e] at hc
      rcases List.mem_append.mp hc with q | q
      · exact (List.mem_filter.mp (plain_in n m _ c q)).1
      · obtain ⟨x, hx, rfl⟩ := List.mem_map.mp q
        exact keepL_sub _ _ _ ((upF_mem _ _).mp hx)
theorem plain_alk {D : List Pr} {L : List Cl} : ∀ (n m k : Nat) (R : List Int), R.length ≤ n → n ≤ m → n ≤ k → R.length ≤ 12 → AlkP D R (plainF m (blkF D L k R)) L
  | 0, _, _, R, hR, _, _, _, Q, hQ, sub => by
    obtain ⟨_, s, hs, _⟩ := hQ
    have := sub s hs
    rw [List.length_eq_zero_iff.mp (Nat.le_zero.mp hR)] at this
    cases this
  | n + 1, 0, _, _, _, h, _, _, _, _, _ => by cases h
  | n + 1, _ + 1, 0, _, _, _, h, _, _, _, _ => by cases h
  | n + 1, m + 1, k + 1, R, hR, hm, hk, h12, Q, hQ, sub => by
    have hs := pcsF_spec D R
    obtain ⟨_, s, sQ, hr⟩ := id hQ
    obtain ⟨P, hP, sP⟩ := hs.cov s (sub s sQ)
    have QP := hs.within hQ sub hP sQ sP
    have partP := hs.part hP
    have pl : P.length ≤ R.length := int_sub_len2 (up_nd partP.1) (hs.sub_of hP)
    have inP : ∀ P' : List Int, ∀ c ∈ plainB m (blkP D L k P'), c.1 ∈ P' := fun P' c hc => by
      unfold plainB blkP at hc
      cases e : wordP L P' with
      | none =>
        rw [e] at hc
        cases hc
      | some w =>
        rw [e] at hc
        rcases List.mem_append.mp hc with q | q
        · exact (List.mem_filter.mp (plain_in m k _ c q)).1
        · obtain ⟨x, hx, rfl⟩ := List.mem_map.mp q
          exact keepL_sub _ _ _ ((upF_mem _ _).mp hx)
    rw [plainF_succ, blkF_succ, List.flatMap_map, wordP_flat hP fun P' hP' ne c hc z => ne (hs.apart hP' hP (inP P' c hc) (QP _ z))]
    unfold plainB blkP
    cases e : wordP L P with
    | none => exact (wordP_sub e QP).symm
    | some w =>
      show wordP (plainF m (blkF D L k (P.filter fun x => decide (x ∉ keepL D L 12 P))) ++ (upF (keepL D L 12 P)).map fun x => (x, w)) Q = _
      rw [wordP_app]
      have ki := keepL_iff 12 P w (Nat.le_trans pl h12) partP e
      by_cases hx : ∃ x ∈ Q, x ∈ keepL D L 12 P
      · obtain ⟨x, xQ, xk⟩ := hx
        rw [wordP_const ((upF_mem _ _).mpr xk) xQ, ((ki x).mp xk).2 Q hQ xQ QP]
        rfl
      · have no : ∀ x ∈ Q, x ∉ keepL D L 12 P := fun x xQ xk => hx ⟨x, xQ, xk⟩
        rw [wordP_out (A := (upF (keepL D L 12 P)).map fun x => (x, w)) fun c hc z => by
          obtain ⟨y, hy, rfl⟩ := List.mem_map.mp hc
          exact no y z ((upF_mem _ _).mp hy)]
        obtain ⟨x, xP, xk⟩ := keepL_ne (D := D) (n := 11) e
        have lt : (P.filter fun x => decide (x ∉ keepL D L 12 P)).length < P.length := filter_lt xP (by simpa using xk)
        exact plain_alk n m k _ (by omega) (Nat.le_of_succ_le_succ hm) (Nat.le_of_succ_le_succ hk) (by omega) Q hQ fun z hz => List.mem_filter.mpr ⟨QP z hz, decide_eq_true (no z hz)⟩
theorem alk_app {D : List Pr} {R : List Int} {A B A' B' : List Cl} (h : AlkP D R A A') (k : AlkP D R B B') : AlkP D R (A ++ B) (A' ++ B') := fun Q hQ sub => by
  rw [wordP_app, wordP_app, h Q hQ sub, k Q hQ sub]
theorem alk_refl (D : List Pr) (R : List Int) (A : List Cl) : AlkP D R A A := fun _ _ _ => rfl
/-- the form of a house -/
noncomputable def formF (D : List Pr) (r : Nat) (L : List Cl) : List Blk := blkF D L 12 (rg r)
theorem form_alk {D : List Pr} {r : Nat} {L M : List Cl} (hr : r ≤ 12) (h : AlkP D (rg r) L M) : formF D r L = formF D r M := blkF_alk 12 _ (by rw [rg_len]; exact hr) h
theorem form_plain {D : List Pr} {r : Nat} {L : List Cl} (hr : r ≤ 12) : AlkP D (rg r) (plainF 12 (formF D r L)) L := plain_alk 12 12 12 _ (by rw [rg_len]; exact hr) (Nat.le_refl _) (Nat.le_refl _) (by rw [rg_len]; exact hr)
/-! ### forms in the heap -/
structure BlkV (H : Hp) (B : List V → List Blk → Prop) (v : V) (b : Blk) : Prop where
  ex : ∃ a t i xs, v = V.ref a ∧ H a = some (.tup [optS b.w, .ref t, .ref i]) ∧ H t = some (.tup (b.t.map V.int)) ∧ b.t.length ≤ 1000 ∧ H i = some (.tup xs) ∧ B xs b.i
def BlksAt (H : Hp) : Nat → List V → List Blk → Prop
  | 0, xs, bs => xs = [] ∧ bs = []
  | n + 1, xs, bs => xs.length ≤ 1000 ∧ Paired (BlkV H (BlksAt H n)) xs bs
theorem BlksAt.kt {H H' : Hp} (k : KT H H') : ∀ {n : Nat} {xs : List V} {bs : List Blk}, BlksAt H n xs bs → BlksAt H' n xs bs
  | 0, _, _, h => h
  | n + 1, xs, bs, h => ⟨h.1, Paired.mapP h.2 fun v b q => by
    obtain ⟨a, t, i, ys, e, h1, h2, h3, h4, h5⟩ := q.ex
    exact ⟨a, t, i, ys, e, k _ _ h1, k _ _ h2, h3, k _ _ h4, BlksAt.kt k h5⟩⟩
theorem BlksAt.len {H : Hp} : ∀ {n : Nat} {xs : List V} {bs : List Blk}, BlksAt H n xs bs → xs.length = bs.length
  | 0, _, _, h => by rw [h.1, h.2]; rfl
  | _ + 1, _, _, h => Paired.length h.2
/-- a form at a tuple -/
def FormAt (H : Hp) (n : Nat) (v : V) (bs : List Blk) : Prop := ∃ a xs, v = V.ref a ∧ H a = some (.tup xs) ∧ BlksAt H n xs bs
theorem FormAt.kt {H H' : Hp} {n : Nat} {v : V} {bs : List Blk} (h : FormAt H n v bs) (k : KT H H') : FormAt H' n v bs := by
  obtain ⟨a, xs, e, h1, h2⟩ := h
  exact ⟨a, xs, e, k _ _ h1, h2.kt k⟩
theorem blks_nil {H : Hp} {n : Nat} {a : Addr} (h : H a = some (.tup [])) : FormAt H n (.ref a) [] := by
  refine ⟨a, [], rfl, h, ?_⟩
  cases n with
  | zero => exact ⟨rfl, rfl⟩
  | succ n => exact ⟨Nat.zero_le _, Paired.nil⟩
theorem flat_optS (o : Option Str) : flat4 (optS o) = true := by cases o <;> rfl
theorem sm_ints {H : Hp} {n : Nat} {t u : Addr} {T : List Int} (h : H t = some (.tup (T.map V.int))) (k : H u = some (.tup (T.map V.int))) (l : T.length ≤ 1000) : Sm H (n + 1) (.ref t) (.ref u) := by
  refine .inr ⟨t, u, _, _, rfl, rfl, .inr ⟨h, k⟩, ?_, by rw [List.length_map]; omega⟩
  have : ∀ T : List Int, Paired (Sm H n) (T.map V.int) (T.map V.int) := fun T => by
    induction T with
    | nil => exact .nil
    | cons x T ih => exact .cons (Sm.flat rfl) ih
  exact this T
theorem sm_blks {H : Hp} : ∀ {n : Nat} {xs ys : List V} {bs : List Blk}, BlksAt H n xs bs → BlksAt H n ys bs → Paired (Sm H (2 * n)) xs ys
  | 0, _, _, _, h, k => by
    rw [h.1, k.1]
    exact .nil
  | n + 1, xs, ys, bs, h, k => by
    have go : ∀ {xs ys : List V} {bs : List Blk}, Paired (BlkV H (BlksAt H n)) xs bs → Paired (BlkV H (BlksAt H n)) ys bs → Paired (Sm H (2 * (n + 1))) xs ys := fun {xs ys bs} h k => by
      induction h generalizing ys with
      | nil =>
        cases k
        exact .nil
      | cons r _ ih =>
        cases k with
        | cons q t =>
          refine .cons ?_ (ih t)
          obtain ⟨a, t1, i, us, rfl, a1, a2, a3, a4, a5⟩ := r.ex
          obtain ⟨b, t2, j, vs, rfl, b1, b2, b3, b4, b5⟩ := q.ex
          refine .inr ⟨a, b, _, _, rfl, rfl, .inr ⟨a1, b1⟩, .cons (Sm.flat (flat_optS _)) (.cons (sm_ints a2 b2 a3) (.cons ?_ .nil)), by show 3 ≤ 100000; decide⟩
          refine .inr ⟨i, j, _, _, rfl, rfl, .inr ⟨a4, b4⟩, sm_blks a5 b5, ?_⟩
          cases n with
          | zero =>
            rw [a5.1]
            decide
          | succ n => exact Nat.le_trans a5.1 (by decide)
    exact go h.2 k.2
theorem sm_form {H : Hp} {v u : V} {bs : List Blk} (h : FormAt H 12 v bs) (k : FormAt H 12 u bs) : Sm H 25 v u := by
  obtain ⟨a, xs, rfl, h1, h2⟩ := h
  obtain ⟨b, ys, rfl, k1, k2⟩ := k
  exact .inr ⟨a, b, _, _, rfl, rfl, .inr ⟨h1, k1⟩, sm_blks h2 k2, Nat.le_trans h2.1 (by decide)⟩

/-! ### comprehensions with one name, over a tuple; over ints, kept by a test -/
theorem lcW {wi : TI} {g : TG} {tt : TT} {te : TE} {vs : List Nat} {σ : L2.St} {H : Hp} {Q : VK} (h : wi σ H fun J H1 => tLc (fun _ H R => R J H) g tt te vs σ H1 Q) : tLc wi g tt te vs σ H Q := h
theorem gc_tup {β : Type} {K : PySem.W.Frag} {a : Addr} {xs : List V} {i : Nat} {tt : TT} {te : TE} {σ : L2.St} {H1 : Hp} {Q : VK} (rel : Hp → V → β → Prop) (up : ∀ H H' v b, rel H v b → KT H H' → rel H' v b) (sel : Nat → Option β) (ha : H1 a = some (.tup xs)) (len : xs.length ≤ 100000)
    (step : ∀ (j : Nat) (x : V) (Hx : Hp) (A : VK) (B : Hp → Prop), xs[j]? = some x → Same H1 Hx → (∀ v b Hy, sel j = some b → Same Hx Hy → rel Hy v b → A v Hy) → (∀ Hy, sel j = none → Same Hx Hy → B Hy) → tt (σ.set i (some x)) Hx fun c H3 => if c = true then te (σ.set i (some x)) H3 A else B H3)
    (q : ∀ o ys H', Same H1 H' → H1 o = none → H' o = some (.lst ys) → Paired (rel H') ys ((List.range xs.length).filterMap sel) → Q (.ref o) H') :
    tLc (fun _ H R => R (Itt K a) H) (gName i) tt te [i] σ H1 Q := by
  intro D nD
  obtain ⟨Pv, hPv⟩ : ∃ Pv : Nat → Hp → Prop, Pv = (fun j Hx => ∃ ys, Same H1 Hx ∧ Hx D = some (.lst ys) ∧ Paired (rel Hx) ys ((List.range j).filterMap sel)) := ⟨_, rfl⟩
  refine lc_tup (K := K) (a := a) (xs := xs) Pv (by rw [hPv]; exact ⟨[], same_upd nD, upd_same, Paired.nil⟩) (fun j H' _ pv => by rw [hPv] at pv; obtain ⟨_, sm, _⟩ := pv; exact SqT.of (sm _ _ ha)) (fun j x H' gx pv => ?_) (fun H' pv => ?_)
  · rw [hPv] at pv
    obtain ⟨ys, sm, hD, pr⟩ := pv
    have jl := (List.getElem?_eq_some_iff.mp gx).1
    have yl : ys.length ≤ j := by rw [pr.length]; exact fm_len sel j
    have ew : (wipe σ [i]).set i (some x) = σ.set i (some x) := by show (σ.set i none).set i (some x) = _; rw [List.set_set]
    show wipe ((wipe σ [i]).set i (some x)) [i] = wipe σ [i] ∧ tt ((wipe σ [i]).set i (some x)) H' fun c H3 => if c = true then te ((wipe σ [i]).set i (some x)) H3 _ else _
    rw [ew]
    refine ⟨by show (σ.set i (some x)).set i none = σ.set i none; rw [List.set_set], ?_⟩
    refine step j x H' _ _ gx sm (fun v b Hy es sy r => ?_) (fun Hy es sy => ?_)
    · have hD2 := sy _ _ hD
      refine ⟨ys, hD2, len_big (by omega), ?_⟩
      rw [hPv]
      refine ⟨ys ++ [v], same_ch (sm.trans sy) nD, upd_same, ?_⟩
      rw [fm_step, es]
      have kt : KT Hy (upd Hy D (HO.lst (ys ++ [v]))) := KT.lst hD2
      exact Paired.snoc (Paired.mapP pr fun v b h => up _ _ _ _ (up _ _ _ _ h (KT.same sy)) kt) (up _ _ _ _ r kt)
    · rw [hPv]
      refine ⟨ys, sm.trans sy, sy _ _ hD, ?_⟩
      rw [fm_step, es, List.append_nil]
      exact Paired.mapP pr fun v b h => up _ _ _ _ h (KT.same sy)
  · rw [hPv] at pv
    obtain ⟨ys, sm, hD, pr⟩ := pv
    exact q D ys H' sm nD hD pr
theorem fm_if {α : Type} (p : α → Bool) : ∀ l : List α, l.filterMap (fun x => if p x = true then some x else none) = l.filter p
  | [] => rfl
  | a :: l => by
    rw [List.filterMap_cons, fm_if p l]
    by_cases c : p a = true
    · rw [if_pos c, List.filter_cons_of_pos c]
    · rw [if_neg c, List.filter_cons_of_neg c]
theorem lc_filtL {K : PySem.W.Frag} {a : Addr} {xs : List Int} {i : Nat} {tt : TT} {p : Int → Bool} {σ : L2.St} {H1 : Hp} {Q : VK} (ha : H1 a = some (.lst (xs.map V.int))) (len : xs.length ≤ 100000) (hi : i < σ.length)
    (step : ∀ (x : Int) (Hx : Hp) (B : Bool → Hp → Prop), x ∈ xs → Same H1 Hx → B (p x) Hx → tt (σ.set i (some (.int x))) Hx B)
    (q : ∀ o H', Same H1 H' → H1 o = none → H' o = some (.lst ((xs.filter p).map V.int)) → Q (.ref o) H') :
    tLc (fun _ H R => R (Itl K a) H) (gName i) tt (tVar i) [i] σ H1 Q := by
  refine gc_list IsI (fun _ _ _ _ h _ => h) (fun j => xs[j]?.bind fun x => if p x = true then some x else none) ha (by rw [List.length_map]; exact len) (fun j x Hx A B gx sx hA hB => ?_) (fun o ys H' s no ho pr => ?_)
  · rw [List.getElem?_map] at gx
    cases e : xs[j]? with
    | none => rw [e] at gx; cases gx
    | some y =>
      rw [e] at gx hA hB
      have ex := Option.some.inj gx
      subst ex
      refine step y Hx _ (List.mem_of_getElem? e) sx ?_
      by_cases c : p y = true
      · rw [if_pos c]
        exact ⟨_, by rw [List.getElem?_set_self hi], hA _ y Hx (if_pos c) (Same.refl _) rfl⟩
      · rw [if_neg c]
        exact hB Hx (if_neg c) (Same.refl _)
  · refine q o H' s no ?_
    have e := isI_map pr
    rw [List.length_map, fm_range (L := xs) (fun x => if p x = true then some x else none), fm_if] at e
    rw [e] at ho
    exact ho
theorem lc_filtT {K : PySem.W.Frag} {a : Addr} {xs : List Int} {i : Nat} {tt : TT} {p : Int → Bool} {σ : L2.St} {H1 : Hp} {Q : VK} (ha : H1 a = some (.tup (xs.map V.int))) (len : xs.length ≤ 100000) (hi : i < σ.length)
    (step : ∀ (x : Int) (Hx : Hp) (B : Bool → Hp → Prop), x ∈ xs → Same H1 Hx → B (p x) Hx → tt (σ.set i (some (.int x))) Hx B)
    (q : ∀ o H', Same H1 H' → H1 o = none → H' o = some (.lst ((xs.filter p).map V.int)) → Q (.ref o) H') :
    tLc (fun _ H R => R (Itt K a) H) (gName i) tt (tVar i) [i] σ H1 Q := by
  refine gc_tup IsI (fun _ _ _ _ h _ => h) (fun j => xs[j]?.bind fun x => if p x = true then some x else none) ha (by rw [List.length_map]; exact len) (fun j x Hx A B gx sx hA hB => ?_) (fun o ys H' s no ho pr => ?_)
  · rw [List.getElem?_map] at gx
    cases e : xs[j]? with
    | none => rw [e] at gx; cases gx
    | some y =>
      rw [e] at gx hA hB
      have ex := Option.some.inj gx
      subst ex
      refine step y Hx _ (List.mem_of_getElem? e) sx ?_
      by_cases c : p y = true
      · rw [if_pos c]
        exact ⟨_, by rw [List.getElem?_set_self hi], hA _ y Hx (if_pos c) (Same.refl _) rfl⟩
      · rw [if_neg c]
        exact hB Hx (if_neg c) (Same.refl _)
  · refine q o H' s no ?_
    have e := isI_map pr
    rw [List.length_map, fm_range (L := xs) (fun x => if p x = true then some x else none), fm_if] at e
    rw [e] at ho
    exact ho

/-! ### sorted of a tuple of ints -/
def rSortTup (K : PySem.W.Frag) : List V → Hp → VK → Prop := fun vs H Q => ∃ (a : Addr) (ns : List Int), vs = [V.ref a] ∧ (SqL K H a (ns.map V.int) ∨ SqT K H a (ns.map V.int)) ∧ ns.length < 64 ∧
  ∀ (ns' : List Int) (p : Addr), ns'.Perm ns → ns'.Pairwise (· ≤ ·) → H p = none → Q (.ref p) (upd H p (.lst (ns'.map V.int)))
theorem cr_sortTup {X : Cx} : CallR X (.builtin "sorted") (rSortTup X.K) := by
  intro pins s σ H vs us Q I r h
  obtain ⟨a, ns, rfl, hs, h64, q⟩ := h
  rcases hs with hs | hs
  · exact cr_sorted pins s σ H _ us Q I r ⟨a, ns, rfl, hs, h64, q⟩
  obtain ⟨its, rv, ⟨o, ho, hc, n, hd⟩, hz⟩ := I.tuple hs
  rw [Vals.ref1 r]
  have hi := rv.ints
  have il : its.length = ns.length := hi.length
  refine Calls.call_function_entry kind_sorted plain_sorted entry_sorted (args_sorted1 _) ?_
  unfold Builtin.«sorted»
  refine wpAny_bind (m := checkCount "sorted" 1 1 _) (wpAny_pure ?_)
  refine wpAny_bind (wpAny_collect_seq a (.inr rfl) ho hc hd (fun h' hk => ?_) (by rw [List.size_toArray, il]; exact small64 h64))
  rw [show its.toArray.toList = its by simp]
  have I1 : Inv X pins σ H { s with heap := h' } := I.kept (t' := s.toks) hk
  refine wpAny_bind (wpAny_newList ?_ (by rw [il]; exact small64 h64))
  have new : (h'.push (seqObj "list" its.toArray 0)).get? h'.objs.size = some (seqObj "list" its.toArray 0) := Heap.get?_push_size _ rfl
  refine wpAny_bind (wpAny_holding (wpAny_call_entry slot_list_sort ⟨_, new, rfl⟩ entry_list_sort (list_sort_tree (s := { s with heap := h'.push (seqObj "list" its.toArray 0) }) new hi (by rw [il]; exact h64) fun out ns' a1 a2 a3 => ⟨_, rfl, ?_⟩) (args_list_sort _)))
  obtain ⟨ep, he⟩ := sortedHeap_at (vs := its) (out := out) new
  have hlen : (ns'.map V.int).length ≤ sizeLine := by rw [List.length_map, a2.length_eq]; exact small64 h64
  refine wpAny_pure ⟨_, rfl, .ref h'.objs.size, upd H h'.objs.size (.lst (ns'.map V.int)), I1.laid (t' := s.toks) (fun b u e => ?_) (Nat.le_refl _) ⟨hlen, out.toList, ep, vals_of_ints a1, he⟩, rfl, q ns' _ a2 a3 (I1.hok.fresh (Nat.le_refl _))⟩
  have lt := Heap.lt_size e
  show (sortedHeap (h'.push (seqObj "list" its.toArray 0)) h'.objs.size its out).get? b = some u
  rw [sortedHeap_old (Nat.ne_of_lt lt) (by rw [size_push']; exact Nat.lt_succ_of_lt lt)]
  exact Heap.get?_push_of_some _ e

/-! ### _law_pieces, where the text has no pieces -/
def IsR (H : Hp) (v : V) (ys : List Int) : Prop := ∃ t, v = .ref t ∧ H t = some (.tup (ys.map V.int))
def RL (H : Hp) (vs : List V) (L : List (List Int)) : Prop := Paired (IsR H) vs L
theorem IsR.same {H H' : Hp} {v : V} {d : List Int} (h : IsR H v d) (k : KT H H') : IsR H' v d := by
  obtain ⟨t, e, h⟩ := h
  exact ⟨t, e, k _ _ h⟩
theorem RL.kt {H H' : Hp} {vs : List V} {D : List (List Int)} (h : RL H vs D) (k : KT H H') : RL H' vs D := Paired.mapP h fun _ _ q => q.same k
theorem RL.len {H : Hp} {vs : List V} {D : List (List Int)} (h : RL H vs D) : vs.length = D.length := Paired.length h
theorem RL.nil0 (H : Hp) : RL H [] [] := Paired.nil
theorem RL.snoc {H : Hp} {vs : List V} {D : List (List Int)} {v : V} {d : List Int} (h : RL H vs D) (q : IsR H v d) : RL H (vs ++ [v]) (D ++ [d]) := Paired.snoc h q
section
variable {P : Program} {w : World} {K : PySem.W.Frag} {mg : Str → Option Value} {base : Heap}
theorem scLpc : FnScope ["doors", "rooms", "found", "done", "room", "piece"] ["doors", "rooms"] (defScope sLpc) := ⟨rfl, rfl, rfl, by decide +kernel, rfl, by decide +kernel, by decide +kernel⟩
def spLpc (K : PySem.W.Frag) : Sp := fun vs H Q _ => ∃ (l o : Addr) (us : List V) (D : List Pr) (R : List Int), vs = [.ref l, .ref o] ∧ H l = some (.lst us) ∧ PL H us D ∧ SeqI K H o R ∧ R.length < 64 ∧ (∀ x ∈ R, 0 ≤ x) ∧
  ∀ (L : List (List Int)) (ws : List V) (t : Addr) (H' : Hp), Pcs D R L → Same H H' → H t = none → H' t = some (.lst ws) → RL H' ws L → Q (.ref t) H'
theorem ok_lpc {f fR : Addr} {fd fdR : FuncData} (F : Fun K "_law_pieces" "_law_pieces" sLpc f fd) (T : Bi mg) (d__law_reach : Df P w K mg base "_law_reach" ["doors", "start", "inside"] 1 (spLre K) fR fdR) : FnOk P w K mg base CX0 2 f fd ["doors", "rooms"] (spLpc K) := by
  refine F.ok scLpc (fun vs H Q E h => ?_) (fun cdv A outer s0 H vs Q E hr h => ?_)
  · obtain ⟨l, o, us, D, R, rfl, _⟩ := h
    rfl
  · obtain ⟨l, o, us, D, R, rfl, hl, pl, ho, h64, hR, ret⟩ := h
    refine ⟨_, (pss_cons (ps_set (i := 2) scLpc.nd rfl (Or.inl rfl) (pe_lst pa_nil))
      (pss_cons (ps_set (i := 3) scLpc.nd rfl (Or.inl rfl) (pe_lst pa_nil))
      (pss_cons (ps_for PassesOwn.never rfl (pi_list (pe_callB cr_sortTup (by rfl) T.sorted (by decide +kernel) (pa_cons (pv 1) pa_nil))) (pg_name (i := 4) scLpc.nd rfl (Or.inl rfl))
      (pss_one (ps_if (pt_cmpR op_notIn_seq (pv 4) (pv 3) (by rfl))
        (pss_cons (ps_set (i := 5) scLpc.nd rfl (Or.inl rfl) (pe_call d__law_reach.ok (hr.mono (by decide)) (by rfl) d__law_reach.at_ d__law_reach.kp d__law_reach.b .nil pass0 (pa_cons (pv 0) (pa_cons (pv 4) (pa_cons (pv 1) pa_nil)))))
          (pss_cons (ps_expr (pe_bm PySem.F.plainAttrs_list PySem.F.slot_list_extend PySem.F.type_list_extend mt_extend (pv 3) (pa_cons (pv 5) pa_nil)))
          (pss_one (ps_expr (pe_bm PySem.F.plainAttrs_list PySem.F.slot_list_append PySem.F.type_list_append mt_append (pv 2) (pa_cons (pe_callTy call_tuple_of (by rfl) T.tuple (by decide +kernel) (pa_cons (pv 5) pa_nil)) pa_nil))))))
        pss_nil)))
      (pss_one (ps_ret (pv 2)))))), ?_⟩
    walk_at "rd"
    refine ⟨Nat.zero_le _, fun fnd nf => ⟨Nat.zero_le _, fun dn nd => ?_⟩⟩
    have s1 : Same H (upd (upd H fnd (HO.lst [])) dn (HO.lst [])) := (same_upd nf).trans (same_upd nd)
    have hf1 : upd (upd H fnd (HO.lst [])) dn (HO.lst []) fnd = some (.lst []) := same_upd nd _ _ upd_same
    have hd1 : upd (upd H fnd (HO.lst [])) dn (HO.lst []) dn = some (.lst []) := upd_same
    have nd0 : H dn = none := (same_upd nf).free nd
    have nfd : fnd ≠ dn := ne_of_none upd_same nd
    generalize upd (upd H fnd (HO.lst [])) dn (HO.lst []) = H1 at s1 hf1 hd1
    refine for_iterW ?_
    walk_at "rd"
    refine ⟨o, R, rfl, ho.same s1, h64, fun S lf0 pS sS nl0 => ?_⟩
    have s2 := s1.trans (same_upd (o := HO.lst (S.map V.int)) nl0)
    have hf2 : upd H1 lf0 (HO.lst (S.map V.int)) fnd = some (.lst []) := same_upd nl0 _ _ hf1
    have hd2 : upd H1 lf0 (HO.lst (S.map V.int)) dn = some (.lst []) := same_upd nl0 _ _ hd1
    have hS2 : upd H1 lf0 (HO.lst (S.map V.int)) lf0 = some (.lst (S.map V.int)) := upd_same
    have nlf : fnd ≠ lf0 := ne_of_none hf1 nl0
    have nld : dn ≠ lf0 := ne_of_none hd1 nl0
    generalize upd H1 lf0 (HO.lst (S.map V.int)) = H2 at s2 hf2 hd2 hS2
    have sl : S.length < 64 := by rw [pS.length_eq]; exact h64
    have smm : ∀ x, x ∈ S ↔ x ∈ R := fun x => pS.mem_iff
    obtain ⟨Pv, hPv⟩ : ∃ Pv : Nat → L2.St → Hp → Prop, Pv = (fun j σ H' => ∃ (L : List (List Int)) (ws : List V) (dd : List Int) (v4 v5 : Option V), σ = [some (.ref l), some (.ref o), some (.ref fnd), some (.ref dn), v4, v5] ∧ Same H H' ∧ H' fnd = some (.lst ws) ∧ RL H' ws L ∧ H' dn = some (.lst (dd.map V.int)) ∧ H' lf0 = some (.lst (S.map V.int)) ∧ LInv D R S j L dd ∧ L.length ≤ j ∧ dd.length ≤ 64 * j) := ⟨_, rfl⟩
    refine ⟨lf0, rfl, ⟨_, SqL.of hS2⟩, for_list (K := K) (a := lf0) (xs := S.map V.int) Pv (by rw [hPv]; exact ⟨[], [], [], none, none, rfl, s2, hf2, RL.nil0 _, hd2, hS2, LInv.start D R S, Nat.le_refl _, Nat.zero_le _⟩) (fun j σ H' _ pv => by rw [hPv] at pv; obtain ⟨_, _, _, _, _, _, _, _, _, _, hS, _⟩ := pv; exact SqL.of hS) (fun j v σ H3 gv pv => ?body) (fun σ H3 pv => ?done)⟩
    case done =>
      rw [hPv] at pv
      obtain ⟨L, ws, dd, v4, v5, rfl, sm, hf, rl, hd, hS, li, _, _⟩ := pv
      rw [List.length_map] at li
      walk_at "rd"
      exact ret L ws fnd H3 (li.fin smm) sm nf hf rl
    case body =>
      have nxt : ∀ (L : List (List Int)) (ws : List V) (dd : List Int) (v4 v5 : Option V) (H' : Hp), Same H H' → H' fnd = some (.lst ws) → RL H' ws L → H' dn = some (.lst (dd.map V.int)) → H' lf0 = some (.lst (S.map V.int)) → LInv D R S (j + 1) L dd → L.length ≤ j + 1 → dd.length ≤ 64 * (j + 1) → Pv (j + 1) [some (.ref l), some (.ref o), some (.ref fnd), some (.ref dn), v4, v5] H' := fun L ws dd v4 v5 H' h1 h2 h3 h4 h5 h6 h7 h8 => by
        rw [hPv]
        exact ⟨L, ws, dd, v4, v5, rfl, h1, h2, h3, h4, h5, h6, h7, h8⟩
      rw [hPv] at pv
      obtain ⟨L, ws, dd, v4, v5, rfl, sm, hf, rl, hd, hS, li, ll, dl⟩ := pv
      rw [List.getElem?_map] at gv
      cases gd : S[j]? with
      | none => rw [gd] at gv; cases gv
      | some x =>
        rw [gd] at gv
        have ev := Option.some.inj gv
        subst ev
        have hj : j < S.length := (List.getElem?_eq_some_iff.mp gd).1
        walk_at "rd"
        refine ⟨dn, _, rfl, .inl (SqL.of hd), rfl, flI _, ?_⟩
        rw [inI]
        refine ⟨_, rfl, ?_⟩
        by_cases m : x ∈ dd
        · rw [decide_eq_true m]
          refine iteF ?_
          exact nxt L ws dd _ _ H3 sm hf rl hd hS (li.skip gd m) (by omega) (by omega)
        · rw [decide_eq_false m]
          refine iteT ?_
          refine ⟨l, o, x, us, D, R, rfl, sm _ _ hl, pl.kt (KT.same sm), ho.same sm, h64, hR, fun ys t H4 pc s4 nt ht => ?_⟩
          walk_at "rd"
          have yl : ys.length ≤ R.length := int_sub_len (List.Pairwise.imp (fun h => by omega) pc.1) (fun y hy => ((pc.2 y).mp hy).mem) hR
          have hd4 := s4 _ _ hd
          have hf4 := s4 _ _ hf
          have hS4 := s4 _ _ hS
          have rl4 := rl.kt (KT.same s4)
          have s04 := sm.trans s4
          have tdn : t ≠ dn := (ne_of_none hd nt).symm
          have nd0' := nd0
          refine ⟨.inl ⟨rfl, _, SqL.of hd4⟩, _, hd4, _, ht, Nat.le_of_lt (len_big (by rw [List.length_map, List.length_map]; omega)), ?_⟩
          have s5 := same_ch (o := HO.lst (dd.map V.int ++ ys.map V.int)) s04 nd0
          have hf5 : upd H4 dn (HO.lst (dd.map V.int ++ ys.map V.int)) fnd = some (.lst ws) := by rw [upd_ne nfd]; exact hf4
          have ht5 : upd H4 dn (HO.lst (dd.map V.int ++ ys.map V.int)) t = some (.lst (ys.map V.int)) := by rw [upd_ne tdn]; exact ht
          have hS5 : upd H4 dn (HO.lst (dd.map V.int ++ ys.map V.int)) lf0 = some (.lst (S.map V.int)) := by rw [upd_ne nld.symm]; exact hS4
          have hd5 : upd H4 dn (HO.lst (dd.map V.int ++ ys.map V.int)) dn = some (.lst ((dd ++ ys).map V.int)) := by rw [upd_same, List.map_append]
          have rl5 : RL (upd H4 dn (HO.lst (dd.map V.int ++ ys.map V.int))) ws L := rl4.kt (KT.lst hd4)
          generalize upd H4 dn (HO.lst (dd.map V.int ++ ys.map V.int)) = H5 at s5 hf5 ht5 hS5 hd5 rl5
          refine ⟨.inl ⟨rfl, _, SqL.of hf5⟩, _, .inl ⟨SqL.of ht5, fun t2 nt2 => ?_⟩⟩
          have s6 := s5.trans (same_upd (o := HO.tup (ys.map V.int)) nt2)
          have hf6 : upd H5 t2 (HO.tup (ys.map V.int)) fnd = some (.lst ws) := same_upd nt2 _ _ hf5
          have ht6 : upd H5 t2 (HO.tup (ys.map V.int)) t2 = some (.tup (ys.map V.int)) := upd_same
          refine ⟨ws, hf6, len_big (by rw [rl.len]; omega), nxt (L ++ [ys]) (ws ++ [.ref t2]) (dd ++ ys) _ _ _ (same_ch s6 nf) upd_same ?_ ?_ ?_ (li.step gd smm sS m pc) (by rw [List.length_append]; show L.length + 1 ≤ j + 1; omega) (by rw [List.length_append]; omega)⟩
          · exact RL.snoc ((rl5.kt (KT.new nt2)).kt (KT.lst hf6)) ⟨t2, rfl, by rw [upd_ne (ne_of ht6 hf6 (by intro z; cases z))]; exact ht6⟩
          · rw [upd_ne nfd.symm]
            exact same_upd nt2 _ _ hd5
          · rw [upd_ne nlf.symm]
            exact same_upd nt2 _ _ hS5
end

/-! ### called_keepers -/
abbrev sCke : Stmt := topS 0
theorem optR_some {o : Option Cl} {c : Cl} (h : o = some c) : optR o = .int c.1 := by rw [h]; rfl
theorem optW_S (L : List Cl) (R : List Int) : optW (lastIn R L) = optS (wordP L R) := by
  unfold wordP
  cases lastIn R L <;> rfl
theorem decS (o o' : Option Str) : decide (optS o = optS o') = decide (o = o') := by
  rw [decide_eq_decide]
  exact ⟨optS_inj, fun h => by rw [h]⟩
theorem flat_nd {D : List Pr} {R : List Int} {Ps : List (List Int)} {g : List Int → List Int} (hs : Pcs D R Ps) (nd : ∀ Q, (g Q).Nodup) (inQ : ∀ Q, ∀ x ∈ g Q, x ∈ Q) : (Ps.flatMap g).Nodup := by
  refine List.pairwise_flatMap.mpr ⟨fun Q _ => nd Q, List.Pairwise.imp_of_mem (fun {a b} ma mb h x hx y hy e => ?_) hs.asc⟩
  subst e
  have := hs.apart ma mb (inQ a _ hx) (inQ b _ hy)
  rw [this] at h
  omega
theorem keepL_nd {D : List Pr} {L : List Cl} : ∀ (n : Nat) (P : List Int), (keepL D L n P).Nodup
  | 0, _ => List.nodup_nil
  | n + 1, P => by
    unfold keepL
    cases e : lastIn P L with
    | none => exact List.nodup_nil
    | some c =>
      have hs := pcsF_spec D (P.filter fun x => decide (x ≠ c.1))
      have inQ : ∀ Q : List Int, ∀ x ∈ (if wordP L Q = some c.2 then keepL D L n Q else []), x ∈ Q := fun Q x hx => by
        split at hx
        · exact keepL_sub n Q x hx
        · cases hx
      refine List.nodup_cons.mpr ⟨fun m => ?_, flat_nd hs (fun Q => ?_) inQ⟩
      · obtain ⟨Q, hQ, hx⟩ := List.mem_flatMap.mp m
        have := (List.mem_filter.mp (hs.sub_of hQ _ (inQ Q _ hx))).2
        exact of_decide_eq_true this rfl
      · split
        · exact keepL_nd n Q
        · exact List.Pairwise.nil
theorem keepL_len {D : List Pr} {L : List Cl} : ∀ (n : Nat) (P : List Int), (keepL D L n P).length ≤ P.length := fun n P => int_sub_len2 (keepL_nd n P) (keepL_sub n P)

/-! ### _law_tops -/
abbrev sLts : Stmt := topS 32
theorem upF_len (R : List Int) : (upF R).length ≤ R.length := int_sub_len2 (up_nd (upF_up R)) fun x hx => (upF_mem R x).mp hx
section
variable {P : Program} {w : World} {K : PySem.W.Frag} {mg : Str → Option Value} {base : Heap}
theorem scLts : FnScope ["doors", "log", "part", "word", "top", "tops", "piece", "r"] ["doors", "log", "part", "word"] (defScope sLts) := ⟨rfl, rfl, rfl, by decide +kernel, rfl, by decide +kernel, by decide +kernel⟩
noncomputable def topsF (D : List Pr) (L : List Cl) (n : Nat) (R : List Int) (z : Str) : List Int := if wordP L R = some z then upF (keepL D L n R) else []
def spLts (n : Nat) : Sp := fun vs H Q _ => ∃ (l g o : Addr) (us gs : List V) (D : List Pr) (L : List Cl) (R : List Int) (z : Str), vs = [.ref l, .ref g, .ref o, .str z] ∧ H l = some (.lst us) ∧ PL H us D ∧ H g = some (.lst gs) ∧ LG H gs L ∧ H o = some (.tup (R.map V.int)) ∧ R.length ≤ n ∧ n ≤ 12 ∧ (∀ x ∈ R, 0 ≤ x) ∧
  ∀ (t : Addr) (H' : Hp), Same H H' → H t = none → H' t = some (.lst ((topsF D L n R z).map V.int)) → Q (.ref t) H'
theorem ok_lts {f fP fT fW : Addr} {fd fdP fdT fdW : FuncData} (F : Fun K "_law_tops" "_law_tops" sLts f fd) (T : Bi mg) (bd : Binds K fd ["doors", "log", "part", "word"] []) (hmg : mg "_law_tops" = some (.ref f)) (d__law_pieces : Df P w K mg base "_law_pieces" ["doors", "rooms"] 2 (spLpc K) fP fdP) (d__law_top : Df P w K mg base "_law_top" ["log", "rooms"] 1 (spTopR K optR) fT fdT) (d__law_word_of : Df P w K mg base "_law_word_of" ["log", "rooms"] 1 (spTopR K optW) fW fdW) : ∀ n, FnOk P w K mg base CX0 (n + 3) f fd ["doors", "log", "part", "word"] (spLts n) := by
  intro n
  induction n with
  | zero =>
    refine F.ok scLts (fun vs H Q E h => ?_) (fun cdv A0 outer s H vs Q E hr h => ?_)
    · obtain ⟨l, g, o, us, gs, D, L, R, z, rfl, _⟩ := h
      rfl
    · obtain ⟨l, g, o, us, gs, D, L, R, z, rfl, hl, pl, hg, lg, ho, rn, n12, hR, ret⟩ := h
      refine ⟨_, (pss_cons (ps_set (i := 4) scLts.nd rfl (Or.inr rfl) (pe_call d__law_top.ok (hr.mono (by omega)) (by rfl) d__law_top.at_ d__law_top.kp d__law_top.b .nil pass0 (pa_cons (pv 1) (pa_cons (pv 2) pa_nil))))
      (pss_cons (ps_if (PW.pt (pw_or (pt_cmpR op_isN (pv 4) pe_non (nomark _)) (pw_or1 (pt_cmpR op_ne (pe_call d__law_word_of.ok (hr.mono (by omega)) (by rfl) d__law_word_of.at_ d__law_word_of.kp d__law_word_of.b .nil pass0 (pa_cons (pv 1) (pa_cons (pv 2) pa_nil))) (pv 3) (nomark _)))))
      (pss_one (ps_ret (pe_lst pa_nil)))
      pss_nil)
      (pss_cons (ps_set (i := 5) scLts.nd rfl (Or.inl rfl) (pe_lst (pa_cons (pv 4) pa_nil)))
      (pss_cons (ps_never)
      (pss_one (ps_ret (pe_callB cr_sorted (by rfl) T.sorted (by decide +kernel) (pa_cons (pv 5) pa_nil)))))))), ?_⟩
      have R0 := List.length_eq_zero_iff.mp (Nat.le_zero.mp rn)
      subst R0
      walk_at "rd"
      refine ⟨g, o, gs, L, [], rfl, hg, lg, .inr (SqT.of ho), ?_⟩
      rw [show lastIn [] L = none from lastIn_none.mpr fun c _ z => by cases z]
      dsimp only
      rw [if_pos (show optR none = V.non from rfl), if_pos trivial]
      refine ⟨by decide, fun t nt => ret t _ (same_upd nt) nt ?_⟩
      rw [upd_same]
      unfold topsF
      rw [if_neg (by rw [wordP_out fun c _ z => by cases z]; simp)]
      rfl
  | succ n ih =>
    refine F.ok scLts (fun vs H Q E h => ?_) (fun cdv A0 outer s H vs Q E hr h => ?_)
    · obtain ⟨l, g, o, us, gs, D, L, R, z, rfl, _⟩ := h
      rfl
    · obtain ⟨l, g, o, us, gs, D, L, R, z, rfl, hl, pl, hg, lg, ho, rn, n12, hR, ret⟩ := h
      refine ⟨_, (pss_cons (ps_set (i := 4) scLts.nd rfl (Or.inr rfl) (pe_call d__law_top.ok (hr.mono (by omega)) (by rfl) d__law_top.at_ d__law_top.kp d__law_top.b .nil pass0 (pa_cons (pv 1) (pa_cons (pv 2) pa_nil))))
      (pss_cons (ps_if (PW.pt (pw_or (pt_cmpR op_isN (pv 4) pe_non (nomark _)) (pw_or1 (pt_cmpR op_ne (pe_call d__law_word_of.ok (hr.mono (by omega)) (by rfl) d__law_word_of.at_ d__law_word_of.kp d__law_word_of.b .nil pass0 (pa_cons (pv 1) (pa_cons (pv 2) pa_nil))) (pv 3) (nomark _)))))
      (pss_one (ps_ret (pe_lst pa_nil)))
      pss_nil)
      (pss_cons (ps_set (i := 5) scLts.nd rfl (Or.inl rfl) (pe_lst (pa_cons (pv 4) pa_nil)))
      (pss_cons (ps_for PassesOwn.never rfl (pi_list (pe_call d__law_pieces.ok (hr.mono (by omega)) (by rfl) d__law_pieces.at_ d__law_pieces.kp d__law_pieces.b .nil pass0 (pa_cons (pv 0) (pa_cons (pe_lc (own := [("r", 7)]) (te := (tVar 7)) (tt := (tTest (tOp (rI0 fun i j => V.bl (!decide (i = j))) (tVar 7) (tVar 4)))) (by rfl) scLts.nd (pi_tup (pv 2)) (blkOk_by (N := ["doors", "log", "part", "word", "top", "tops", "piece", "r"]) (sc := defScope sLts) (by decide +kernel)) (fun _ _ _ _ _ => pg_name (i := 7) scLts.nd rfl (Or.inl rfl)) (fun _ _ _ _ _ => (pts_one (pt_cmpR op_neI (pv 7) (pv 4) (nomark _)))) (fun _ _ _ _ _ => (pv 7))) pa_nil)))) (pg_name (i := 6) scLts.nd rfl (Or.inl rfl))
      (pss_one (ps_expr (pe_bm PySem.F.plainAttrs_list PySem.F.slot_list_extend PySem.F.type_list_extend mt_extend (pv 5) (pa_cons (pe_call ih hr (by rfl) hmg F.kp bd .nil pass0 (pa_cons (pv 0) (pa_cons (pv 1) (pa_cons (pv 6) (pa_cons (pv 3) pa_nil))))) pa_nil)))))
      (pss_one (ps_ret (pe_callB cr_sorted (by rfl) T.sorted (by decide +kernel) (pa_cons (pv 5) pa_nil)))))))), ?_⟩
      walk_at "rd"
      refine ⟨g, o, gs, L, R, rfl, hg, lg, .inr (SqT.of ho), ?_⟩
      cases ec : lastIn R L with
      | none =>
        try dsimp only
        rw [if_pos (show optR none = V.non from rfl), if_pos trivial]
        refine ⟨by decide, fun t nt => ret t _ (same_upd nt) nt ?_⟩
        rw [upd_same]
        unfold topsF
        rw [if_neg (by unfold wordP; rw [ec]; simp)]
        rfl
      | some c =>
        try dsimp only
        rw [if_neg (show ¬ optR (some c) = V.non from fun z => by cases z)]
        refine ⟨g, o, gs, L, R, rfl, hg, lg, .inr (SqT.of ho), ?_⟩
        rw [optW_S]
        have scS : ∀ o' : Option Str, scal (optS o') (V.str z) = true := fun o' => by cases o' <;> rfl
        refine ⟨scS _, _, rfl, ?_⟩
        have eS : decide (optS (wordP L R) = V.str z) = decide (wordP L R = some z) := decS _ (some z)
        rw [eS]
        by_cases hz : wordP L R = some z
        rotate_left
        · rw [decide_eq_false hz]
          refine iteT ?_
          refine ⟨by decide, fun t nt => ret t _ (same_upd nt) nt ?_⟩
          rw [upd_same]
          unfold topsF
          rw [if_neg hz]
          rfl
        rw [decide_eq_true hz]
        refine iteF ?_
        have cz : c.2 = z := by
          unfold wordP at hz
          rw [ec] at hz
          exact Option.some.inj hz
        have cR := lastIn_in ec
        refine ⟨by decide, fun fn nfn => ?_⟩
        have s1 := same_upd (o := HO.lst [V.int c.1]) nfn
        have hfn := upd_same (H := H) (a := fn) (o := HO.lst [V.int c.1])
        refine (show tFor _ _ _ _ _ (upd H fn (HO.lst [V.int c.1])) from ?_)
        generalize upd H fn (HO.lst [V.int c.1]) = H1 at s1 hfn ⊢
        refine for_iterW ?_
        walk_at "rd"
        refine lcW ?_
        unfold iTup
        walk_at "rd"
        refine ⟨⟨_, SqT.of (s1 _ _ ho)⟩, lc_filtT (p := fun x => decide (x ≠ c.1)) (s1 _ _ ho) (by omega) (by simp) (fun x Hx B xm sx hB => ?_) fun oo H2 s2 noo hoo => ?_⟩
        · refine ⟨.int x, rfl, .int c.1, rfl, x, c.1, rfl, rfl, _, rfl, ?_⟩
          have e : (!decide (x = c.1)) = decide (x ≠ c.1) := by by_cases z : x = c.1 <;> simp [z]
          rw [e]
          exact hB
        have s12 := s1.trans s2
        have fl : (R.filter fun x => decide (x ≠ c.1)).length ≤ R.length := List.length_filter_le _ _
        refine ⟨l, oo, us, D, _, rfl, s12 _ _ hl, pl.kt (KT.same s12), .inl (SqL.of hoo), by omega, fun x hx => hR x (List.mem_filter.mp hx).1, fun Ps ws t H3 pcs s3 nt ht rl => ?_⟩
        have eP := pcsF_eq pcs
        have s13 := s12.trans s3
        obtain ⟨gF, hgF⟩ : ∃ gF : List Int → List Int, gF = fun Q => topsF D L n Q z := ⟨_, rfl⟩
        have gm : ∀ Q x, x ∈ gF Q ↔ x ∈ (if wordP L Q = some c.2 then keepL D L n Q else []) := fun Q x => by
          rw [hgF, cz]
          show x ∈ topsF D L n Q z ↔ _
          unfold topsF
          split
          · exact upF_mem _ _
          · exact Iff.rfl
        have gsub : ∀ Q x, x ∈ gF Q → x ∈ Q := fun Q x hx => by
          have := (gm Q x).mp hx
          split at this
          · exact keepL_sub n Q x this
          · cases this
        have gnd : ∀ Q, (gF Q).Nodup := fun Q => by
          rw [hgF]
          show (topsF D L n Q z).Nodup
          unfold topsF
          split
          · exact up_nd (upF_up _)
          · exact List.nodup_nil
        have glen : ∀ Q, (gF Q).length ≤ Q.length := fun Q => int_sub_len2 (gnd Q) (gsub Q)
        have Pl : Ps.length ≤ 12 := Nat.le_trans pcs.len (by omega)
        have eK : ∀ x, x ∈ c.1 :: Ps.flatMap gF ↔ x ∈ keepL D L (n + 1) R := fun x => by
          have e : keepL D L (n + 1) R = c.1 :: Ps.flatMap fun Q => if wordP L Q = some c.2 then keepL D L n Q else [] := by
            rw [← eP]
            show (match lastIn R L with | none => [] | some c => _) = _
            rw [ec]
          rw [e, List.mem_cons, List.mem_cons, List.mem_flatMap, List.mem_flatMap]
          refine or_congr Iff.rfl ⟨fun ⟨Q, a, b⟩ => ⟨Q, a, (gm Q x).mp b⟩, fun ⟨Q, a, b⟩ => ⟨Q, a, (gm Q x).mpr b⟩⟩
        have ndK : (c.1 :: Ps.flatMap gF).Nodup := by
          refine List.nodup_cons.mpr ⟨fun m => ?_, flat_nd pcs gnd gsub⟩
          obtain ⟨Q, hQ, hx⟩ := List.mem_flatMap.mp m
          exact of_decide_eq_true (List.mem_filter.mp (pcs.sub_of hQ _ (gsub Q _ hx))).2 rfl
        have Klen : (c.1 :: Ps.flatMap gF).length ≤ 12 := Nat.le_trans (int_sub_len2 ndK fun x hx => keepL_sub (n + 1) R x ((eK x).mp hx)) (by omega)
        have inG : ∀ i, ((Ps.take i).flatMap gF).length ≤ 12 := fun i => by
          rw [List.length_cons] at Klen
          have h2 : ((Ps.take i).flatMap gF).length ≤ (Ps.flatMap gF).length := by
            conv => rhs; rw [← List.take_append_drop i Ps]
            rw [List.flatMap_append, List.length_append]
            omega
          omega
        obtain ⟨Pv, hPv⟩ : ∃ Pv : Nat → L2.St → Hp → Prop, Pv = (fun i σ Hx => ∃ v6 : Option V, σ = [some (.ref l), some (.ref g), some (.ref o), some (.str z), some (.int c.1), some (.ref fn), v6, none] ∧ Same H Hx ∧ Hx fn = some (.lst ((c.1 :: (Ps.take i).flatMap gF).map V.int)) ∧ Hx t = some (.lst ws) ∧ RL Hx ws Ps) := ⟨_, rfl⟩
        have hfn3 := s3 _ _ (s2 _ _ hfn)
        have ntf : t ≠ fn := (ne_of_none (s2 _ _ hfn) nt).symm
        refine ⟨t, rfl, ⟨_, SqL.of ht⟩, for_list (K := K) (a := t) (xs := ws) Pv (by rw [hPv]; exact ⟨none, rfl, s13, hfn3, ht, rl⟩) (fun i σ Hx _ pv => by rw [hPv] at pv; obtain ⟨_, _, _, _, h, _⟩ := pv; exact SqL.of h) (fun i v σ Hx gv pv => ?_) (fun σ Hx pv => ?_)⟩
        rotate_left
        · rw [hPv] at pv
          obtain ⟨v6, rfl, sx, hf, _, _⟩ := pv
          rw [rl.len, List.take_length] at hf
          walk_at "rd"
          refine ⟨_, _, rfl, SqL.of hf, by omega, fun ys t5 pm so nt5 => ?_⟩
          have ey : ys = topsF D L (n + 1) R z := by
            unfold topsF
            rw [if_pos hz]
            exact (upF_eq (up_of pm ndK so) fun x => pm.mem_iff.trans (eK x)).symm
          exact ret t5 _ (sx.trans (same_upd nt5)) (sx.free nt5) (by rw [upd_same, ey])
        rw [hPv] at pv
        obtain ⟨v6, rfl, sx, hf, htx, rlx⟩ := pv
        obtain ⟨Q0, gQ, tq, rfl, htq⟩ := lget rlx gv
        have QP : Q0 ∈ Ps := List.mem_of_getElem? gQ
        have tk : Ps.take (i + 1) = Ps.take i ++ [Q0] := by rw [List.take_add_one, gQ]; rfl
        have Qsub : ∀ x ∈ Q0, x ∈ R ∧ x ≠ c.1 := fun x hx => by
          have := List.mem_filter.mp (pcs.sub_of QP x hx)
          exact ⟨this.1, of_decide_eq_true this.2⟩
        have Qup := (pcs.part QP).1
        have Qlen : Q0.length ≤ n := by
          have h1 := int_sub_len2 (up_nd Qup) (pcs.sub_of QP)
          have h2 : (R.filter fun x => decide (x ≠ c.1)).length < R.length := filter_lt cR (by simp)
          omega
        walk_at "rd"
        refine ⟨.inl ⟨rfl, _, SqL.of hf⟩, l, g, tq, us, gs, D, L, Q0, z, rfl, sx _ _ hl, pl.kt (KT.same sx), sx _ _ hg, lg.kt (KT.same sx), htq, Qlen, by omega, fun x hx => hR x (Qsub x hx).1, fun ta Hy sy nta hta => ?_⟩
        have hf2 := sy _ _ hf
        have eG : gF Q0 = topsF D L n Q0 z := by rw [hgF]
        have kl := glen Q0
        rw [eG] at kl
        walk_at "rd"
        refine ⟨_, hf2, _, hta, Nat.le_of_lt (len_big (by rw [List.length_map, List.length_map, List.length_cons]; have := inG i; omega)), ?_⟩
        rw [hPv]
        have kt : KT Hy (upd Hy fn (HO.lst ((c.1 :: (Ps.take i).flatMap gF).map V.int ++ (topsF D L n Q0 z).map V.int))) := KT.lst hf2
        refine ⟨_, rfl, same_ch (sx.trans sy) nfn, ?_, by rw [upd_ne ntf]; exact sy _ _ htx, (rlx.kt (KT.same sy)).kt kt⟩
        rw [upd_same, tk, List.flatMap_append, List.flatMap_cons, List.flatMap_nil, List.append_nil, eG, ← List.map_append]
        rfl
end

/-! ### _law_form -/
abbrev sLf : Stmt := topS 33
theorem paired_snoc {α β : Type} {F : α → β → Prop} {a : List α} {b : List β} {x : α} {y : β} (h : Paired F a b) (r : F x y) : Paired F (a ++ [x]) (b ++ [y]) := paired_append h (.cons r .nil)
theorem blkV_kt {H H' : Hp} {n : Nat} {v : V} {b : Blk} (k : KT H H') (h : BlkV H (BlksAt H n) v b) : BlkV H' (BlksAt H' n) v b := by
  obtain ⟨a, t, i, ys, e, h1, h2, h3, h4, h5⟩ := h.ex
  exact ⟨a, t, i, ys, e, k _ _ h1, k _ _ h2, h3, k _ _ h4, h5.kt k⟩
/-- the list of blocks while it grows -/
def BL (H : Hp) (n : Nat) (us : List V) (bs : List Blk) : Prop := Paired (BlkV H (BlksAt H n)) us bs
theorem BL.kt {H H' : Hp} {n : Nat} {us : List V} {bs : List Blk} (h : BL H n us bs) (k : KT H H') : BL H' n us bs := Paired.mapP h fun _ _ q => blkV_kt k q
section
variable {P : Program} {w : World} {K : PySem.W.Frag} {mg : Str → Option Value} {base : Heap}
theorem scLf : FnScope ["doors", "log", "rooms", "blocks_v", "part", "word", "tops", "rest", "r"] ["doors", "log", "rooms"] (defScope sLf) := ⟨rfl, rfl, rfl, by decide +kernel, rfl, by decide +kernel, by decide +kernel⟩
def spLf (n : Nat) : Sp := fun vs H Q _ => ∃ (l g o : Addr) (us gs : List V) (D : List Pr) (L : List Cl) (R : List Int), vs = [.ref l, .ref g, .ref o] ∧ H l = some (.lst us) ∧ PL H us D ∧ H g = some (.lst gs) ∧ LG H gs L ∧ H o = some (.lst (R.map V.int)) ∧ R.length ≤ n ∧ n ≤ 12 ∧ (∀ x ∈ R, 0 ≤ x) ∧
  ∀ (v : V) (H' : Hp), Same H H' → FormAt H' n v (blkF D L n R) → Q v H'
theorem ok_lf {f fP fT fW : Addr} {fd fdP fdT fdW : FuncData} (F : Fun K "_law_form" "_law_form" sLf f fd) (T : Bi mg) (bd : Binds K fd ["doors", "log", "rooms"] []) (hmg : mg "_law_form" = some (.ref f)) (d__law_pieces : Df P w K mg base "_law_pieces" ["doors", "rooms"] 2 (spLpc K) fP fdP) (d__law_tops : Df P w K mg base "_law_tops" ["doors", "log", "part", "word"] 15 (spLts 12) fT fdT) (d__law_word_of : Df P w K mg base "_law_word_of" ["log", "rooms"] 1 (spTopR K optW) fW fdW) : ∀ n, FnOk P w K mg base CX0 (n + 17) f fd ["doors", "log", "rooms"] (spLf n) := by
  intro n
  induction n with
  | zero =>
    refine F.ok scLf (fun vs H Q E h => ?_) (fun cdv A0 outer s H vs Q E hr h => ?_)
    · obtain ⟨l, g, o, us, gs, D, L, R, rfl, _⟩ := h
      rfl
    · obtain ⟨l, g, o, us, gs, D, L, R, rfl, hl, pl, hg, lg, ho, rn, n12, hR, ret⟩ := h
      refine ⟨_, (pss_cons (ps_set (i := 3) scLf.nd rfl (Or.inl rfl) (pe_lst pa_nil))
      (pss_cons (ps_for PassesOwn.never rfl (pi_list (pe_call d__law_pieces.ok (hr.mono (by omega)) (by rfl) d__law_pieces.at_ d__law_pieces.kp d__law_pieces.b .nil pass0 (pa_cons (pv 0) (pa_cons (pv 2) pa_nil)))) (pg_name (i := 4) scLf.nd rfl (Or.inl rfl))
      (pss_cons (ps_never)
        (pss_cons (ps_set (i := 6) scLf.nd rfl (Or.inr rfl) (pe_callTy call_list_of (by rfl) T.list (by decide +kernel) (pa_cons (pv 4) pa_nil)))
        (pss_cons (ps_if (pt_cmpR op_notN (pv 5) pe_non (nomark _))
        (pss_one (ps_set (i := 6) scLf.nd rfl (Or.inr rfl) (pe_call d__law_tops.ok (hr.mono (by omega)) (by rfl) d__law_tops.at_ d__law_tops.kp d__law_tops.b .nil pass0 (pa_cons (pv 0) (pa_cons (pv 1) (pa_cons (pv 4) (pa_cons (pv 5) pa_nil)))))))
        pss_nil)
        (pss_cons (ps_setLc (i := 7) (own := [("r", 8)]) (te := (tVar 8)) (tt := (tTest (tOp (rIn K true) (tVar 8) (tVar 6)))) (by rfl) scLf.nd rfl rfl (sw_true rfl rfl rfl (by decide +kernel)) (pi_tup (pv 4)) (blkOk_by (N := ["doors", "log", "rooms", "blocks_v", "part", "word", "tops", "rest", "r"]) (sc := defScope sLf) (by decide +kernel)) (fun _ _ _ _ _ => pg_name (i := 8) scLf.nd rfl (Or.inl rfl)) (fun _ _ _ _ _ => (pts_one (pt_cmpR op_notIn_seq (pv 8) (pv 6) (by rfl)))) (fun _ _ _ _ _ => (pv 8)))
        (pss_one (ps_never)))))))
      (pss_one (ps_ret (pe_callTy call_tuple_of (by rfl) T.tuple (by decide +kernel) (pa_cons (pv 3) pa_nil)))))), ?_⟩
      have R0 := List.length_eq_zero_iff.mp (Nat.le_zero.mp rn)
      subst R0
      walk_at "rd"
      refine ⟨Nat.zero_le _, fun fn nfn => ?_⟩
      have s1 := same_upd (o := HO.lst []) nfn
      have hfn := upd_same (H := H) (a := fn) (o := HO.lst [])
      generalize upd H fn (HO.lst []) = H1 at s1 hfn ⊢
      refine for_iterW ?_
      walk_at "rd"
      refine ⟨l, o, us, D, [], rfl, s1 _ _ hl, pl.kt (KT.same s1), .inl (SqL.of (s1 _ _ ho)), by decide, (fun x hx => by cases hx), fun Ps ws t H2 pcs s2 nt ht rl => ?_⟩
      have eP : Ps = [] := by rw [← pcsF_eq pcs, pcsF_nil]
      subst eP
      have ew : ws = [] := List.length_eq_zero_iff.mp rl.len
      subst ew
      refine ⟨t, rfl, ⟨_, SqL.of ht⟩, for_list (K := K) (a := t) (xs := []) (fun _ σ Hx => σ = [some (.ref l), some (.ref g), some (.ref o), some (.ref fn), none, none, none, none, none] ∧ Hx = H2) ⟨rfl, rfl⟩ (fun i σ Hx _ pv => by rw [pv.2]; exact SqL.of ht) (fun i v σ Hx gv pv => by cases gv) (fun σ Hx pv => ?_)⟩
      obtain ⟨rfl, rfl⟩ := pv
      walk_at "rd"
      refine ⟨_, .inl ⟨SqL.of (s2 _ _ hfn), fun t2 nt2 => ?_⟩⟩
      exact ret _ _ ((s1.trans s2).trans (same_upd nt2)) ⟨t2, [], rfl, upd_same, rfl, rfl⟩
  | succ n ih =>
    refine F.ok scLf (fun vs H Q E h => ?_) (fun cdv A0 outer s H vs Q E hr h => ?_)
    · obtain ⟨l, g, o, us, gs, D, L, R, rfl, _⟩ := h
      rfl
    · obtain ⟨l, g, o, us, gs, D, L, R, rfl, hl, pl, hg, lg, ho, rn, n12, hR, ret⟩ := h
      refine ⟨_, (pss_cons (ps_set (i := 3) scLf.nd rfl (Or.inl rfl) (pe_lst pa_nil))
      (pss_cons (ps_for PassesOwn.never rfl (pi_list (pe_call d__law_pieces.ok (hr.mono (by omega)) (by rfl) d__law_pieces.at_ d__law_pieces.kp d__law_pieces.b .nil pass0 (pa_cons (pv 0) (pa_cons (pv 2) pa_nil)))) (pg_name (i := 4) scLf.nd rfl (Or.inl rfl))
      (pss_cons (ps_set (i := 5) scLf.nd rfl (Or.inl rfl) (pe_call d__law_word_of.ok (hr.mono (by omega)) (by rfl) d__law_word_of.at_ d__law_word_of.kp d__law_word_of.b .nil pass0 (pa_cons (pv 1) (pa_cons (pv 4) pa_nil))))
        (pss_cons (ps_set (i := 6) scLf.nd rfl (Or.inr rfl) (pe_callTy call_list_of (by rfl) T.list (by decide +kernel) (pa_cons (pv 4) pa_nil)))
        (pss_cons (ps_if (pt_cmpR op_notN (pv 5) pe_non (nomark _))
        (pss_one (ps_set (i := 6) scLf.nd rfl (Or.inr rfl) (pe_call d__law_tops.ok (hr.mono (by omega)) (by rfl) d__law_tops.at_ d__law_tops.kp d__law_tops.b .nil pass0 (pa_cons (pv 0) (pa_cons (pv 1) (pa_cons (pv 4) (pa_cons (pv 5) pa_nil)))))))
        pss_nil)
        (pss_cons (ps_setLc (i := 7) (own := [("r", 8)]) (te := (tVar 8)) (tt := (tTest (tOp (rIn K true) (tVar 8) (tVar 6)))) (by rfl) scLf.nd rfl rfl (sw_true rfl rfl rfl (by decide +kernel)) (pi_tup (pv 4)) (blkOk_by (N := ["doors", "log", "rooms", "blocks_v", "part", "word", "tops", "rest", "r"]) (sc := defScope sLf) (by decide +kernel)) (fun _ _ _ _ _ => pg_name (i := 8) scLf.nd rfl (Or.inl rfl)) (fun _ _ _ _ _ => (pts_one (pt_cmpR op_notIn_seq (pv 8) (pv 6) (by rfl)))) (fun _ _ _ _ _ => (pv 8)))
        (pss_one (ps_expr (pe_bm PySem.F.plainAttrs_list PySem.F.slot_list_append PySem.F.type_list_append mt_append (pv 3) (pa_cons (pe_tup (pa_cons (pv 5) (pa_cons (pe_callTy call_tuple_of (by rfl) T.tuple (by decide +kernel) (pa_cons (pv 6) pa_nil)) (pa_cons (pe_call ih hr (by rfl) hmg F.kp bd .nil pass0 (pa_cons (pv 0) (pa_cons (pv 1) (pa_cons (pv 7) pa_nil)))) pa_nil)))) pa_nil)))))))))
      (pss_one (ps_ret (pe_callTy call_tuple_of (by rfl) T.tuple (by decide +kernel) (pa_cons (pv 3) pa_nil)))))), ?_⟩
      walk_at "rd"
      refine ⟨Nat.zero_le _, fun fn nfn => ?_⟩
      have s1 := same_upd (o := HO.lst []) nfn
      have hfn := upd_same (H := H) (a := fn) (o := HO.lst [])
      generalize upd H fn (HO.lst []) = H1 at s1 hfn ⊢
      refine for_iterW ?_
      walk_at "rd"
      refine ⟨l, o, us, D, R, rfl, s1 _ _ hl, pl.kt (KT.same s1), .inl (SqL.of (s1 _ _ ho)), by omega, hR, fun Ps ws t H2 pcs s2 nt ht rl => ?_⟩
      have s12 := s1.trans s2
      have eP := pcsF_eq pcs
      have Pl : Ps.length ≤ 12 := Nat.le_trans pcs.len (by omega)
      have ntf : t ≠ fn := (ne_of_none hfn nt).symm
      obtain ⟨Pv, hPv⟩ : ∃ Pv : Nat → L2.St → Hp → Prop, Pv = (fun i σ Hx => ∃ (bs : List V) (v4 v5 v6 v7 : Option V), σ = [some (.ref l), some (.ref g), some (.ref o), some (.ref fn), v4, v5, v6, v7, none] ∧ Same H Hx ∧ Hx fn = some (.lst bs) ∧ BL Hx n bs ((Ps.take i).map (blkP D L n)) ∧ Hx t = some (.lst ws) ∧ RL Hx ws Ps) := ⟨_, rfl⟩
      refine ⟨t, rfl, ⟨_, SqL.of ht⟩, for_list (K := K) (a := t) (xs := ws) Pv (by rw [hPv]; exact ⟨[], none, none, none, none, rfl, s12, s2 _ _ hfn, .nil, ht, rl⟩) (fun i σ Hx _ pv => by rw [hPv] at pv; obtain ⟨_, _, _, _, _, _, _, _, _, h, _⟩ := pv; exact SqL.of h) (fun i v σ Hx gv pv => ?_) (fun σ Hx pv => ?_)⟩
      rotate_left
      · rw [hPv] at pv
        obtain ⟨bs, v4, v5, v6, v7, rfl, sx, hf, bl, _, _⟩ := pv
        rw [rl.len, List.take_length] at bl
        have bll : bs.length ≤ 12 := by
          rw [Paired.length bl, List.length_map]
          exact Pl
        walk_at "rd"
        refine ⟨_, .inl ⟨SqL.of hf, fun t2 nt2 => ?_⟩⟩
        refine ret _ _ (sx.trans (same_upd nt2)) ⟨t2, bs, rfl, upd_same, by omega, ?_⟩
        rw [blkF_succ, eP]
        exact BL.kt bl (KT.new nt2)
      rw [hPv] at pv
      obtain ⟨bs, v4, v5, v6, v7, rfl, sx, hf, bl, htx, rlx⟩ := pv
      obtain ⟨Q0, gQ, tq, rfl, htq⟩ := lget rlx gv
      have QP : Q0 ∈ Ps := List.mem_of_getElem? gQ
      have tk : Ps.take (i + 1) = Ps.take i ++ [Q0] := by rw [List.take_add_one, gQ]; rfl
      have Qsub := pcs.sub_of QP
      have Qup := (pcs.part QP).1
      have Qlen : Q0.length ≤ n + 1 := Nat.le_trans (int_sub_len2 (up_nd Qup) Qsub) rn
      have bll : bs.length ≤ 12 := by
        rw [Paired.length bl, List.length_map, List.length_take]
        omega
      walk_at "rg"
      refine sq3 fun N hN => ?_
      walk_at "rd"
      refine ⟨g, tq, gs, L, Q0, rfl, sx _ _ hg, lg.kt (KT.same sx), .inr (SqT.of htq), ?_⟩
      rw [optW_S]
      refine ⟨_, .inr (SqT.of htq), fun tp ntp => ?_⟩
      have sp := same_upd (o := HO.lst (Q0.map V.int)) ntp
      have htp := upd_same (H := Hx) (a := tp) (o := HO.lst (Q0.map V.int))
      generalize upd Hx tp (HO.lst (Q0.map V.int)) = H3 at sp htp ⊢
      have hf3 := sp _ _ hf
      have bl3 := bl.kt (KT.same sp)
      have htx3 := sp _ _ htx
      have rl3 := rlx.kt (KT.same sp)
      have htq3 := sp _ _ htq
      have s3 := sx.trans sp
      clear sp hf bl htx rlx htq
      have tail : ∀ (T : List Int) (tt : Addr) (H4 : Hp), Same H3 H4 → H4 tt = some (.lst (T.map V.int)) → T.length ≤ 12 → blkP D L n Q0 = .mk (wordP L Q0) T (blkF D L n (Q0.filter fun x => decide (x ∉ T))) → (Q0.filter fun x => decide (x ∉ T)).length ≤ n →
          N [some (.ref l), some (.ref g), some (.ref o), some (.ref fn), some (.ref tq), some (optS (wordP L Q0)), some (.ref tt), v7, none] H4 := fun T tt H4 s4 htt tl eB rl' => by
        refine hN _ _ ?_
        clear hN
        walk_at "rd"
        refine lcW ?_
        unfold iTup
        walk_at "rd"
        have s04 := s3.trans s4
        refine ⟨⟨_, SqT.of (s4 _ _ htq3)⟩, lc_filtT (p := fun x => decide (x ∉ T)) (s4 _ _ htq3) (by omega) (by simp) (fun x Hy B xm sy hB => ?_) fun oo H5 s5 noo hoo => ?_⟩
        · refine ⟨.int x, rfl, .ref tt, rfl, tt, T.map V.int, rfl, .inl (SqL.of (sy _ _ htt)), rfl, flI _, ?_⟩
          rw [inI, if_pos rfl]
          have e : (!decide (x ∈ T)) = decide (x ∉ T) := by by_cases z : x ∈ T <;> simp [z]
          rw [e]
          exact ⟨_, rfl, hB⟩
        have s05 := s04.trans s5
        have hf5 := s5 _ _ (s4 _ _ hf3)
        refine ⟨.inl ⟨rfl, _, SqL.of hf5⟩, _, .inl ⟨SqL.of (s5 _ _ htt), fun t2 nt2 => ?_⟩⟩
        have s6 := same_upd (o := HO.tup (T.map V.int)) nt2
        have ht2 := upd_same (H := H5) (a := t2) (o := HO.tup (T.map V.int))
        generalize upd H5 t2 (HO.tup (T.map V.int)) = H6 at s6 ht2 ⊢
        have s06 := s05.trans s6
        refine ⟨l, g, oo, us, gs, D, L, _, rfl, s06 _ _ hl, pl.kt (KT.same s06), s06 _ _ hg, lg.kt (KT.same s06), s6 _ _ hoo, rl', by omega, fun x hx => hR x (Qsub x (List.mem_filter.mp hx).1), fun vi H7 s7 fm => ?_⟩
        refine ⟨by decide, fun t3 nt3 => ?_⟩
        have s8 := same_upd (o := HO.tup [optS (wordP L Q0), .ref t2, vi]) nt3
        have ht3 := upd_same (H := H7) (a := t3) (o := HO.tup [optS (wordP L Q0), .ref t2, vi])
        generalize upd H7 t3 (HO.tup [optS (wordP L Q0), .ref t2, vi]) = H8 at s8 ht3 ⊢
        have s38 := s4.trans (s5.trans (s6.trans (s7.trans s8)))
        have hf8 := s38 _ _ hf3
        refine ⟨bs, hf8, len_big (by omega), ?_⟩
        have kt : KT H8 (upd H8 fn (HO.lst (bs ++ [.ref t3]))) := KT.lst hf8
        obtain ⟨ai, xi, rfl, hai, hbi⟩ := fm.kt (KT.same s8)
        rw [hPv]
        refine ⟨bs ++ [.ref t3], _, _, _, _, rfl, same_ch (s3.trans s38) nfn, upd_same, ?_, by rw [upd_ne ntf]; exact s38 _ _ htx3, (rl3.kt (KT.same s38)).kt kt⟩
        rw [tk, List.map_append]
        refine paired_snoc ((bl3.kt (KT.same s38)).kt kt) ⟨t3, t2, ai, xi, rfl, ?_, ?_, ?_, kt _ _ hai, ?_⟩
        · rw [eB]
          exact kt _ _ ht3
        · rw [eB]
          exact kt _ _ (s8 _ _ (s7 _ _ ht2))
        · rw [eB]
          show T.length ≤ 1000
          omega
        · rw [eB]
          exact hbi.kt kt
      have Q12 : Q0.length ≤ 12 := by omega
      cases hw : wordP L Q0 with
      | none =>
        rw [hw] at tail
        refine iteF ?_
        have e0 : (Q0.filter fun x => decide (x ∉ Q0)) = [] := List.filter_eq_nil_iff.mpr fun x hx => by simpa using hx
        refine tail Q0 tp H3 (Same.refl _) htp Q12 ?_ (by rw [e0]; exact Nat.zero_le _)
        unfold blkP
        rw [hw, e0]
        show Blk.mk none Q0 [] = Blk.mk none Q0 (blkF D L n [])
        cases n with
        | zero => rfl
        | succ n =>
          rw [blkF_succ, pcsF_nil]
          rfl
      | some z =>
        rw [hw] at tail
        refine iteT ?_
        refine ⟨l, g, tq, us, gs, D, L, Q0, z, rfl, s3 _ _ hl, pl.kt (KT.same s3), s3 _ _ hg, lg.kt (KT.same s3), htq3, Q12, by decide, fun x hx => hR x (Qsub x hx), fun tt H4 s4 ntt htt => ?_⟩
        have eT : topsF D L 12 Q0 z = upF (keepL D L 12 Q0) := by
          unfold topsF
          rw [if_pos hw]
        rw [eT] at htt
        have ef : (Q0.filter fun x => decide (x ∉ upF (keepL D L 12 Q0))) = Q0.filter fun x => decide (x ∉ keepL D L 12 Q0) := List.filter_congr fun x _ => by
          rw [decide_eq_decide]
          exact not_congr (upF_mem _ x)
        refine tail _ tt H4 s4 htt (Nat.le_trans (upF_len _) (Nat.le_trans (keepL_len 12 Q0) Q12)) ?_ ?_
        · unfold blkP
          rw [hw, ef]
        · rw [ef]
          obtain ⟨x, xP, xk⟩ := keepL_ne (D := D) (n := 11) hw
          have lt : (Q0.filter fun x => decide (x ∉ keepL D L 12 Q0)).length < Q0.length := filter_lt xP (by simpa using xk)
          omega
end

/-! ### common to the laws with forms -/
theorem sum_flat {α β γ : Type} {f : α → List β} {g : α → List γ} : ∀ l : List α, (∀ a ∈ l, (f a).length ≤ (g a).length) → (l.flatMap f).length ≤ (l.flatMap g).length
  | [], _ => Nat.le_refl _
  | a :: l, h => by
    rw [List.flatMap_cons, List.flatMap_cons, List.length_append, List.length_append]
    exact Nat.add_le_add (h a List.mem_cons_self) (sum_flat l fun b hb => h b (List.mem_cons_of_mem _ hb))
theorem keep_split (P K : List Int) (nd : P.Nodup) (sub : ∀ x ∈ K, x ∈ P) : (P.filter fun x => decide (x ∉ K)).length + (upF K).length ≤ P.length := by
  have h1 : (upF K).length ≤ (P.filter fun x => decide (x ∈ K)).length := int_sub_len2 (up_nd (upF_up K)) fun x hx => List.mem_filter.mpr ⟨sub x ((upF_mem K x).mp hx), decide_eq_true ((upF_mem K x).mp hx)⟩
  have h2 : ∀ l : List Int, (l.filter fun x => decide (x ∉ K)).length + (l.filter fun x => decide (x ∈ K)).length = l.length := fun l => by
    induction l with
    | nil => rfl
    | cons a l ih =>
      by_cases c : a ∈ K
      · rw [List.filter_cons_of_neg (by simpa using c), List.filter_cons_of_pos (by simpa using c), List.length_cons, List.length_cons]
        omega
      · rw [List.filter_cons_of_pos (by simpa using c), List.filter_cons_of_neg (by simpa using c), List.length_cons, List.length_cons]
        omega
  have := h2 P
  omega
theorem Sm.up1 {H : Hp} : ∀ {n : Nat} {x y : V}, Sm H n x y → Sm H (n + 1) x y
  | 0, x, y, h => .inl h
  | n + 1, x, y, h => by
    rcases h with h | ⟨a, b, xs, ys, e1, e2, h1, h2, h3⟩
    · exact .inl h
    · exact .inr ⟨a, b, xs, ys, e1, e2, h1, Paired.mapP h2 fun _ _ q => Sm.up1 q, h3⟩
theorem sm_up {H : Hp} {m : Nat} {x y : V} (h : Sm H m x y) : ∀ {n : Nat}, m ≤ n → Sm H n x y
  | 0, l => by rw [Nat.le_zero.mp l] at h; exact h
  | n + 1, l => by
    by_cases e : m = n + 1
    · rw [← e]
      exact h
    · exact Sm.up1 (sm_up h (Nat.lt_succ_iff.mp (Nat.lt_of_le_of_ne l e)))
theorem rg_bd {r : Nat} : ∀ x ∈ rg r, 0 ≤ x ∧ x < (r : Int) := fun y hy => by
  unfold rg at hy
  obtain ⟨k, hk, rfl⟩ := List.mem_map.mp hy
  have h9 := List.mem_range.mp hk
  exact ⟨Int.natCast_nonneg k, Int.ofNat_lt.mpr h9⟩

/-! ### the blocks of a form: the theory -/
def preF : Nat → List Blk → List Blk
  | 0, _ => []
  | n + 1, bs => bs.flatMap fun b => b :: preF n b.i
theorem preF_nil : ∀ n, preF n [] = []
  | 0 => rfl
  | _ + 1 => rfl
theorem preF_one (n : Nat) (b : Blk) : preF (n + 1) [b] = b :: preF n b.i := by
  show [b].flatMap _ = _
  rw [List.flatMap_cons, List.flatMap_nil, List.append_nil]
/-- the rooms of a block, in the order of its blocks -/
def rmsB (b : Blk) : List Int := (preF 13 [b]).flatMap Blk.t
theorem rmsB_eq (b : Blk) : rmsB b = b.t ++ (preF 12 b.i).flatMap Blk.t := by
  unfold rmsB
  rw [preF_one, List.flatMap_cons]
theorem blkP_none {D : List Pr} {L : List Cl} {k : Nat} {P : List Int} (e : wordP L P = none) : blkP D L k P = .mk none P [] := by
  unfold blkP
  rw [e]
theorem blkP_some {D : List Pr} {L : List Cl} {k : Nat} {P : List Int} {w : Str} (e : wordP L P = some w) : blkP D L k P = .mk (some w) (upF (keepL D L 12 P)) (blkF D L k (P.filter fun x => decide (x ∉ keepL D L 12 P))) := by
  unfold blkP
  rw [e]
theorem blkP_w {D : List Pr} {L : List Cl} {k : Nat} {P : List Int} : (blkP D L k P).w = wordP L P := by
  cases e : wordP L P with
  | none => rw [blkP_none e]; rfl
  | some w => rw [blkP_some e]; rfl
theorem pre_sub {D : List Pr} {L : List Cl} : ∀ (m k : Nat) (R : List Int), ∀ x ∈ (preF m (blkF D L k R)).flatMap Blk.t, x ∈ R
  | 0, _, _, _, h => by cases h
  | _ + 1, 0, _, _, h => by cases h
  | m + 1, k + 1, R, x, h => by
    rw [blkF_succ] at h
    obtain ⟨b, hb, hx⟩ := List.mem_flatMap.mp h
    obtain ⟨c, hc, hb⟩ := List.mem_flatMap.mp hb
    obtain ⟨P, hP, rfl⟩ := List.mem_map.mp hc
    refine (pcsF_spec D R).sub_of hP _ ?_
    cases e : wordP L P with
    | none =>
      rw [blkP_none e] at hb
      rcases List.mem_cons.mp hb with z | z
      · rw [z] at hx
        exact hx
      · rw [show (Blk.mk none P []).i = [] from rfl, preF_nil] at z
        cases z
    | some w =>
      rw [blkP_some e] at hb
      rcases List.mem_cons.mp hb with z | z
      · rw [z] at hx
        exact keepL_sub _ _ _ ((upF_mem _ _).mp hx)
      · exact (List.mem_filter.mp (pre_sub m k _ x (List.mem_flatMap.mpr ⟨b, z, hx⟩))).1
theorem pre_all {D : List Pr} {L : List Cl} : ∀ (n m k : Nat) (R : List Int), R.length ≤ n → n ≤ m → n ≤ k → ∀ x ∈ R, x ∈ (preF m (blkF D L k R)).flatMap Blk.t
  | 0, _, _, R, hR, _, _, x, hx => by
    rw [List.length_eq_zero_iff.mp (Nat.le_zero.mp hR)] at hx
    cases hx
  | n + 1, 0, _, _, _, h, _, _, _ => by cases h
  | n + 1, _ + 1, 0, _, _, _, h, _, _ => by cases h
  | n + 1, m + 1, k + 1, R, hR, hm, hk, x, hx => by
    have hs := pcsF_spec D R
    obtain ⟨P, hP, xP⟩ := hs.cov x hx
    have pl : P.length ≤ R.length := int_sub_len2 (up_nd (hs.part hP).1) (hs.sub_of hP)
    rw [blkF_succ]
    have key : ∃ b ∈ blkP D L k P :: preF m (blkP D L k P).i, x ∈ b.t := by
      cases e : wordP L P with
      | none =>
        rw [blkP_none e]
        exact ⟨_, List.mem_cons_self, xP⟩
      | some w =>
        rw [blkP_some e]
        by_cases c : x ∈ keepL D L 12 P
        · exact ⟨_, List.mem_cons_self, (upF_mem _ _).mpr c⟩
        · obtain ⟨y, yP, yk⟩ := keepL_ne (D := D) (n := 11) e
          have lt : (P.filter fun x => decide (x ∉ keepL D L 12 P)).length < P.length := filter_lt yP (by simpa using yk)
          have := pre_all (D := D) (L := L) n m k (P.filter fun x => decide (x ∉ keepL D L 12 P)) (by omega) (Nat.le_of_succ_le_succ hm) (Nat.le_of_succ_le_succ hk) x (List.mem_filter.mpr ⟨xP, decide_eq_true c⟩)
          obtain ⟨b, hb, hx⟩ := List.mem_flatMap.mp this
          exact ⟨b, List.mem_cons_of_mem _ hb, hx⟩
    obtain ⟨b, hb, hx⟩ := key
    exact List.mem_flatMap.mpr ⟨b, List.mem_flatMap.mpr ⟨_, List.mem_map.mpr ⟨P, hP, rfl⟩, hb⟩, hx⟩
theorem pre_of {D : List Pr} {L : List Cl} : ∀ (m k : Nat) (R : List Int), ∀ b ∈ preF m (blkF D L k R), ∃ k' P, b = blkP D L k' P ∧ P.Nodup ∧ ∀ x ∈ P, x ∈ R
  | 0, _, _, _, h => by cases h
  | _ + 1, 0, _, _, h => by cases h
  | m + 1, k + 1, R, b, h => by
    rw [blkF_succ] at h
    obtain ⟨c, hc, hb⟩ := List.mem_flatMap.mp h
    obtain ⟨P, hP, rfl⟩ := List.mem_map.mp hc
    have hs := pcsF_spec D R
    rcases List.mem_cons.mp hb with z | z
    · exact ⟨k, P, z, up_nd (hs.part hP).1, hs.sub_of hP⟩
    · cases e : wordP L P with
      | none =>
        rw [blkP_none e, show (Blk.mk none P []).i = [] from rfl, preF_nil] at z
        cases z
      | some w =>
        rw [blkP_some e] at z
        obtain ⟨k', P', e1, e2, e3⟩ := pre_of m k _ b z
        exact ⟨k', P', e1, e2, fun x hx => hs.sub_of hP x (List.mem_filter.mp (e3 x hx)).1⟩
theorem pre_rlen {D : List Pr} {L : List Cl} : ∀ (m k : Nat) (R : List Int), ((preF m (blkF D L k R)).flatMap Blk.t).length ≤ R.length ∧ (preF m (blkF D L k R)).length ≤ R.length
  | 0, _, _ => ⟨Nat.zero_le _, Nat.zero_le _⟩
  | _ + 1, 0, _ => ⟨Nat.zero_le _, Nat.zero_le _⟩
  | m + 1, k + 1, R => by
    have hs := pcsF_spec D R
    have key : ∀ P ∈ pcsF D R, ((blkP D L k P :: preF m (blkP D L k P).i).flatMap Blk.t).length ≤ P.length ∧ (blkP D L k P :: preF m (blkP D L k P).i).length ≤ P.length := fun P hP => by
      cases e : wordP L P with
      | none =>
        rw [blkP_none e, show (Blk.mk none P []).i = [] from rfl, preF_nil, List.flatMap_cons, List.flatMap_nil, List.append_nil]
        exact ⟨Nat.le_refl _, List.length_pos_iff.mpr (hs.ne hP)⟩
      | some w =>
        rw [blkP_some e, List.flatMap_cons, List.length_append, List.length_cons]
        obtain ⟨y, yP, yk⟩ := keepL_ne (D := D) (n := 11) e
        have h1 := keep_split P (keepL D L 12 P) (up_nd (hs.part hP).1) (keepL_sub 12 P)
        obtain ⟨h2, h3⟩ := pre_rlen (D := D) (L := L) m k (P.filter fun x => decide (x ∉ keepL D L 12 P))
        have h4 : 0 < (upF (keepL D L 12 P)).length := List.length_pos_iff.mpr fun z => by
          have := (upF_mem _ _).mpr yk
          rw [z] at this
          cases this
        exact ⟨Nat.le_trans (Nat.add_le_add_left h2 _) (by show (upF (keepL D L 12 P)).length + _ ≤ _; omega), by show (preF m (blkF D L k (P.filter fun x => decide (x ∉ keepL D L 12 P)))).length + 1 ≤ _; omega⟩
    have flat : ((pcsF D R).flatMap fun P => P).length ≤ R.length := by
      refine int_sub_len2 ?_ fun x hx => ?_
      · refine List.pairwise_flatMap.mpr ⟨fun P hP => up_nd (hs.part hP).1, List.Pairwise.imp_of_mem (fun {a b} ma mb h x hx y hy e => ?_) hs.asc⟩
        subst e
        have := hs.apart ma mb hx hy
        rw [this] at h
        omega
      · obtain ⟨P, hP, hx⟩ := List.mem_flatMap.mp hx
        exact hs.sub_of hP x hx
    have e1 : preF (m + 1) (blkF D L (k + 1) R) = (pcsF D R).flatMap fun P => blkP D L k P :: preF m (blkP D L k P).i := by
      rw [blkF_succ]
      show ((pcsF D R).map _).flatMap _ = _
      rw [List.flatMap_map]
    rw [e1, List.flatMap_assoc]
    exact ⟨Nat.le_trans (sum_flat (g := fun P => P) _ fun P hP => (key P hP).1) flat, Nat.le_trans (sum_flat (g := fun P => P) _ fun P hP => (key P hP).2) flat⟩
theorem rms_of {D : List Pr} {L : List Cl} {k : Nat} {P : List Int} (nd : P.Nodup) : (∀ x ∈ rmsB (blkP D L k P), x ∈ P) ∧ (rmsB (blkP D L k P)).length ≤ P.length := by
  rw [rmsB_eq]
  cases e : wordP L P with
  | none =>
    rw [blkP_none e, show (Blk.mk none P []).i = [] from rfl, preF_nil, List.flatMap_nil, List.append_nil]
    exact ⟨fun x hx => hx, Nat.le_refl _⟩
  | some w =>
    rw [blkP_some e]
    refine ⟨fun x hx => ?_, ?_⟩
    · rcases List.mem_append.mp hx with z | z
      · exact keepL_sub _ _ _ ((upF_mem _ _).mp z)
      · exact (List.mem_filter.mp (pre_sub 12 k _ x z)).1
    · rw [List.length_append]
      have h1 := keep_split P (keepL D L 12 P) nd (keepL_sub 12 P)
      have h2 := (pre_rlen (D := D) (L := L) 12 k (P.filter fun x => decide (x ∉ keepL D L 12 P))).1
      show (upF (keepL D L 12 P)).length + ((preF 12 (blkF D L k (P.filter fun x => decide (x ∉ keepL D L 12 P)))).flatMap Blk.t).length ≤ _
      omega
theorem rms_all {D : List Pr} {L : List Cl} {k : Nat} {P : List Int} (h12 : P.length ≤ 12) (hk : P.length ≤ k + 1) : ∀ x ∈ P, x ∈ rmsB (blkP D L k P) := fun x hx => by
  rw [rmsB_eq]
  cases e : wordP L P with
  | none =>
    rw [blkP_none e]
    exact List.mem_append_left _ hx
  | some w =>
    rw [blkP_some e]
    by_cases c : x ∈ keepL D L 12 P
    · exact List.mem_append_left _ ((upF_mem _ _).mpr c)
    · obtain ⟨y, yP, yk⟩ := keepL_ne (D := D) (n := 11) e
      have lt : (P.filter fun x => decide (x ∉ keepL D L 12 P)).length < P.length := filter_lt yP (by simpa using yk)
      exact List.mem_append_right _ (pre_all _ 12 k _ (Nat.le_refl _) (by omega) (by omega) x (List.mem_filter.mpr ⟨hx, decide_eq_true c⟩))
/-- the block holds all the rooms -/
def hldB (Q : List Int) (b : Blk) : Bool := Q.all fun x => decide (x ∈ rmsB b)
theorem hldB_iff {Q : List Int} {b : Blk} : hldB Q b = true ↔ ∀ x ∈ Q, x ∈ rmsB b := by
  unfold hldB
  rw [List.all_eq_true]
  exact ⟨fun h x hx => of_decide_eq_true (h x hx), fun h x hx => decide_eq_true (h x hx)⟩
theorem flat_last {α β : Type} {f : α → List β} : ∀ {l : List α} {a : α}, a ∈ l → (∀ b ∈ l, b ≠ a → f b = []) → (l.flatMap f).getLast? = (f a).getLast?
  | b :: l, a, m, h => by
    rw [List.flatMap_cons, List.getLast?_append]
    by_cases ml : a ∈ l
    · rw [flat_last ml fun c hc => h c (List.mem_cons_of_mem _ hc)]
      by_cases e : b = a
      · rw [e]
        cases (f a).getLast? <;> rfl
      · rw [h b List.mem_cons_self e]
        cases (f a).getLast? <;> rfl
    · rcases List.mem_cons.mp m with e | m
      · subst e
        have : l.flatMap f = [] := List.flatMap_eq_nil_iff.mpr fun c hc => h c (List.mem_cons_of_mem _ hc) fun z => ml (by rw [← z]; exact hc)
        rw [this]
        rfl
      · exact absurd m ml
/-- the last block that holds a part has its word -/
theorem small_word {D : List Pr} {L : List Cl} {Q : List Int} (hQ : Part D Q) : ∀ (n m k : Nat) (R : List Int), R.length ≤ n → n ≤ m → n ≤ k → R.length ≤ 12 → (∀ x ∈ Q, x ∈ R) → ∃ b, ((preF m (blkF D L k R)).filter (hldB Q)).getLast? = some b ∧ b.w = wordP L Q
  | 0, _, _, R, hR, _, _, _, sub => by
    obtain ⟨_, s, hs, _⟩ := hQ
    have := sub s hs
    rw [List.length_eq_zero_iff.mp (Nat.le_zero.mp hR)] at this
    cases this
  | n + 1, 0, _, _, _, h, _, _, _ => by cases h
  | n + 1, _ + 1, 0, _, _, _, h, _, _ => by cases h
  | n + 1, m + 1, k + 1, R, hR, hm, hk, h12, sub => by
    have hs := pcsF_spec D R
    obtain ⟨_, s, sQ, hr⟩ := id hQ
    obtain ⟨P, hP, sP⟩ := hs.cov s (sub s sQ)
    have QP := hs.within hQ sub hP sQ sP
    have partP := hs.part hP
    have pl : P.length ≤ R.length := int_sub_len2 (up_nd partP.1) (hs.sub_of hP)
    have e1 : preF (m + 1) (blkF D L (k + 1) R) = (pcsF D R).flatMap fun P => blkP D L k P :: preF m (blkP D L k P).i := by
      rw [blkF_succ]
      show ((pcsF D R).map _).flatMap _ = _
      rw [List.flatMap_map]
    have inP : ∀ P' : List Int, P'.Nodup → ∀ b ∈ blkP D L k P' :: preF m (blkP D L k P').i, ∀ x ∈ rmsB b, x ∈ P' := fun P' nd b hb x hx => by
      rcases List.mem_cons.mp hb with z | z
      · rw [z] at hx
        exact (rms_of nd).1 x hx
      · cases e : wordP L P' with
        | none =>
          rw [blkP_none e, show (Blk.mk none P' []).i = [] from rfl, preF_nil] at z
          cases z
        | some w =>
          rw [blkP_some e] at z
          obtain ⟨k', P2, e1, e2, e3⟩ := pre_of m k _ b z
          rw [e1] at hx
          exact (List.mem_filter.mp (e3 x ((rms_of e2).1 x hx))).1
    have none_ : ∀ P' ∈ pcsF D R, P' ≠ P → (blkP D L k P' :: preF m (blkP D L k P').i).filter (hldB Q) = [] := fun P' hP' ne => by
      rw [List.filter_eq_nil_iff]
      intro b hb h
      have := inP P' (up_nd (hs.part hP').1) b hb s (hldB_iff.mp h s sQ)
      exact ne (hs.apart hP' hP this sP)
    rw [e1, List.filter_flatMap, flat_last hP none_]
    have hold : hldB Q (blkP D L k P) = true := hldB_iff.mpr fun x hx => rms_all (by omega) (by omega) x (QP x hx)
    rw [List.filter_cons_of_pos hold]
    cases e : wordP L P with
    | none =>
      refine ⟨blkP D L k P, ?_, by rw [blkP_w, e]; exact (wordP_sub e QP).symm⟩
      rw [blkP_none e, show (Blk.mk none P []).i = [] from rfl, preF_nil]
      rfl
    | some w =>
      have ei : (blkP D L k P).i = blkF D L k (P.filter fun x => decide (x ∉ keepL D L 12 P)) := by rw [blkP_some e]; rfl
      have ki := keepL_iff 12 P w (Nat.le_trans pl h12) partP e
      by_cases hx : ∃ x ∈ Q, x ∈ keepL D L 12 P
      · obtain ⟨x, xQ, xk⟩ := hx
        refine ⟨blkP D L k P, ?_, by rw [blkP_w, e]; exact (((ki x).mp xk).2 Q hQ xQ QP).symm⟩
        have : (preF m (blkP D L k P).i).filter (hldB Q) = [] := by
          rw [ei, List.filter_eq_nil_iff]
          intro b hb h
          obtain ⟨k', P2, e1, e2, e3⟩ := pre_of m k _ b hb
          have hb2 := hldB_iff.mp h x xQ
          rw [e1] at hb2
          exact of_decide_eq_true (List.mem_filter.mp (e3 x ((rms_of e2).1 x hb2))).2 xk
        rw [this]
        rfl
      · have no : ∀ x ∈ Q, x ∉ keepL D L 12 P := fun x xQ xk => hx ⟨x, xQ, xk⟩
        obtain ⟨y, yP, yk⟩ := keepL_ne (D := D) (n := 11) e
        have lt : (P.filter fun x => decide (x ∉ keepL D L 12 P)).length < P.length := filter_lt yP (by simpa using yk)
        obtain ⟨b, h1, h2⟩ := small_word hQ n m k (P.filter fun x => decide (x ∉ keepL D L 12 P)) (by omega) (Nat.le_of_succ_le_succ hm) (Nat.le_of_succ_le_succ hk) (by omega) fun x hx => List.mem_filter.mpr ⟨QP x hx, decide_eq_true (no x hx)⟩
        refine ⟨b, ?_, h2⟩
        rw [ei, List.getLast?_cons, h1]
        rfl

/-! ### blocks, block_rooms, smallest_block, word_by_form, silent_form -/
abbrev sBlc : Stmt := topS 12
abbrev sBrm : Stmt := topS 11
theorem BlksAt.up1 {H : Hp} : ∀ {n : Nat} {xs : List V} {bs : List Blk}, BlksAt H n xs bs → BlksAt H (n + 1) xs bs
  | 0, xs, bs, h => by
    rw [h.1, h.2]
    exact ⟨Nat.zero_le _, .nil⟩
  | n + 1, xs, bs, h => ⟨h.1, Paired.mapP h.2 fun v b q => by
    obtain ⟨a, t, i, ys, e, h1, h2, h3, h4, h5⟩ := q.ex
    exact ⟨a, t, i, ys, e, h1, h2, h3, h4, BlksAt.up1 h5⟩⟩
theorem BlksAt.up {H : Hp} {n : Nat} {xs : List V} {bs : List Blk} (h : BlksAt H n xs bs) : ∀ {m : Nat}, n ≤ m → BlksAt H m xs bs
  | 0, l => by rw [Nat.le_zero.mp l] at h; exact h
  | m + 1, l => by
    by_cases e : n = m + 1
    · rw [← e]
      exact h
    · exact (BlksAt.up h (Nat.lt_succ_iff.mp (Nat.lt_of_le_of_ne l e))).up1
/-- a block of a form -/
def IsB (H : Hp) (v : V) (b : Blk) : Prop := BlkV H (BlksAt H 12) v b
theorem IsB.kt {H H' : Hp} {v : V} {b : Blk} (h : IsB H v b) (k : KT H H') : IsB H' v b := by
  obtain ⟨a, t, i, ys, e, h1, h2, h3, h4, h5⟩ := h.ex
  exact ⟨a, t, i, ys, e, k _ _ h1, k _ _ h2, h3, k _ _ h4, h5.kt k⟩
theorem BlkV.isB {H : Hp} {n : Nat} {v : V} {b : Blk} (h : BlkV H (BlksAt H n) v b) (l : n ≤ 12) : IsB H v b := by
  obtain ⟨a, t, i, ys, e, h1, h2, h3, h4, h5⟩ := h.ex
  exact ⟨a, t, i, ys, e, h1, h2, h3, h4, h5.up l⟩
theorem lc2W {wi : TI} {g : TG} {tt : TT} {wi1 : TI} {g1 : TG} {tt1 : TT} {te : TE} {vs vs1 : List Nat} {σ : L2.St} {H : Hp} {Q : VK} (h : wi σ H fun J H1 => tLc2 (fun _ H R => R J H) g tt wi1 g1 tt1 te vs vs1 σ H1 Q) : tLc2 wi g tt wi1 g1 tt1 te vs vs1 σ H Q := h
theorem lc2_blk {K : PySem.W.Frag} {a : Addr} {ws : List V} {bs : List Blk} {v : V} {H1 : Hp} {Q : VK} (ha : H1 a = some (.lst ws)) (pb : Paired (IsB H1) ws bs) (len : (bs.flatMap Blk.t).length ≤ 1000)
    (q : ∀ o H', Same H1 H' → H1 o = none → H' o = some (.lst ((bs.flatMap Blk.t).map V.int)) → Q (.ref o) H') :
    tLc2 (fun _ H R => R (Itl K a) H) (gTup K 3 (gCons (gName 1) (gCons (gName 2) (gCons (gName 1) gNil)))) tYes (iTup K (tVar 2)) (gName 3) tYes (tVar 3) [1, 2, 1, 3] [3] [some v, none, none, none] H1 Q := by
  intro D nD
  have wl := Paired.length pb
  refine ⟨fun j m Hx => m = ws.length - j ∧ j ≤ ws.length ∧ Same H1 Hx ∧ Hx D = some (.lst (((bs.take j).flatMap Blk.t).map V.int)), ⟨_, rfl, Nat.zero_le _, same_upd nD, upd_same⟩, ?_⟩
  rintro j mm Hx ⟨rfl, hj, sx, hD⟩
  by_cases lt : j < ws.length
  · refine .inr ⟨⟨ws, ws[j], SqL.of (sx _ _ ha), List.getElem?_eq_getElem lt⟩, fun H' => Same H1 H' ∧ H' D = some (.lst (((bs.take (j + 1)).flatMap Blk.t).map V.int)), fun H' q => ⟨_, by omega, rfl, lt, q.1, q.2⟩, ?_⟩
    rintro v' H' ⟨rfl, ev⟩
    have e2 := ev _ (SqL.of (sx _ _ ha))
    obtain ⟨b, gb, bv⟩ := lget pb e2
    obtain ⟨tb, tt, ti, us, rfl, h1, h2, h3, h4, h5⟩ := bv.ex
    have tk : bs.take (j + 1) = bs.take j ++ [b] := by rw [List.take_add_one, gb]; rfl
    have tl : ((bs.take j).flatMap Blk.t).length + b.t.length ≤ 1000 := by
      have e : (bs.flatMap Blk.t).length = ((bs.take (j + 1)).flatMap Blk.t).length + ((bs.drop (j + 1)).flatMap Blk.t).length := by
        rw [← List.length_append, ← List.flatMap_append, List.take_append_drop]
      rw [tk, List.flatMap_append, List.flatMap_cons, List.flatMap_nil, List.append_nil, List.length_append] at e
      omega
    rw [tk, List.flatMap_append, List.flatMap_cons, List.flatMap_nil, List.append_nil]
    refine ⟨tb, _, rfl, SqT.of (sx _ _ h1), rfl, _, _, rfl, _, _, rfl, _, _, rfl, rfl, rfl, iteT (B := True) ?_⟩
    have h2x := sx _ _ h2
    refine ⟨.ref tt, rfl, tt, rfl, ⟨_, SqT.of h2x⟩, ?_⟩
    refine ⟨fun k m Hy => m = b.t.length - k ∧ k ≤ b.t.length ∧ Same H1 Hy ∧ Hy D = some (.lst (((bs.take j).flatMap Blk.t ++ b.t.take k).map V.int)), ⟨_, rfl, Nat.zero_le _, sx, by rw [List.take_zero, List.append_nil]; exact hD⟩, ?_⟩
    rintro k mk Hy ⟨rfl, hk, sy, hDy⟩
    have h2y := sy _ _ h2
    by_cases lk : k < b.t.length
    · refine .inr ⟨⟨_, .int b.t[k], SqT.of h2y, by rw [List.getElem?_map, List.getElem?_eq_getElem lk]; rfl⟩, fun H' => Same H1 H' ∧ H' D = some (.lst (((bs.take j).flatMap Blk.t ++ b.t.take (k + 1)).map V.int)), fun H' q => ⟨_, by omega, rfl, lk, q.1, q.2⟩, ?_⟩
      rintro x H2 ⟨rfl, ev2⟩
      have e3 := ev2 _ (SqT.of h2y)
      rw [List.getElem?_map, List.getElem?_eq_getElem lk] at e3
      have e4 := Option.some.inj e3
      subst e4
      refine ⟨rfl, iteT (B := True) ?_⟩
      refine ⟨_, rfl, _, hDy, len_big (by rw [List.length_map, List.length_append, List.length_take]; omega), same_ch sy nD, ?_⟩
      rw [upd_same, List.take_add_one, List.getElem?_eq_getElem lk, ← List.append_assoc, List.map_append, List.map_append, List.map_append]
      rfl
    · refine .inl ⟨⟨_, SqT.of h2y, by rw [List.length_map]; omega⟩, sy, ?_⟩
      have et : b.t.take k = b.t := List.take_of_length_le (by omega)
      rw [et] at hDy
      exact hDy
  · refine .inl ⟨⟨ws, SqL.of (sx _ _ ha), by omega⟩, q D Hx sx nD ?_⟩
    rw [List.take_of_length_le (by omega)] at hD
    exact hD
section
variable {P : Program} {w : World} {K : PySem.W.Frag} {mg : Str → Option Value} {base : Heap}
theorem scBlc : FnScope ["form", "found", "block"] ["form"] (defScope sBlc) := ⟨rfl, rfl, rfl, by decide +kernel, rfl, by decide +kernel, by decide +kernel⟩
def spBlc (n : Nat) : Sp := fun vs H Q _ => ∃ (v : V) (bs : List Blk), vs = [v] ∧ FormAt H n v bs ∧ n ≤ 13 ∧ (preF n bs).length ≤ 1000 ∧ ∀ ws t H', Same H H' → H t = none → H' t = some (.lst ws) → Paired (IsB H') ws (preF n bs) → Q (.ref t) H'
theorem ok_blc {f : Addr} {fd : FuncData} (F : Fun K "blocks" "blocks" sBlc f fd) (T : Bi mg) (bd : Binds K fd ["form"] []) (hmg : mg "blocks" = some (.ref f)) : ∀ n, FnOk P w K mg base CX0 (n + 2) f fd ["form"] (spBlc n) := by
  intro n
  induction n with
  | zero =>
    refine F.ok scBlc (fun vs H Q E h => ?_) (fun cdv A0 outer s H vs Q E hr h => ?_)
    · obtain ⟨v, bs, rfl, _⟩ := h
      rfl
    · obtain ⟨v, bs, rfl, ⟨a, xs, rfl, ha, hx, hb⟩, _, _, ret⟩ := h
      subst hx
      subst hb
      refine ⟨_, (pss_cons (ps_set (i := 1) scBlc.nd rfl (Or.inl rfl) (pe_lst pa_nil))
      (pss_cons (ps_for PassesOwn.never rfl (pi_tup (pv 0)) (pg_name (i := 2) scBlc.nd rfl (Or.inl rfl))
      (pss_cons (ps_expr (pe_bm PySem.F.plainAttrs_list PySem.F.slot_list_append PySem.F.type_list_append mt_append (pv 1) (pa_cons (pv 2) pa_nil)))
        (pss_one (ps_never))))
      (pss_one (ps_ret (pv 1))))), ?_⟩
      walk_at "rd"
      refine ⟨Nat.zero_le _, fun cn ncn => ?_⟩
      have s1 := same_upd (o := HO.lst []) ncn
      have hcn := upd_same (H := H) (a := cn) (o := HO.lst [])
      generalize upd H cn (HO.lst []) = H1 at s1 hcn ⊢
      refine for_iterW ?_
      unfold iTup
      walk_at "rd"
      refine ⟨⟨_, SqT.of (s1 _ _ ha)⟩, for_tup (K := K) (a := a) (xs := []) (fun _ σ Hx => σ = [some (.ref a), some (.ref cn), none] ∧ Hx = H1) ⟨rfl, rfl⟩ (fun i σ Hx _ pv => by rw [pv.2]; exact SqT.of (s1 _ _ ha)) (fun i v σ Hx gv pv => by cases gv) (fun σ Hx pv => ?_)⟩
      obtain ⟨rfl, rfl⟩ := pv
      walk_at "rd"
      exact ret [] cn Hx s1 ncn hcn .nil
  | succ n ih =>
    refine F.ok scBlc (fun vs H Q E h => ?_) (fun cdv A0 outer s H vs Q E hr h => ?_)
    · obtain ⟨v, bs, rfl, _⟩ := h
      rfl
    · obtain ⟨v, bs, rfl, ⟨a, xs, rfl, ha, xl, pb⟩, n13, pl, ret⟩ := h
      refine ⟨_, (pss_cons (ps_set (i := 1) scBlc.nd rfl (Or.inl rfl) (pe_lst pa_nil))
      (pss_cons (ps_for PassesOwn.never rfl (pi_tup (pv 0)) (pg_name (i := 2) scBlc.nd rfl (Or.inl rfl))
      (pss_cons (ps_expr (pe_bm PySem.F.plainAttrs_list PySem.F.slot_list_append PySem.F.type_list_append mt_append (pv 1) (pa_cons (pv 2) pa_nil)))
        (pss_one (ps_expr (pe_bm PySem.F.plainAttrs_list PySem.F.slot_list_extend PySem.F.type_list_extend mt_extend (pv 1) (pa_cons (pe_call ih hr (by rfl) hmg F.kp bd .nil pass0 (pa_cons (pe_ix ix_tup (pv 2) pe_int (fun _ _ => rfl)) pa_nil)) pa_nil))))))
      (pss_one (ps_ret (pv 1))))), ?_⟩
      walk_at "rd"
      refine ⟨Nat.zero_le _, fun cn ncn => ?_⟩
      have s1 := same_upd (o := HO.lst []) ncn
      have hcn := upd_same (H := H) (a := cn) (o := HO.lst [])
      generalize upd H cn (HO.lst []) = H1 at s1 hcn ⊢
      have ha1 := s1 _ _ ha
      have bl1 : BL H1 n xs bs := BL.kt pb (KT.same s1)
      refine for_iterW ?_
      unfold iTup
      walk_at "rd"
      obtain ⟨gB, hgB⟩ : ∃ gB : Blk → List Blk, gB = fun b => b :: preF n b.i := ⟨_, rfl⟩
      have eP : preF (n + 1) bs = bs.flatMap gB := by rw [hgB]; rfl
      rw [eP] at pl ret
      obtain ⟨Pv, hPv⟩ : ∃ Pv : Nat → L2.St → Hp → Prop, Pv = (fun i σ Hx => ∃ (ws : List V) (v2 : Option V), σ = [some (.ref a), some (.ref cn), v2] ∧ Same H Hx ∧ Hx cn = some (.lst ws) ∧ Paired (IsB Hx) ws ((bs.take i).flatMap gB) ∧ Hx a = some (.tup xs) ∧ BL Hx n xs bs) := ⟨_, rfl⟩
      refine ⟨⟨_, SqT.of ha1⟩, for_tup (K := K) (a := a) (xs := xs) Pv (by rw [hPv]; exact ⟨[], none, rfl, s1, hcn, .nil, ha1, bl1⟩) (fun i σ Hx _ pv => by rw [hPv] at pv; obtain ⟨_, _, _, _, _, _, h, _⟩ := pv; exact SqT.of h) (fun i v σ Hx gv pv => ?_) (fun σ Hx pv => ?_)⟩
      rotate_left
      · rw [hPv] at pv
        obtain ⟨ws, v2, rfl, sx, hc, lg, _, _⟩ := pv
        rw [Paired.length pb, List.take_length] at lg
        walk_at "rd"
        exact ret ws cn Hx sx ncn hc lg
      rw [hPv] at pv
      obtain ⟨ws, v2, rfl, sx, hc, lg, hax, blx⟩ := pv
      obtain ⟨b, gb, bv⟩ := lget blx gv
      have ib : IsB Hx v b := BlkV.isB bv (by omega)
      obtain ⟨tb, tt, ti, us, rfl, h1, h2, h3, h4, h5⟩ := bv.ex
      have tk : bs.take (i + 1) = bs.take i ++ [b] := by rw [List.take_add_one, gb]; rfl
      have tot : ((bs.take (i + 1)).flatMap gB).length ≤ 1000 := by
        have e : (bs.flatMap gB).length = ((bs.take (i + 1)).flatMap gB).length + ((bs.drop (i + 1)).flatMap gB).length := by
          rw [← List.length_append, ← List.flatMap_append, List.take_append_drop]
        omega
      rw [tk, List.flatMap_append, List.flatMap_cons, List.flatMap_nil, List.append_nil, List.length_append] at tot
      have egB : gB b = b :: preF n b.i := by rw [hgB]
      rw [egB, List.length_cons] at tot
      have wl := Paired.length lg
      walk_at "rd"
      refine ⟨.inl ⟨rfl, _, SqL.of hc⟩, ws, hc, len_big (by omega), ?_⟩
      have kt1 : KT Hx (upd Hx cn (HO.lst (ws ++ [V.ref tb]))) := KT.lst hc
      have sc1 := same_ch (o := HO.lst (ws ++ [V.ref tb])) sx ncn
      have hc1 := upd_same (H := Hx) (a := cn) (o := HO.lst (ws ++ [V.ref tb]))
      have lg1 : Paired (IsB (upd Hx cn (HO.lst (ws ++ [V.ref tb])))) (ws ++ [V.ref tb]) ((bs.take i).flatMap gB ++ [b]) := Paired.snoc (Paired.mapP lg fun v b h => h.kt kt1) (ib.kt kt1)
      have hax1 := kt1 _ _ hax
      have blx1 := blx.kt kt1
      have h11 := kt1 _ _ h1
      have h41 := kt1 _ _ h4
      have h51 := h5.kt kt1
      generalize upd Hx cn (HO.lst (ws ++ [V.ref tb])) = H2 at sc1 hc1 lg1 hax1 blx1 h11 h41 h51 ⊢
      refine ⟨.inl ⟨rfl, _, SqL.of hc1⟩, ?_⟩
      refine ⟨_, SqT.of h11, _, atI_nat (j := 2) rfl, .ref ti, b.i, rfl, ⟨ti, us, rfl, h41, h51⟩, by omega, by omega, fun w2 t2 H3 s3 nt2 ht2 lg2 => ?_⟩
      have hc3 := s3 _ _ hc1
      have wl2 := Paired.length lg2
      refine ⟨_, rfl, _, hc3, _, ht2, Nat.le_of_lt (len_big (by rw [List.length_append, List.length_singleton]; omega)), ?_⟩
      have kt3 : KT H3 (upd H3 cn (HO.lst (ws ++ [V.ref tb] ++ w2))) := KT.lst hc3
      rw [hPv]
      refine ⟨ws ++ [V.ref tb] ++ w2, _, rfl, same_ch (sc1.trans s3) ncn, upd_same, ?_, kt3 _ _ (s3 _ _ hax1), (blx1.kt (KT.same s3)).kt kt3⟩
      rw [tk, List.flatMap_append, List.flatMap_cons, List.flatMap_nil, List.append_nil, egB]
      have e : (bs.take i).flatMap gB ++ b :: preF n b.i = (bs.take i).flatMap gB ++ [b] ++ preF n b.i := by rw [List.append_assoc]; rfl
      rw [e]
      exact paired_append (Paired.mapP lg1 fun v b h => (h.kt (KT.same s3)).kt kt3) (Paired.mapP lg2 fun v b h => h.kt kt3)
theorem scBrm : FnScope ["block", "_", "tops", "room"] ["block"] (defScope sBrm) := ⟨rfl, rfl, rfl, by decide +kernel, rfl, by decide +kernel, by decide +kernel⟩
def spBrm : Sp := fun vs H Q _ => ∃ (v : V) (b : Blk), vs = [v] ∧ IsB H v b ∧ (preF 13 [b]).length ≤ 1000 ∧ (rmsB b).length ≤ 60 ∧ ∀ (ys : List Int) t H', ys.Perm (rmsB b) → ys.Pairwise (· ≤ ·) → Same H H' → H t = none → H' t = some (.tup (ys.map V.int)) → Q (.ref t) H'
theorem ok_brm {f f1 : Addr} {fd fd1 : FuncData} (F : Fun K "block_rooms" "block_rooms" sBrm f fd) (T : Bi mg) (d_blocks : Df P w K mg base "blocks" ["form"] 15 (spBlc 13) f1 fd1) : FnOk P w K mg base CX0 16 f fd ["block"] spBrm := by
  refine F.ok scBrm (fun vs H Q E h => ?_) (fun cdv A0 outer s H vs Q E hr h => ?_)
  · obtain ⟨v, b, rfl, _⟩ := h
    rfl
  · obtain ⟨v, b, rfl, ib, pl, rl, ret⟩ := h
    refine ⟨_, (pss_one (ps_ret (pe_callTy call_tuple_of (by rfl) T.tuple (by decide +kernel) (pa_cons (pe_callB cr_sorted (by rfl) T.sorted (by decide +kernel) (pa_cons (pe_lc2 (own := [("_", 1), ("tops", 2), ("_", 1), ("room", 3)]) (vs1 := [3]) (g := gTup K 3 (gCons (gName 1) (gCons (gName 2) (gCons (gName 1) gNil)))) (g1 := gName 3) (wi1 := iTup K (tVar 2)) (te := tVar 3) (by rfl) scBrm.nd (pi_list (pe_call d_blocks.ok (hr.mono (by decide)) (by rfl) d_blocks.at_ d_blocks.kp d_blocks.b .nil pass0 (pa_cons (pe_tup (pa_cons (pv 0) pa_nil)) pa_nil))) (blkOk_by (N := ["block", "_", "tops", "room"]) (sc := defScope sBrm) (by decide +kernel)) (by decide) (fun _ _ _ _ _ => pg_tup rfl (pgs_cons (pg_name (i := 1) scBrm.nd rfl (Or.inl rfl)) (pgs_cons (pg_name (i := 2) scBrm.nd rfl (Or.inl rfl)) (pgs_cons (pg_name (i := 1) scBrm.nd rfl (Or.inl rfl)) pgs_nil)))) (fun _ _ _ _ _ => pts_nil) (fun _ _ _ _ _ => (pi_tup (pv 2))) (fun _ _ _ _ _ => pg_name (i := 3) scBrm.nd rfl (Or.inl rfl)) (fun _ _ _ _ _ => pts_nil) (fun _ _ _ _ _ => (pv 3))) pa_nil)) pa_nil)))), ?_⟩
    walk_at "rd"
    refine lc2W ?_
    walk_at "rd"
    refine ⟨by decide, fun p np => ?_⟩
    have s1 := same_upd (o := HO.tup [v]) np
    have hp := upd_same (H := H) (a := p) (o := HO.tup [v])
    generalize upd H p (HO.tup [v]) = H1 at s1 hp ⊢
    refine ⟨.ref p, [b], rfl, ⟨p, [v], rfl, hp, by show 1 ≤ 1000; decide, .cons (ib.kt (KT.same s1)) .nil⟩, Nat.le_refl _, pl, fun ws t H2 s2 nt ht pw => ?_⟩
    refine ⟨t, rfl, ⟨_, SqL.of ht⟩, lc2_blk ht pw (by show (rmsB b).length ≤ 1000; omega) fun o H3 s3 no ho => ?_⟩
    have ho : H3 o = some (.lst ((rmsB b).map V.int)) := ho
    refine ⟨o, _, rfl, SqL.of ho, by omega, fun ys t2 pm so nt2 => ?_⟩
    have s4 := same_upd (o := HO.lst (ys.map V.int)) nt2
    have ht2 := upd_same (H := H3) (a := t2) (o := HO.lst (ys.map V.int))
    generalize upd H3 t2 (HO.lst (ys.map V.int)) = H4 at s4 ht2 ⊢
    refine ⟨t2, rfl, _, .inl ⟨SqL.of ht2, fun t3 nt3 => ?_⟩⟩
    have s14 := ((s1.trans s2).trans s3).trans s4
    exact ret ys t3 _ pm so (s14.trans (same_upd nt3)) (s14.free nt3) upd_same
end

/-! ### forced pairs -/
abbrev sIb : Stmt := topS 16
abbrev sPb : Stmt := topS 15
abbrev sFrp : Stmt := topS 14
theorem bl_map {H : Hp} : ∀ {vs : List V} {bs : List Bool}, Paired (fun v b => v = V.bl b) vs bs → vs = bs.map V.bl
  | _, _, .nil => rfl
  | _, _, .cons r t => by rw [bl_map (H := H) t, List.map_cons, r]
section
variable {P : Program} {w : World} {K : PySem.W.Frag} {mg : Str → Option Value} {base : Heap}
theorem scIb : FnScope ["house", "room", "rooms", "other"] ["house", "room", "rooms"] (defScope sIb) := ⟨rfl, rfl, rfl, by decide +kernel, rfl, by decide +kernel, by decide +kernel⟩
def besB (D : List Pr) (Rs : List Int) (x : Int) : Bool := (nearF x D).any fun y => decide (y ∈ Rs)
def spIb (C : Addr) : Sp := fun vs H Q _ => ∃ (p t : Addr) (x : Int) (r : Nat) (D : List Pr) (own : List Addr) (Rs : List Int), vs = [.ref p, .int x, .ref t] ∧ HouseAt C H p r D own ∧ 0 ≤ x ∧ x < r ∧ H t = some (.tup (Rs.map V.int)) ∧ ∀ H', Same H H' → Q (.bl (besB D Rs x)) H'
theorem ok_ib {f C fn : Addr} {fd fdn : FuncData} (F : Fun K "is_beside" "is_beside" sIb f fd) (T : Bi mg) (U : Hs K mg C) (am : mg "any" = none) (m_neighbours : Md P w K mg base C "neighbours" ["self", "room"] 1 (spHnear C) fn fdn) : FnOk P w K mg base CX0 2 f fd ["house", "room", "rooms"] (spIb C) := by
  refine F.ok scIb (fun vs H Q E h => ?_) (fun cdv A0 outer s H vs Q E hr h => ?_)
  · obtain ⟨p, t, x, r, D, own, Rs, rfl, _⟩ := h
    rfl
  · obtain ⟨p, t, x, r, D, own, Rs, rfl, hh, x0, xr, ht, ret⟩ := h
    refine ⟨_, (pss_one (ps_ret (pe_callB (cr_any rfl) (by rfl) am (by decide +kernel) (pa_cons (pe_lc (own := [("other", 3)]) (te := (tOp (rIn K false) (tVar 3) (tVar 2))) (by rfl) scIb.nd (pi_list (pe_meth (pv 0) U.cl m_neighbours.m m_neighbours.ok (hr.mono (by decide)) m_neighbours.b .nil pass0 (pa_cons (pv 1) pa_nil))) (blkOk_by (N := ["house", "room", "rooms", "other"]) (sc := defScope sIb) (by decide +kernel)) (fun _ _ _ _ _ => pg_name (i := 3) scIb.nd rfl (Or.inl rfl)) (fun _ _ _ _ _ => pts_nil) (fun _ _ _ _ _ => (pe_cmpR op_in_seq (pv 3) (pv 2) (by rfl)))) pa_nil)))), ?_⟩
    walk_at "rd"
    refine lcW ?_
    walk_at "rd"
    obtain ⟨xn, rfl⟩ : ∃ xn : Nat, x = xn := ⟨x.toNat, by omega⟩
    obtain ⟨dh, lh, mh, lsh, nsh, hhp, _⟩ := id hh.ex
    have nl : (nearF ((xn : Nat) : Int) D).length ≤ 66 := by
      have h1 : (nearF ((xn : Nat) : Int) D).length ≤ D.length := List.length_filterMap_le _ _
      have h2 := hh.ok.len hh.r12
      omega
    refine ⟨dh, _, hhp, hf_no _ _ _ (by decide +kernel) (by decide +kernel) (by decide +kernel), p, r, D, own, xn, rfl, hh, by omega, fun q nq => ⟨q, rfl, ?_⟩⟩
    have s1 := same_upd (o := HO.lst ((nearF ((xn : Nat) : Int) D).map V.int)) nq
    have hq := upd_same (H := H) (a := q) (o := HO.lst ((nearF ((xn : Nat) : Int) D).map V.int))
    generalize upd H q (HO.lst ((nearF ((xn : Nat) : Int) D).map V.int)) = H1 at s1 hq ⊢
    obtain ⟨ns, ens⟩ : ∃ ns, ns = nearF ((xn : Nat) : Int) D := ⟨_, rfl⟩
    have eb : besB D Rs ((xn : Nat) : Int) = ns.any fun y => decide (y ∈ Rs) := by rw [ens]; rfl
    rw [← ens] at nl hq
    rw [eb] at ret
    refine ⟨⟨_, SqL.of hq⟩, gc_list (fun _ v (b : Bool) => v = V.bl b) (fun _ _ _ _ h _ => h) (fun j => ns[j]?.bind fun y => some (decide (y ∈ Rs))) hq (by rw [List.length_map]; omega) (fun j x Hx A B gx sx hA hB => ?_) fun o ys H2 s2 no ho pr => ?_⟩
    · rw [List.getElem?_map] at gx
      cases e : ns[j]? with
      | none => rw [e] at gx; cases gx
      | some y =>
        rw [e] at gx hA
        have ex : V.int y = x := Option.some.inj gx
        subst ex
        walk_at "rd"
        rw [if_pos trivial]
        refine ⟨t, Rs.map V.int, rfl, .inr (SqT.of (sx _ _ (s1 _ _ ht))), rfl, flI _, ?_⟩
        rw [inI, if_neg (by decide)]
        exact hA _ _ Hx rfl (Same.refl _) rfl
    · rw [List.length_map, fm_range (L := ns) (fun y => some (decide (y ∈ Rs))), List.filterMap_eq_map'] at pr
      have ey := bl_map (H := H2) pr
      subst ey
      refine ⟨o, _, rfl, SqL.of ho, ?_⟩
      have e2 : (ns.map fun y => decide (y ∈ Rs)).any id = ns.any fun y => decide (y ∈ Rs) := by rw [List.any_map]; rfl
      rw [e2]
      exact ret H2 (s1.trans s2)
theorem scPb : FnScope ["house", "inside", "outer", "word", "tops", "_", "rooms", "x", "z"] ["house", "inside", "outer"] (defScope sPb) := ⟨rfl, rfl, rfl, by decide +kernel, rfl, by decide +kernel, by decide +kernel⟩
def pairB (D : List Pr) (bi bo : Blk) : List Pr := match bi.w with
  | none => []
  | some w => if bo.w = some w then [] else bo.t.flatMap fun x => if besB D (rmsB bi) x = true then bi.t.map fun z => ((z, x) : Pr) else []
def spPb (C : Addr) : Sp := fun vs H Q _ => ∃ (p : Addr) (vi vo : V) (r : Nat) (D : List Pr) (own : List Addr) (bi bo : Blk), vs = [.ref p, vi, vo] ∧ HouseAt C H p r D own ∧ IsB H vi bi ∧ IsB H vo bo ∧ (preF 13 [bi]).length ≤ 1000 ∧ (rmsB bi).length ≤ 60 ∧ bi.t.length ≤ 12 ∧ bo.t.length ≤ 12 ∧ (∀ x ∈ bo.t, 0 ≤ x ∧ x < (r : Int)) ∧
  ∀ ws t H', Same H H' → H t = none → H' t = some (.lst ws) → PL H' ws (pairB D bi bo) → Q (.ref t) H'
theorem ok_pb {f C f1 f2 : Addr} {fd fd1 fd2 : FuncData} (F : Fun K "pairs_between" "pairs_between" sPb f fd) (T : Bi mg) (d_block_rooms : Df P w K mg base "block_rooms" ["block"] 16 spBrm f1 fd1) (d_is_beside : Df P w K mg base "is_beside" ["house", "room", "rooms"] 2 (spIb C) f2 fd2) : FnOk P w K mg base CX0 17 f fd ["house", "inside", "outer"] (spPb C) := by
  refine F.ok scPb (fun vs H Q E h => ?_) (fun cdv A0 outer s H vs Q E hr h => ?_)
  · obtain ⟨p, vi, vo, r, D, own, bi, bo, rfl, _⟩ := h
    rfl
  · obtain ⟨p, vi, vo, r, D, own, bi, bo, rfl, hh, ii, io, pl, rl, il, ol, ob, ret⟩ := h
    refine ⟨_, (pss_cons (ps_asg (pv 1) (pg_tup rfl (pgs_cons (pg_name (i := 3) scPb.nd rfl (Or.inl rfl)) (pgs_cons (pg_name (i := 4) scPb.nd rfl (Or.inr rfl)) (pgs_cons (pg_name (i := 5) scPb.nd rfl (Or.inl rfl)) pgs_nil)))))
      (pss_cons (ps_if (PW.pt (pw_or (pt_cmpR op_isN (pv 3) pe_non (nomark _)) (pw_or1 (pt_cmpR op_eq (pv 3) (pe_ix ix_tup (pv 2) pe_int (fun _ _ => rfl)) (nomark _)))))
      (pss_one (ps_ret (pe_lst pa_nil)))
      pss_nil)
      (pss_cons (ps_set (i := 6) scPb.nd rfl (Or.inr rfl) (pe_call d_block_rooms.ok (hr.mono (by decide)) (by rfl) d_block_rooms.at_ d_block_rooms.kp d_block_rooms.b .nil pass0 (pa_cons (pv 1) pa_nil)))
      (pss_one (ps_ret (pe_lc2 (own := [("x", 7), ("z", 8)]) (vs1 := [8]) (g := gName 7) (g1 := gName 8) (wi1 := iTup K (tVar 4)) (te := tTup (tCons (tVar 8) (tCons (tVar 7) tNil))) (by rfl) scPb.nd (pi_tup (pe_ix ix_tup (pv 2) pe_int (fun _ _ => rfl))) (blkOk_by (N := ["house", "inside", "outer", "word", "tops", "_", "rooms", "x", "z"]) (sc := defScope sPb) (by decide +kernel)) (by decide) (fun _ _ _ _ _ => pg_name (i := 7) scPb.nd rfl (Or.inl rfl)) (fun _ _ _ _ _ => (pts_one (pt_val (pe_call d_is_beside.ok (hr.mono (by decide)) (by rfl) d_is_beside.at_ d_is_beside.kp d_is_beside.b .nil pass0 (pa_cons (pv 0) (pa_cons (pv 7) (pa_cons (pv 6) pa_nil))))))) (fun _ _ _ _ _ => (pi_tup (pv 4))) (fun _ _ _ _ _ => pg_name (i := 8) scPb.nd rfl (Or.inl rfl)) (fun _ _ _ _ _ => pts_nil) (fun _ _ _ _ _ => (pe_tup (pa_cons (pv 8) (pa_cons (pv 7) pa_nil)))))))))), ?_⟩
    obtain ⟨ta, tt, ti, us, rfl, k1, k2, k3, k4, k5⟩ := id ii.ex
    obtain ⟨oa, ot, oi, os, rfl, o1, o2, o3, o4, o5⟩ := id io.ex
    walk_at "rd"
    refine ⟨_, SqT.of k1, rfl, _, _, rfl, _, _, rfl, _, _, rfl, rfl, ?_⟩
    have nothing : pairB D bi bo = [] → 0 ≤ sizeLine ∧ ∀ q : Addr, H q = none → Q (V.ref q) (upd H q (HO.lst [])) := fun e => ⟨Nat.zero_le _, fun q nq => ret [] q _ (same_upd nq) nq upd_same (by rw [e]; exact .nil)⟩
    cases hw : bi.w with
    | none =>
      rw [if_pos (show optS none = V.non from rfl), if_pos True.intro]
      exact nothing (by unfold pairB; rw [hw])
    | some z =>
      rw [if_neg (show ¬ optS (some z) = V.non from fun q => by cases q)]
      refine ⟨_, SqT.of o1, _, atI_nat (j := 0) rfl, optS_scal (some z) bo.w, _, rfl, ?_⟩
      by_cases c1 : bo.w = some z
      · rw [show decide (optS (some z) = optS bo.w) = true from decide_eq_true (by rw [c1])]
        refine iteT ?_
        exact nothing (by unfold pairB; rw [hw]; exact if_pos c1)
      · rw [show decide (optS (some z) = optS bo.w) = false from decide_eq_false fun q => c1 (optS_inj q).symm]
        refine iteF ?_
        obtain ⟨G, hG⟩ : ∃ G : Int → List Pr, G = fun x => if besB D (rmsB bi) x = true then bi.t.map fun z => ((z, x) : Pr) else [] := ⟨_, rfl⟩
        have eP : pairB D bi bo = bo.t.flatMap G := by
          unfold pairB
          rw [hw, hG]
          exact if_neg c1
        rw [eP] at ret
        refine ⟨.ref ta, bi, rfl, ii, pl, rl, fun ys tr H1 pm _ s1 ntr htr => ?_⟩
        refine lc2W ?_
        walk_at "rd"
        have o1x := s1 _ _ o1
        have o2x := s1 _ _ o2
        refine ⟨.ref oa, rfl, oa, _, 1, .ref ot, rfl, rfl, SqT.of o1x, rfl, ot, rfl, ⟨_, SqT.of o2x⟩, ?_⟩
        intro D0 nD
        have Gl : ∀ x, (G x).length ≤ 12 := fun x => by
          rw [hG]
          show (if _ then _ else _ : List Pr).length ≤ 12
          split
          · rw [List.length_map]
            exact il
          · exact Nat.zero_le _
        have GL : ∀ l : List Int, (l.flatMap G).length ≤ 12 * l.length := fun l => by
          induction l with
          | nil => exact Nat.zero_le _
          | cons x l ih =>
            rw [List.flatMap_cons, List.length_append, List.length_cons]
            have := Gl x
            omega
        refine ⟨fun j m Hx => m = bo.t.length - j ∧ j ≤ bo.t.length ∧ Same H1 Hx ∧ ∃ ws, Hx D0 = some (.lst ws) ∧ PL Hx ws ((bo.t.take j).flatMap G), ⟨_, rfl, Nat.zero_le _, same_upd nD, [], upd_same, .nil⟩, ?_⟩
        rintro j mm Hx ⟨rfl, hj, sx, ws, hD, pw⟩
        have o2y := sx _ _ o2x
        by_cases lt : j < bo.t.length
        · obtain ⟨x, ex⟩ : ∃ x, bo.t[j]? = some x := ⟨_, List.getElem?_eq_getElem lt⟩
          have xm : x ∈ bo.t := List.mem_of_getElem? ex
          have tk : bo.t.take (j + 1) = bo.t.take j ++ [x] := by rw [List.take_add_one, ex]; rfl
          have wl := pw.len
          have wl2 := GL (bo.t.take j)
          have tl2 : (bo.t.take j).length ≤ 12 := by rw [List.length_take]; omega
          refine .inr ⟨⟨_, .int x, SqT.of o2y, by rw [List.getElem?_map, ex]; rfl⟩, fun H' => Same H1 H' ∧ ∃ ws, H' D0 = some (.lst ws) ∧ PL H' ws ((bo.t.take (j + 1)).flatMap G), fun H' q => ⟨_, by omega, rfl, lt, q.1, q.2⟩, ?_⟩
          rintro v' H' ⟨rfl, ev⟩
          have e2 := ev _ (SqT.of o2y)
          rw [List.getElem?_map, ex] at e2
          have e3 : V.int x = v' := Option.some.inj e2
          subst e3
          rw [tk, List.flatMap_append, List.flatMap_cons, List.flatMap_nil, List.append_nil]
          obtain ⟨x0, xr⟩ := ob x xm
          refine ⟨rfl, ?_⟩
          simp only [wipe]
          walk_at "rd"
          refine ⟨p, tr, x, r, D, own, ys, rfl, hh.same (s1.trans sx), x0, xr, sx _ _ htr, fun H2 s2 => ⟨_, rfl, ?_⟩⟩
          have eb : besB D ys x = besB D (rmsB bi) x := by
            unfold besB
            congr 1
            funext y
            rw [decide_eq_decide]
            exact pm.mem_iff
          rw [eb]
          have hD2 := s2 _ _ hD
          have pw2 := pw.kt (KT.same s2)
          have s02 := sx.trans s2
          by_cases cb : besB D (rmsB bi) x = true
          · have eG : G x = bi.t.map fun z => ((z, x) : Pr) := by rw [hG]; exact if_pos cb
            rw [if_pos cb, eG]
            have k2x := s2 _ _ (sx _ _ (s1 _ _ k2))
            obtain ⟨A0, eA0⟩ : ∃ A0, A0 = (bo.t.take j).flatMap G := ⟨_, rfl⟩
            rw [← eA0] at pw2 wl2 wl ⊢
            have k2H := s1 _ _ k2
            refine ⟨.ref tt, rfl, tt, rfl, ⟨_, SqT.of k2x⟩, ?_⟩
            refine ⟨fun k m Hy => m = bi.t.length - k ∧ k ≤ bi.t.length ∧ Same H1 Hy ∧ ∃ ws, Hy D0 = some (.lst ws) ∧ PL Hy ws (A0 ++ (bi.t.take k).map fun z => ((z, x) : Pr)), ⟨_, rfl, Nat.zero_le _, s02, ws, hD2, by rw [List.take_zero, List.map_nil, List.append_nil]; exact pw2⟩, ?_⟩
            rintro k mk Hy ⟨rfl, hk, sy, ws2, hDy, pwy⟩
            have k2y := sy _ _ k2H
            by_cases lk : k < bi.t.length
            · obtain ⟨u, eu⟩ : ∃ u, bi.t[k]? = some u := ⟨_, List.getElem?_eq_getElem lk⟩
              have tk2 : bi.t.take (k + 1) = bi.t.take k ++ [u] := by rw [List.take_add_one, eu]; rfl
              refine .inr ⟨⟨_, .int u, SqT.of k2y, by rw [List.getElem?_map, eu]; rfl⟩, fun H' => Same H1 H' ∧ ∃ ws, H' D0 = some (.lst ws) ∧ PL H' ws (A0 ++ (bi.t.take (k + 1)).map fun z => ((z, x) : Pr)), fun H' q => ⟨_, by omega, rfl, lk, q.1, q.2⟩, ?_⟩
              rintro x2 H3 ⟨rfl, ev2⟩
              have e3 := ev2 _ (SqT.of k2y)
              rw [List.getElem?_map, eu] at e3
              have e4 : V.int u = x2 := Option.some.inj e3
              subst e4
              rw [if_pos trivial]
              refine ⟨by decide, fun q nq => ?_⟩
              have s5 := same_upd (o := HO.tup [V.int u, V.int x]) nq
              have hq := upd_same (H := H3) (a := q) (o := HO.tup [V.int u, V.int x])
              generalize upd H3 q (HO.tup [V.int u, V.int x]) = H5 at s5 hq ⊢
              have hD5 := s5 _ _ hDy
              have l2 := pwy.len
              have l3 : (bi.t.take k).length ≤ 12 := by rw [List.length_take]; omega
              refine ⟨ws2, hD5, len_big (by rw [l2, List.length_append, List.length_map]; omega), same_ch (sy.trans s5) nD, ws2 ++ [.ref q], upd_same, ?_⟩
              have kt : KT H5 (upd H5 D0 (HO.lst (ws2 ++ [.ref q]))) := KT.lst hD5
              rw [tk2, List.map_append, ← List.append_assoc]
              exact PL.snoc ((pwy.kt (KT.same s5)).kt kt) ⟨q, rfl, kt _ _ hq⟩
            · refine .inl ⟨⟨_, SqT.of k2y, by rw [List.length_map]; omega⟩, sy, ws2, hDy, ?_⟩
              have et : bi.t.take k = bi.t := List.take_of_length_le (by omega)
              rw [et] at pwy
              exact pwy
          · have eG : G x = [] := by rw [hG]; exact if_neg cb
            rw [if_neg cb, eG, List.append_nil]
            exact ⟨s02, ws, hD2, pw2⟩
        · refine .inl ⟨⟨_, SqT.of o2y, by rw [List.length_map]; omega⟩, ?_⟩
          have et : bo.t.take j = bo.t := List.take_of_length_le (by omega)
          rw [et] at pw
          exact ret ws D0 Hx (s1.trans sx) (s1.free nD) hD pw
theorem blk_facts {D : List Pr} {L : List Cl} {k r : Nat} {P : List Int} (r12 : r ≤ 12) (nd : P.Nodup) (sub : ∀ x ∈ P, x ∈ rg r) : (preF 13 [blkP D L k P]).length ≤ 1000 ∧ (rmsB (blkP D L k P)).length ≤ 12 ∧ (blkP D L k P).t.length ≤ 12 ∧ (∀ x ∈ (blkP D L k P).t, 0 ≤ x ∧ x < (r : Int)) ∧ (preF 13 (blkP D L k P).i).length ≤ 12 ∧ ∀ b ∈ preF 13 (blkP D L k P).i, ∃ k' P', b = blkP D L k' P' ∧ P'.Nodup ∧ ∀ x ∈ P', x ∈ rg r := by
  have pl : P.length ≤ r := by
    have := int_sub_len2 nd sub
    rw [rg_len] at this
    exact this
  obtain ⟨h1, h2⟩ := rms_of (D := D) (L := L) (k := k) nd
  have tsub : ∀ x ∈ (blkP D L k P).t, x ∈ rmsB (blkP D L k P) := fun x hx => by
    rw [rmsB_eq]
    exact List.mem_append_left _ hx
  have tl : (blkP D L k P).t.length ≤ (rmsB (blkP D L k P)).length := by
    rw [rmsB_eq, List.length_append]
    omega
  have inner : (preF 13 (blkP D L k P).i).length ≤ 12 ∧ (preF 12 (blkP D L k P).i).length ≤ 12 ∧ ∀ b ∈ preF 13 (blkP D L k P).i, ∃ k' P', b = blkP D L k' P' ∧ P'.Nodup ∧ ∀ x ∈ P', x ∈ rg r := by
    cases e : wordP L P with
    | none =>
      rw [blkP_none e, show (Blk.mk none P []).i = [] from rfl, preF_nil, preF_nil]
      exact ⟨Nat.zero_le _, Nat.zero_le _, fun b hb => by cases hb⟩
    | some w =>
      have ei : (blkP D L k P).i = blkF D L k (P.filter fun x => decide (x ∉ keepL D L 12 P)) := by rw [blkP_some e]; rfl
      rw [ei]
      have h3 := List.length_filter_le (fun x => decide (x ∉ keepL D L 12 P)) P
      have h4 := (pre_rlen (D := D) (L := L) 13 k (P.filter fun x => decide (x ∉ keepL D L 12 P))).2
      have h5 := (pre_rlen (D := D) (L := L) 12 k (P.filter fun x => decide (x ∉ keepL D L 12 P))).2
      refine ⟨by omega, by omega, fun b hb => ?_⟩
      obtain ⟨k', P', e1, e2, e3⟩ := pre_of 13 k _ b hb
      exact ⟨k', P', e1, e2, fun x hx => sub x (List.mem_filter.mp (e3 x hx)).1⟩
  refine ⟨?_, by omega, by omega, fun x hx => rg_bd x (sub x (h1 x (tsub x hx))), inner.1, inner.2.2⟩
  rw [preF_one, List.length_cons]
  have := inner.2.1
  omega
theorem pairB_len {D : List Pr} {bi bo : Blk} (h1 : bi.t.length ≤ 12) (h2 : bo.t.length ≤ 12) : (pairB D bi bo).length ≤ 144 := by
  unfold pairB
  cases bi.w with
  | none => exact Nat.zero_le _
  | some w =>
    show (if _ then _ else _ : List Pr).length ≤ 144
    split
    · exact Nat.zero_le _
    · have : ∀ l : List Int, (l.flatMap fun x => if besB D (rmsB bi) x = true then bi.t.map fun z => ((z, x) : Pr) else []).length ≤ 12 * l.length := fun l => by
        induction l with
        | nil => exact Nat.zero_le _
        | cons x l ih =>
          rw [List.flatMap_cons, List.length_append, List.length_cons]
          have : (if besB D (rmsB bi) x = true then bi.t.map fun z => ((z, x) : Pr) else []).length ≤ 12 := by
            split
            · rw [List.length_map]
              exact h1
            · exact Nat.zero_le _
          omega
      have := this bo.t
      omega
theorem scFrp : FnScope ["house", "form", "pairs", "outer", "inside"] ["house", "form"] (defScope sFrp) := ⟨rfl, rfl, rfl, by decide +kernel, rfl, by decide +kernel, by decide +kernel⟩
def pairsF (D : List Pr) (bs : List Blk) : List Pr := (preF 13 bs).flatMap fun bo => (preF 13 bo.i).flatMap fun bi => pairB D bi bo
def spFrp (C : Addr) : Sp := fun vs H Q _ => ∃ (p : Addr) (v : V) (r : Nat) (D : List Pr) (own : List Addr) (L : List Cl), vs = [.ref p, v] ∧ HouseAt C H p r D own ∧ FormAt H 12 v (formF D r L) ∧
  ∀ ws E t H', Same H H' → H t = none → H' t = some (.lst ws) → PL H' ws E → E.Perm (pairsF D (formF D r L)) → E.Pairwise (fun a b => SrtO.lexB b a = false) → Q (.ref t) H'
theorem ok_frp {f C f1 f2 : Addr} {fd fd1 fd2 : FuncData} (F : Fun K "forced_pairs" "forced_pairs" sFrp f fd) (T : Bi mg) (d_blocks : Df P w K mg base "blocks" ["form"] 15 (spBlc 13) f1 fd1) (d_pairs_between : Df P w K mg base "pairs_between" ["house", "inside", "outer"] 17 (spPb C) f2 fd2) : FnOk P w K mg base CX0 18 f fd ["house", "form"] (spFrp C) := by
  refine F.ok scFrp (fun vs H Q E h => ?_) (fun cdv A0 outer s H vs Q E hr h => ?_)
  · obtain ⟨p, v, r, D, own, L, rfl, _⟩ := h
    rfl
  · obtain ⟨p, v, r, D, own, L, rfl, hh, fm, ret⟩ := h
    refine ⟨_, (pss_cons (ps_set (i := 2) scFrp.nd rfl (Or.inl rfl) (pe_lst pa_nil))
      (pss_cons (ps_for PassesOwn.never rfl (pi_list (pe_call d_blocks.ok (hr.mono (by decide)) (by rfl) d_blocks.at_ d_blocks.kp d_blocks.b .nil pass0 (pa_cons (pv 1) pa_nil))) (pg_name (i := 3) scFrp.nd rfl (Or.inl rfl))
      (pss_one (ps_for PassesOwn.never rfl (pi_list (pe_call d_blocks.ok (hr.mono (by decide)) (by rfl) d_blocks.at_ d_blocks.kp d_blocks.b .nil pass0 (pa_cons (pe_ix ix_tup (pv 3) pe_int (fun _ _ => rfl)) pa_nil))) (pg_name (i := 4) scFrp.nd rfl (Or.inl rfl))
        (pss_one (ps_expr (pe_bm PySem.F.plainAttrs_list PySem.F.slot_list_extend PySem.F.type_list_extend mt_extend (pv 2) (pa_cons (pe_call d_pairs_between.ok (hr.mono (by decide)) (by rfl) d_pairs_between.at_ d_pairs_between.kp d_pairs_between.b .nil pass0 (pa_cons (pv 0) (pa_cons (pv 4) (pa_cons (pv 3) pa_nil)))) pa_nil)))))))
      (pss_one (ps_ret (pe_callB cr_sortedPO (by rfl) T.sorted (by decide +kernel) (pa_cons (pv 2) pa_nil)))))), ?_⟩
    walk_at "rd"
    refine ⟨Nat.zero_le _, fun cn ncn => ?_⟩
    have s1 := same_upd (o := HO.lst []) ncn
    have hcn := upd_same (H := H) (a := cn) (o := HO.lst [])
    generalize upd H cn (HO.lst []) = H1 at s1 hcn ⊢
    refine for_iterW ?_
    walk_at "rd"
    have r12 := hh.r12
    obtain ⟨bs, ebs⟩ : ∃ bs, bs = formF D r L := ⟨_, rfl⟩
    have fm13 : FormAt H1 13 v bs := by
      rw [ebs]
      obtain ⟨a, xs, e, h1, h2⟩ := fm.kt (KT.same s1)
      exact ⟨a, xs, e, h1, h2.up (by decide)⟩
    have bok : ∀ b ∈ preF 13 bs, ∃ k' P', b = blkP D L k' P' ∧ P'.Nodup ∧ ∀ x ∈ P', x ∈ rg r := fun b hb => by
      rw [ebs] at hb
      exact pre_of 13 12 _ b hb
    have bl12 : (preF 13 bs).length ≤ 12 := by
      have := (pre_rlen (D := D) (L := L) 13 12 (rg r)).2
      rw [rg_len] at this
      rw [ebs]
      unfold formF
      omega
    rw [← ebs] at ret
    refine ⟨v, bs, rfl, fm13, Nat.le_refl _, by omega, fun bw bt H2 s2 nbt hbt pb => ?_⟩
    obtain ⟨B, eB⟩ : ∃ B, B = preF 13 bs := ⟨_, rfl⟩
    have eAll : pairsF D bs = B.flatMap fun bo => (preF 13 bo.i).flatMap fun bi => pairB D bi bo := by rw [eB]; rfl
    rw [← eB] at pb bok bl12
    rw [eAll] at ret
    obtain ⟨G, hG⟩ : ∃ G : Blk → List Pr, G = fun bo => (preF 13 bo.i).flatMap fun bi => pairB D bi bo := ⟨_, rfl⟩
    rw [← hG] at ret
    have s12 := s1.trans s2
    have ntc : bt ≠ cn := (ne_of_none hcn nbt).symm
    obtain ⟨Pv, hPv⟩ : ∃ Pv : Nat → L2.St → Hp → Prop, Pv = (fun i σ Hx => ∃ (ws : List V) (v3 v4 : Option V), σ = [some (.ref p), some v, some (.ref cn), v3, v4] ∧ Same H Hx ∧ Hx cn = some (.lst ws) ∧ PL Hx ws ((B.take i).flatMap G) ∧ ws.length ≤ 1728 * i ∧ Hx bt = some (.lst bw) ∧ Paired (IsB Hx) bw B) := ⟨_, rfl⟩
    refine ⟨bt, rfl, ⟨_, SqL.of hbt⟩, for_list (K := K) (a := bt) (xs := bw) Pv (by rw [hPv]; exact ⟨[], none, none, rfl, s12, s2 _ _ hcn, .nil, Nat.le_refl _, hbt, pb⟩) (fun i σ Hx _ pv => by rw [hPv] at pv; obtain ⟨_, _, _, _, _, _, _, _, h, _⟩ := pv; exact SqL.of h) (fun i x σ Hx gv pv => ?_) (fun σ Hx pv => ?_)⟩
    rotate_left
    · rw [hPv] at pv
      obtain ⟨ws, v3, v4, rfl, sx, hc, pw, wl, _, _⟩ := pv
      have bwl := Paired.length pb
      rw [bwl, List.take_length] at pw
      walk_at "rd"
      obtain ⟨k1, k2⟩ := pw.toK
      refine ⟨cn, ws, kH Hx, rfl, SqL.of hc, k2, fun ys t so st nt => ?_⟩
      have pmy := st.perm
      have hy : ∀ v ∈ ys, IsP Hx v (kH Hx v) := fun v hv => k2 v (pmy.mem_iff.mp hv)
      refine ret ys (ys.map (kH Hx)) t _ (sx.trans (same_upd nt)) (sx.free nt) upd_same ((PL.ofK hy).kt (KT.new nt)) ?_ (List.pairwise_map.mpr (List.Pairwise.imp (fun {x y} h => h) so))
      rw [k1]
      exact pmy.map _
    rw [hPv] at pv
    obtain ⟨ws, v3, v4, rfl, sx, hc, pw, wl, hbx, pbx⟩ := pv
    obtain ⟨bo, gbo, ibo⟩ := lget pbx gv
    have il := (List.getElem?_eq_some_iff.mp gbo).1
    obtain ⟨k0, P0, e0, nd0, sub0⟩ := bok bo (List.mem_of_getElem? gbo)
    have fo := blk_facts (D := D) (L := L) (k := k0) r12 nd0 sub0
    rw [← e0] at fo
    obtain ⟨oa, ot, oi, os, rfl, o1, o2, o3, o4, o5⟩ := id ibo.ex
    have tk : B.take (i + 1) = B.take i ++ [bo] := by rw [List.take_add_one, gbo]; rfl
    refine for_iterW ?_
    walk_at "rd"
    have fi13 : FormAt Hx 13 (.ref oi) bo.i := ⟨oi, os, rfl, o4, o5.up (by decide)⟩
    refine ⟨_, SqT.of o1, _, atI_nat (j := 2) rfl, .ref oi, bo.i, rfl, fi13, Nat.le_refl _, by have := fo.2.2.2.2.1; omega, fun iw it H3 s3 nit hit pbi => ?_⟩
    obtain ⟨J, eJ⟩ : ∃ J, J = preF 13 bo.i := ⟨_, rfl⟩
    have eG : G bo = J.flatMap fun bi => pairB D bi bo := by rw [hG, eJ]
    have foi := fo.2.2.2.2
    rw [← eJ] at pbi foi
    have iwl := Paired.length pbi
    have wl0 : ws.length ≤ 1728 * 12 := by omega
    have hc3 := s3 _ _ hc
    have nic : it ≠ cn := (ne_of_none hc nit).symm
    have pw3 := pw.kt (KT.same s3)
    have ibo3 := ibo.kt (KT.same s3)
    have hbx3 := s3 _ _ hbx
    have pbx3 : Paired (IsB H3) bw B := Paired.mapP pbx fun v b h => h.kt (KT.same s3)
    have sx3 := sx.trans s3
    obtain ⟨Pw, hPw⟩ : ∃ Pw : Nat → L2.St → Hp → Prop, Pw = (fun k σ Hy => ∃ (ws2 : List V) (v4 : Option V), σ = [some (.ref p), some v, some (.ref cn), some (.ref oa), v4] ∧ Same H Hy ∧ Hy cn = some (.lst ws2) ∧ PL Hy ws2 ((B.take i).flatMap G ++ (J.take k).flatMap fun bi => pairB D bi bo) ∧ ws2.length ≤ ws.length + 144 * k ∧ Hy bt = some (.lst bw) ∧ Paired (IsB Hy) bw B ∧ Hy it = some (.lst iw) ∧ Paired (IsB Hy) iw J ∧ IsB Hy (.ref oa) bo) := ⟨_, rfl⟩
    refine ⟨it, rfl, ⟨_, SqL.of hit⟩, for_list (K := K) (a := it) (xs := iw) Pw (by rw [hPw]; exact ⟨ws, v4, rfl, sx3, hc3, by rw [List.take_zero, List.flatMap_nil, List.append_nil]; exact pw3, Nat.le_refl _, hbx3, pbx3, hit, pbi, ibo3⟩) (fun k σ Hy _ pv => by rw [hPw] at pv; obtain ⟨_, _, _, _, _, _, _, _, _, h, _⟩ := pv; exact SqL.of h) (fun k y σ Hy gy pv => ?_) (fun σ Hy pv => ?_)⟩
    rotate_left
    · rw [hPw] at pv
      obtain ⟨ws2, v4', rfl, sy, hcy, pwy, wly, hby, pby, _, _, _⟩ := pv
      rw [iwl, List.take_length, ← eG] at pwy
      rw [hPv]
      refine ⟨ws2, _, _, rfl, sy, hcy, ?_, by have := foi.1; omega, hby, pby⟩
      rw [tk, List.flatMap_append, List.flatMap_cons, List.flatMap_nil, List.append_nil]
      exact pwy
    rw [hPw] at pv
    obtain ⟨ws2, v4', rfl, sy, hcy, pwy, wly, hby, pby, hiy, pjy, iboy⟩ := pv
    obtain ⟨bi, gbi, ibi⟩ := lget pjy gy
    have kl := (List.getElem?_eq_some_iff.mp gy).1
    obtain ⟨k1, P1, e1, nd1, sub1⟩ := foi.2 bi (List.mem_of_getElem? gbi)
    have fi := blk_facts (D := D) (L := L) (k := k1) r12 nd1 sub1
    rw [← e1] at fi
    have tkj : J.take (k + 1) = J.take k ++ [bi] := by rw [List.take_add_one, gbi]; rfl
    walk_at "rd"
    refine ⟨.inl ⟨rfl, _, SqL.of hcy⟩, p, y, .ref oa, r, D, own, bi, bo, rfl, hh.same sy, ibi, iboy, fi.1, by have := fi.2.1; omega, fi.2.2.1, fo.2.2.1, fo.2.2.2.1, fun w3 t3 H4 s4 nt3 ht3 p3 => ?_⟩
    have hc4 := s4 _ _ hcy
    have w3l : w3.length ≤ 144 := by rw [p3.len]; exact pairB_len fi.2.2.1 fo.2.2.1
    refine ⟨_, rfl, _, hc4, _, ht3, Nat.le_of_lt (len_big (by have := foi.1; omega)), ?_⟩
    have kt : KT H4 (upd H4 cn (HO.lst (ws2 ++ w3))) := KT.lst hc4
    have ktl : ∀ b : Addr, b ≠ cn → ∀ o, H4 b = some o → upd H4 cn (HO.lst (ws2 ++ w3)) b = some o := fun b nb o h => by rw [upd_ne nb]; exact h
    rw [hPw]
    refine ⟨ws2 ++ w3, _, rfl, same_ch (sy.trans s4) ncn, upd_same, ?_, by rw [List.length_append]; omega, ktl _ ntc _ (s4 _ _ hby), Paired.mapP pby fun v b h => (h.kt (KT.same s4)).kt kt, ktl _ nic _ (s4 _ _ hiy), Paired.mapP pjy fun v b h => (h.kt (KT.same s4)).kt kt, (iboy.kt (KT.same s4)).kt kt⟩
    rw [tkj, List.flatMap_append, List.flatMap_cons, List.flatMap_nil, List.append_nil, ← List.append_assoc]
    exact paired_append ((pwy.kt (KT.same s4)).kt kt) (p3.kt kt)
end

/-! ### pairs between blocks: theory -/
def Gx (D : List Pr) (bi bo : Blk) (x : Int) : List Pr := if besB D (rmsB bi) x = true ∧ bi.w ≠ none ∧ bi.w ≠ bo.w then bi.t.map fun z => ((z, x) : Pr) else []

theorem flat_nil {α β : Type} {f : α → List β} : ∀ l : List α, (∀ a ∈ l, f a = []) → l.flatMap f = []
  | [], _ => rfl
  | a :: l, h => by
    rw [List.flatMap_cons, h a List.mem_cons_self, flat_nil l fun b hb => h b (List.mem_cons_of_mem _ hb)]
    rfl

theorem pairB_eq (D : List Pr) (bi bo : Blk) : pairB D bi bo = bo.t.flatMap (Gx D bi bo) := by
  unfold pairB Gx
  cases e : bi.w with
  | none => exact (flat_nil _ fun x _ => if_neg fun h => h.2.1 rfl).symm
  | some z =>
    by_cases c : bo.w = some z
    · refine Eq.trans (if_pos c) ?_
      exact (flat_nil _ fun x _ => if_neg fun h => h.2.2 c.symm).symm
    · refine Eq.trans (if_neg c) ?_
      congr 1
      funext x
      by_cases d : besB D (rmsB bi) x = true
      · rw [if_pos d, if_pos ⟨d, ⟨(fun q => nomatch q), (fun q => c q.symm)⟩⟩]
      · rw [if_neg d, if_neg fun h => d h.1]

theorem Gx_len {D : List Pr} {bi bo : Blk} {x : Int} (h : bi.t.length ≤ 12) : (Gx D bi bo x).length ≤ 12 := by
  unfold Gx
  split
  · rw [List.length_map]
    exact h
  · exact Nat.zero_le _

theorem srt_uniq {A B : List Pr} (p : A.Perm B) (h : A.Pairwise fun a b => SrtO.lexB b a = false) (k : B.Pairwise fun a b => SrtO.lexB b a = false) : A = B := by
  refine List.Perm.eq_of_pairwise (fun a b _ _ h1 h2 => ?_) h k p
  have h1 := SrtO.lexB_no.mp h1
  have h2 := SrtO.lexB_no.mp h2
  apply Prod.ext <;> omega

theorem pairsF_len {D : List Pr} {L : List Cl} {r : Nat} (r12 : r ≤ 12) : (pairsF D (formF D r L)).length ≤ 20736 := by
  have key : ∀ {α : Type} (l : List α) (f : α → List Pr) (n : Nat), (∀ a ∈ l, (f a).length ≤ n) → (l.flatMap f).length ≤ n * l.length := fun l f n h => by
    induction l with
    | nil => exact Nat.zero_le _
    | cons a l ih =>
      rw [List.flatMap_cons, List.length_append, List.length_cons, Nat.mul_succ]
      have h1 := h a List.mem_cons_self
      have h2 := ih fun b hb => h b (List.mem_cons_of_mem _ hb)
      omega
  have bl12 : (preF 13 (formF D r L)).length ≤ 12 := by
    have := (pre_rlen (D := D) (L := L) 13 12 (rg r)).2
    rw [rg_len] at this
    unfold formF
    omega
  unfold pairsF
  refine Nat.le_trans (key _ _ 1728 fun bo hbo => ?_) (by omega)
  obtain ⟨k', P', e1, e2, e3⟩ := pre_of 13 12 _ bo hbo
  have f1 := blk_facts (D := D) (L := L) (k := k') r12 e2 e3
  rw [← e1] at f1
  refine Nat.le_trans (key _ _ 144 fun bi hbi => ?_) (by have := f1.2.2.2.2.1; omega)
  obtain ⟨k2, P2, e4, e5, e6⟩ := f1.2.2.2.2.2 bi hbi
  have f2 := blk_facts (D := D) (L := L) (k := k2) r12 e5 e6
  rw [← e4] at f2
  exact pairB_len f2.2.2.1 f1.2.2.1


/-! ### _law_block_rooms -/
abbrev sLbr : Stmt := topS 36
def rmN (n : Nat) (b : Blk) : List Int := b.t ++ (preF n b.i).flatMap Blk.t
theorem rmN_12 (b : Blk) : rmN 12 b = rmsB b := (rmsB_eq b).symm
theorem pre_succ (n : Nat) (bs : List Blk) : (preF (n + 1) bs).flatMap Blk.t = bs.flatMap (rmN n) := by
  show (bs.flatMap fun b => b :: preF n b.i).flatMap Blk.t = _
  rw [List.flatMap_assoc]
  rfl
section
variable {P : Program} {w : World} {K : PySem.W.Frag} {mg : Str → Option Value} {base : Heap}
theorem scLbr : FnScope ["block", "rooms", "inner"] ["block"] (defScope sLbr) := ⟨rfl, rfl, rfl, by decide +kernel, rfl, by decide +kernel, by decide +kernel⟩
def spLbr (n : Nat) : Sp := fun vs H Q _ => ∃ (v : V) (b : Blk), vs = [v] ∧ BlkV H (BlksAt H n) v b ∧ (rmN n b).length ≤ 60 ∧ ∀ (ys : List Int) t H', ys.Perm (rmN n b) → ys.Pairwise (· ≤ ·) → Same H H' → H t = none → H' t = some (.lst (ys.map V.int)) → Q (.ref t) H'
theorem ok_lbr {f : Addr} {fd : FuncData} (F : Fun K "_law_block_rooms" "_law_block_rooms" sLbr f fd) (T : Bi mg) (bd : Binds K fd ["block"] []) (hmg : mg "_law_block_rooms" = some (.ref f)) : ∀ n, FnOk P w K mg base CX0 (n + 2) f fd ["block"] (spLbr n) := by
  intro n
  induction n with
  | zero =>
    refine F.ok scLbr (fun vs H Q E h => ?_) (fun cdv A0 outer s H vs Q E hr h => ?_)
    · obtain ⟨v, b, rfl, _⟩ := h
      rfl
    · obtain ⟨v, b, rfl, bv, rl, ret⟩ := h
      obtain ⟨tb, tt, ti, us, rfl, h1, h2, h3, h4, h5⟩ := id bv.ex
      have e1 : us = [] := h5.1
      have e2 : b.i = [] := h5.2
      subst e1
      refine ⟨_, (pss_cons (ps_set (i := 1) scLbr.nd rfl (Or.inl rfl) (pe_callTy call_list_of (by rfl) T.list (by decide +kernel) (pa_cons (pe_ix ix_tup (pv 0) pe_int (fun _ _ => rfl)) pa_nil)))
      (pss_cons (ps_for PassesOwn.never rfl (pi_tup (pe_ix ix_tup (pv 0) pe_int (fun _ _ => rfl))) (pg_name (i := 2) scLbr.nd rfl (Or.inl rfl))
      (pss_one (ps_never)))
      (pss_one (ps_ret (pe_callB cr_sorted (by rfl) T.sorted (by decide +kernel) (pa_cons (pv 1) pa_nil)))))), ?_⟩
      walk_at "rd"
      refine ⟨_, SqT.of h1, _, atI_nat (j := 1) rfl, _, rfl, _, .inr (SqT.of h2), fun cn ncn => ?_⟩
      have s1 := same_upd (o := HO.lst (b.t.map V.int)) ncn
      have hcn := upd_same (H := H) (a := cn) (o := HO.lst (b.t.map V.int))
      generalize upd H cn (HO.lst (b.t.map V.int)) = H1 at s1 hcn ⊢
      refine for_iterW ?_
      unfold iTup
      walk_at "rd"
      refine ⟨_, SqT.of (s1 _ _ h1), _, atI_nat (j := 2) rfl, _, rfl, ⟨_, SqT.of (s1 _ _ h4)⟩, for_tup (K := K) (a := ti) (xs := []) (fun _ σ Hx => σ = [some (.ref tb), some (.ref cn), none] ∧ Hx = H1) ⟨rfl, rfl⟩ (fun i σ Hx _ pv => by rw [pv.2]; exact SqT.of (s1 _ _ h4)) (fun i v σ Hx gv pv => by cases gv) (fun σ Hx pv => ?_)⟩
      obtain ⟨rfl, rfl⟩ := pv
      walk_at "rd"
      have e3 : rmN 0 b = b.t := by unfold rmN; rw [e2, preF_nil, List.flatMap_nil, List.append_nil]
      rw [e3] at rl ret
      refine ⟨cn, _, rfl, SqL.of hcn, by omega, fun ys t pm so nt => ?_⟩
      exact ret ys t _ pm so (s1.trans (same_upd nt)) (s1.free nt) upd_same
  | succ n ih =>
    refine F.ok scLbr (fun vs H Q E h => ?_) (fun cdv A0 outer s H vs Q E hr h => ?_)
    · obtain ⟨v, b, rfl, _⟩ := h
      rfl
    · obtain ⟨v, b, rfl, bv, rl, ret⟩ := h
      obtain ⟨tb, tt, ti, us, rfl, h1, h2, h3, h4, h5⟩ := id bv.ex
      refine ⟨_, (pss_cons (ps_set (i := 1) scLbr.nd rfl (Or.inl rfl) (pe_callTy call_list_of (by rfl) T.list (by decide +kernel) (pa_cons (pe_ix ix_tup (pv 0) pe_int (fun _ _ => rfl)) pa_nil)))
      (pss_cons (ps_for PassesOwn.never rfl (pi_tup (pe_ix ix_tup (pv 0) pe_int (fun _ _ => rfl))) (pg_name (i := 2) scLbr.nd rfl (Or.inl rfl))
      (pss_one (ps_expr (pe_bm PySem.F.plainAttrs_list PySem.F.slot_list_extend PySem.F.type_list_extend mt_extend (pv 1) (pa_cons (pe_call ih hr (by rfl) hmg F.kp bd .nil pass0 (pa_cons (pv 2) pa_nil)) pa_nil)))))
      (pss_one (ps_ret (pe_callB cr_sorted (by rfl) T.sorted (by decide +kernel) (pa_cons (pv 1) pa_nil)))))), ?_⟩
      walk_at "rd"
      refine ⟨_, SqT.of h1, _, atI_nat (j := 1) rfl, _, rfl, _, .inr (SqT.of h2), fun cn ncn => ?_⟩
      have s1 := same_upd (o := HO.lst (b.t.map V.int)) ncn
      have hcn := upd_same (H := H) (a := cn) (o := HO.lst (b.t.map V.int))
      generalize upd H cn (HO.lst (b.t.map V.int)) = H1 at s1 hcn ⊢
      refine for_iterW ?_
      unfold iTup
      walk_at "rd"
      have e3 : rmN (n + 1) b = b.t ++ b.i.flatMap (rmN n) := by unfold rmN; rw [pre_succ]; rfl
      rw [e3] at rl ret
      have bl : BL H1 n us b.i := BL.kt h5.2 (KT.same s1)
      obtain ⟨Pv, hPv⟩ : ∃ Pv : Nat → L2.St → Hp → Prop, Pv = (fun i σ Hx => ∃ (R : List Int) (v2 : Option V), σ = [some (.ref tb), some (.ref cn), v2] ∧ Same H Hx ∧ Hx cn = some (.lst (R.map V.int)) ∧ R.Perm (b.t ++ (b.i.take i).flatMap (rmN n)) ∧ Hx ti = some (.tup us) ∧ BL Hx n us b.i) := ⟨_, rfl⟩
      refine ⟨_, SqT.of (s1 _ _ h1), _, atI_nat (j := 2) rfl, _, rfl, ⟨_, SqT.of (s1 _ _ h4)⟩, for_tup (K := K) (a := ti) (xs := us) Pv (by rw [hPv]; exact ⟨b.t, none, rfl, s1, hcn, by rw [List.take_zero, List.flatMap_nil, List.append_nil], s1 _ _ h4, bl⟩) (fun i σ Hx _ pv => by rw [hPv] at pv; obtain ⟨_, _, _, _, _, _, h, _⟩ := pv; exact SqT.of h) (fun i v σ Hx gv pv => ?_) (fun σ Hx pv => ?_)⟩
      rotate_left
      · rw [hPv] at pv
        obtain ⟨R, v2, rfl, sx, hc, pm, _, _⟩ := pv
        rw [Paired.length bl, List.take_length] at pm
        walk_at "rd"
        refine ⟨cn, _, rfl, SqL.of hc, by rw [pm.length_eq]; omega, fun ys t pm2 so nt => ?_⟩
        exact ret ys t _ (pm2.trans pm) so (sx.trans (same_upd nt)) (sx.free nt) upd_same
      rw [hPv] at pv
      obtain ⟨R, v2, rfl, sx, hc, pm, htx, blx⟩ := pv
      obtain ⟨c, gc, cv⟩ := lget blx gv
      have tk : b.i.take (i + 1) = b.i.take i ++ [c] := by rw [List.take_add_one, gc]; rfl
      have tot : ((b.i.take (i + 1)).flatMap (rmN n)).length ≤ (b.i.flatMap (rmN n)).length := by
        have e : (b.i.flatMap (rmN n)).length = ((b.i.take (i + 1)).flatMap (rmN n)).length + ((b.i.drop (i + 1)).flatMap (rmN n)).length := by
          rw [← List.length_append, ← List.flatMap_append, List.take_append_drop]
        omega
      rw [tk, List.flatMap_append, List.flatMap_cons, List.flatMap_nil, List.append_nil, List.length_append] at tot
      rw [List.length_append] at rl
      have pl := pm.length_eq
      rw [List.length_append] at pl
      walk_at "rd"
      refine ⟨.inl ⟨rfl, _, SqL.of hc⟩, v, c, rfl, cv, by omega, fun ys t H2 pm2 so s2 nt ht => ?_⟩
      have hc2 := s2 _ _ hc
      refine ⟨_, rfl, _, hc2, _, ht, Nat.le_of_lt (len_big (by rw [List.length_map, List.length_map, pm2.length_eq]; omega)), ?_⟩
      have kt : KT H2 (upd H2 cn (HO.lst (R.map V.int ++ ys.map V.int))) := KT.lst hc2
      rw [hPv]
      refine ⟨R ++ ys, _, rfl, same_ch (sx.trans s2) ncn, by rw [upd_same, List.map_append], ?_, kt _ _ (s2 _ _ htx), (blx.kt (KT.same s2)).kt kt⟩
      rw [tk, List.flatMap_append, List.flatMap_cons, List.flatMap_nil, List.append_nil, ← List.append_assoc]
      exact pm.append pm2
end

/-! ### _law_blocks -/
abbrev sLbk : Stmt := topS 37
section
variable {P : Program} {w : World} {K : PySem.W.Frag} {mg : Str → Option Value} {base : Heap}
theorem scLbk : FnScope ["form", "found", "block"] ["form"] (defScope sLbk) := ⟨rfl, rfl, rfl, by decide +kernel, rfl, by decide +kernel, by decide +kernel⟩
theorem ok_lbk {f : Addr} {fd : FuncData} (F : Fun K "_law_blocks" "_law_blocks" sLbk f fd) (T : Bi mg) (bd : Binds K fd ["form"] []) (hmg : mg "_law_blocks" = some (.ref f)) : ∀ n, FnOk P w K mg base CX0 (n + 2) f fd ["form"] (spBlc n) := by
  intro n
  induction n with
  | zero =>
    refine F.ok scLbk (fun vs H Q E h => ?_) (fun cdv A0 outer s H vs Q E hr h => ?_)
    · obtain ⟨v, bs, rfl, _⟩ := h
      rfl
    · obtain ⟨v, bs, rfl, ⟨a, xs, rfl, ha, hx, hb⟩, _, _, ret⟩ := h
      subst hx
      subst hb
      refine ⟨_, (pss_cons (ps_set (i := 1) scLbk.nd rfl (Or.inl rfl) (pe_lst pa_nil))
      (pss_cons (ps_for PassesOwn.never rfl (pi_tup (pv 0)) (pg_name (i := 2) scLbk.nd rfl (Or.inl rfl))
      (pss_cons (ps_expr (pe_bm PySem.F.plainAttrs_list PySem.F.slot_list_append PySem.F.type_list_append mt_append (pv 1) (pa_cons (pv 2) pa_nil)))
        (pss_one (ps_never))))
      (pss_one (ps_ret (pv 1))))), ?_⟩
      walk_at "rd"
      refine ⟨Nat.zero_le _, fun cn ncn => ?_⟩
      have s1 := same_upd (o := HO.lst []) ncn
      have hcn := upd_same (H := H) (a := cn) (o := HO.lst [])
      generalize upd H cn (HO.lst []) = H1 at s1 hcn ⊢
      refine for_iterW ?_
      unfold iTup
      walk_at "rd"
      refine ⟨⟨_, SqT.of (s1 _ _ ha)⟩, for_tup (K := K) (a := a) (xs := []) (fun _ σ Hx => σ = [some (.ref a), some (.ref cn), none] ∧ Hx = H1) ⟨rfl, rfl⟩ (fun i σ Hx _ pv => by rw [pv.2]; exact SqT.of (s1 _ _ ha)) (fun i v σ Hx gv pv => by cases gv) (fun σ Hx pv => ?_)⟩
      obtain ⟨rfl, rfl⟩ := pv
      walk_at "rd"
      exact ret [] cn Hx s1 ncn hcn .nil
  | succ n ih =>
    refine F.ok scLbk (fun vs H Q E h => ?_) (fun cdv A0 outer s H vs Q E hr h => ?_)
    · obtain ⟨v, bs, rfl, _⟩ := h
      rfl
    · obtain ⟨v, bs, rfl, ⟨a, xs, rfl, ha, xl, pb⟩, n13, pl, ret⟩ := h
      refine ⟨_, (pss_cons (ps_set (i := 1) scLbk.nd rfl (Or.inl rfl) (pe_lst pa_nil))
      (pss_cons (ps_for PassesOwn.never rfl (pi_tup (pv 0)) (pg_name (i := 2) scLbk.nd rfl (Or.inl rfl))
      (pss_cons (ps_expr (pe_bm PySem.F.plainAttrs_list PySem.F.slot_list_append PySem.F.type_list_append mt_append (pv 1) (pa_cons (pv 2) pa_nil)))
        (pss_one (ps_expr (pe_bm PySem.F.plainAttrs_list PySem.F.slot_list_extend PySem.F.type_list_extend mt_extend (pv 1) (pa_cons (pe_call ih hr (by rfl) hmg F.kp bd .nil pass0 (pa_cons (pe_ix ix_tup (pv 2) pe_int (fun _ _ => rfl)) pa_nil)) pa_nil))))))
      (pss_one (ps_ret (pv 1))))), ?_⟩
      walk_at "rd"
      refine ⟨Nat.zero_le _, fun cn ncn => ?_⟩
      have s1 := same_upd (o := HO.lst []) ncn
      have hcn := upd_same (H := H) (a := cn) (o := HO.lst [])
      generalize upd H cn (HO.lst []) = H1 at s1 hcn ⊢
      have ha1 := s1 _ _ ha
      have bl1 : BL H1 n xs bs := BL.kt pb (KT.same s1)
      refine for_iterW ?_
      unfold iTup
      walk_at "rd"
      obtain ⟨gB, hgB⟩ : ∃ gB : Blk → List Blk, gB = fun b => b :: preF n b.i := ⟨_, rfl⟩
      have eP : preF (n + 1) bs = bs.flatMap gB := by rw [hgB]; rfl
      rw [eP] at pl ret
      obtain ⟨Pv, hPv⟩ : ∃ Pv : Nat → L2.St → Hp → Prop, Pv = (fun i σ Hx => ∃ (ws : List V) (v2 : Option V), σ = [some (.ref a), some (.ref cn), v2] ∧ Same H Hx ∧ Hx cn = some (.lst ws) ∧ Paired (IsB Hx) ws ((bs.take i).flatMap gB) ∧ Hx a = some (.tup xs) ∧ BL Hx n xs bs) := ⟨_, rfl⟩
      refine ⟨⟨_, SqT.of ha1⟩, for_tup (K := K) (a := a) (xs := xs) Pv (by rw [hPv]; exact ⟨[], none, rfl, s1, hcn, .nil, ha1, bl1⟩) (fun i σ Hx _ pv => by rw [hPv] at pv; obtain ⟨_, _, _, _, _, _, h, _⟩ := pv; exact SqT.of h) (fun i v σ Hx gv pv => ?_) (fun σ Hx pv => ?_)⟩
      rotate_left
      · rw [hPv] at pv
        obtain ⟨ws, v2, rfl, sx, hc, lg, _, _⟩ := pv
        rw [Paired.length pb, List.take_length] at lg
        walk_at "rd"
        exact ret ws cn Hx sx ncn hc lg
      rw [hPv] at pv
      obtain ⟨ws, v2, rfl, sx, hc, lg, hax, blx⟩ := pv
      obtain ⟨b, gb, bv⟩ := lget blx gv
      have ib : IsB Hx v b := BlkV.isB bv (by omega)
      obtain ⟨tb, tt, ti, us, rfl, h1, h2, h3, h4, h5⟩ := bv.ex
      have tk : bs.take (i + 1) = bs.take i ++ [b] := by rw [List.take_add_one, gb]; rfl
      have tot : ((bs.take (i + 1)).flatMap gB).length ≤ 1000 := by
        have e : (bs.flatMap gB).length = ((bs.take (i + 1)).flatMap gB).length + ((bs.drop (i + 1)).flatMap gB).length := by
          rw [← List.length_append, ← List.flatMap_append, List.take_append_drop]
        omega
      rw [tk, List.flatMap_append, List.flatMap_cons, List.flatMap_nil, List.append_nil, List.length_append] at tot
      have egB : gB b = b :: preF n b.i := by rw [hgB]
      rw [egB, List.length_cons] at tot
      have wl := Paired.length lg
      walk_at "rd"
      refine ⟨.inl ⟨rfl, _, SqL.of hc⟩, ws, hc, len_big (by omega), ?_⟩
      have kt1 : KT Hx (upd Hx cn (HO.lst (ws ++ [V.ref tb]))) := KT.lst hc
      have sc1 := same_ch (o := HO.lst (ws ++ [V.ref tb])) sx ncn
      have hc1 := upd_same (H := Hx) (a := cn) (o := HO.lst (ws ++ [V.ref tb]))
      have lg1 : Paired (IsB (upd Hx cn (HO.lst (ws ++ [V.ref tb])))) (ws ++ [V.ref tb]) ((bs.take i).flatMap gB ++ [b]) := Paired.snoc (Paired.mapP lg fun v b h => h.kt kt1) (ib.kt kt1)
      have hax1 := kt1 _ _ hax
      have blx1 := blx.kt kt1
      have h11 := kt1 _ _ h1
      have h41 := kt1 _ _ h4
      have h51 := h5.kt kt1
      generalize upd Hx cn (HO.lst (ws ++ [V.ref tb])) = H2 at sc1 hc1 lg1 hax1 blx1 h11 h41 h51 ⊢
      refine ⟨.inl ⟨rfl, _, SqL.of hc1⟩, ?_⟩
      refine ⟨_, SqT.of h11, _, atI_nat (j := 2) rfl, .ref ti, b.i, rfl, ⟨ti, us, rfl, h41, h51⟩, by omega, by omega, fun w2 t2 H3 s3 nt2 ht2 lg2 => ?_⟩
      have hc3 := s3 _ _ hc1
      have wl2 := Paired.length lg2
      refine ⟨_, rfl, _, hc3, _, ht2, Nat.le_of_lt (len_big (by rw [List.length_append, List.length_singleton]; omega)), ?_⟩
      have kt3 : KT H3 (upd H3 cn (HO.lst (ws ++ [V.ref tb] ++ w2))) := KT.lst hc3
      rw [hPv]
      refine ⟨ws ++ [V.ref tb] ++ w2, _, rfl, same_ch (sc1.trans s3) ncn, upd_same, ?_, kt3 _ _ (s3 _ _ hax1), (blx1.kt (KT.same s3)).kt kt3⟩
      rw [tk, List.flatMap_append, List.flatMap_cons, List.flatMap_nil, List.append_nil, egB]
      have e : (bs.take i).flatMap gB ++ b :: preF n b.i = (bs.take i).flatMap gB ++ [b] ++ preF n b.i := by rw [List.append_assoc]; rfl
      rw [e]
      exact paired_append (Paired.mapP lg1 fun v b h => (h.kt (KT.same s3)).kt kt3) (Paired.mapP lg2 fun v b h => h.kt kt3)
end

/-! ### all but one list stays -/
def Sx (cn : Addr) (H H' : Hp) : Prop := ∀ (b : Addr) (o : HO), b ≠ cn → H b = some o → H' b = some o
theorem Sx.of {cn : Addr} {H H' : Hp} (s : Same H H') : Sx cn H H' := fun b o _ h => s b o h
theorem Sx.refl {cn : Addr} {H : Hp} : Sx cn H H := fun _ _ _ h => h
theorem Sx.trans {cn : Addr} {H H1 H2 : Hp} (a : Sx cn H H1) (b : Sx cn H1 H2) : Sx cn H H2 := fun x o n h => b x o n (a x o n h)
theorem Sx.ch {cn : Addr} {H H' : Hp} {o : HO} (a : Sx cn H H') : Sx cn H (upd H' cn o) := fun x p n h => by
  rw [upd_ne n]
  exact a x p n h
theorem Sx.kt {cn : Addr} {H H' : Hp} {xs : List V} (a : Sx cn H H') (hc : H cn = some (.lst xs)) : KT H H' := fun x ys h => a x _ (fun z => by rw [z, hc] at h; cases h) h
theorem Sx.house {cn C p : Addr} {H H' : Hp} {r : Nat} {D : List Pr} {own : List Addr} {xs : List V} (a : Sx cn H H') (hc : H cn = some (.lst xs)) (h : HouseAt C H p r D own) (n : cn ∉ own) : HouseAt C H' p r D own := h.keep (fun b o hb e => a b o (fun z => n (z ▸ hb)) e) (a.kt hc)

/-! ### sorted(xs, key=len), xs a list of tuples -/
def leN (f : V → Nat) (a b : V) : Bool := decide ((f a : Int) ≤ (f b : Int))
def tSortLen (K : PySem.W.Frag) (te : TE) : TE := fun σ H Q => te σ H fun x H1 => ∃ (a : Addr) (xs : List V) (f : V → Nat), x = .ref a ∧ SqL K H1 a xs ∧ (∀ y ∈ xs, ∃ t ys, y = V.ref t ∧ SqT K H1 t ys ∧ ys.length = f y) ∧
  ∀ p, H1 p = none → Q (.ref p) (upd H1 p (.lst (xs.mergeSort (leN f))))
theorem vals_each : ∀ {xs : List V} {us : List Value}, Vals xs us → PySem.W.EachIs (fun u x => RelV x u) us xs
  | _, _, .nil => .nil
  | _, _, .cons r t => .cons r (vals_each t)
theorem each_vals : ∀ {us : List Value} {xs : List V}, PySem.W.EachIs (fun u x => RelV x u) us xs → Vals xs us
  | _, _, .nil => .nil
  | _, _, .cons r t => .cons r (each_vals t)
theorem pe_sortLen {X : Cx} {te : TE} {e : Expr} {p p2 kpos pos : Pos} (hu : X.A.units + 64 < cLine) (hg : Gl X "sorted") (hm : X.mg "sorted" = none) (hg2 : Gl X "len") (hm2 : X.mg "len" = none) (he : PE X e te)
    (b0 : starEach [e] X.env = (false, eval e X.env) :: starEach [] X.env := by rfl) (b1 : backTo pos (starEach [e] X.env) = (false, eval e X.env) :: backTo pos (starEach [] X.env) := by rfl) (b2 : (backTo pos (starEach [e] X.env)).any (·.1) = false := by rfl) :
    PE X (.Call (.Name "sorted" p) [e] [⟨some "key", .Name "len" p2, kpos⟩] pos) (tSortLen X.K te) := by
  refine ⟨fun pins s σ H Q I h => ?_⟩
  refine wpAny_Call_Name_kw (ld_blt I hg hm boot_sorted ?_)
  refine PyProof.Rows.callWith_kw ?_ b1 b2
  refine thn ((pa_cons he pa_nil b0).run pos pins s σ H (fun vs H1 => match vs with
    | [x] => ∃ (a : Addr) (xs : List V) (f : V → Nat), x = .ref a ∧ SqL X.K H1 a xs ∧ (∀ y ∈ xs, ∃ t ys, y = V.ref t ∧ SqT X.K H1 t ys ∧ ys.length = f y) ∧
    ∀ p, H1 p = none → Q (.ref p) (upd H1 p (.lst (xs.mergeSort (leN f))))
    | _ => False) I h) ?_
  rintro us s1 ⟨vs, H1, I1, r1, hv⟩
  match vs, r1, hv with
  | [x], r1, ⟨a, xs, f, ex, hs, hx, q⟩ => ?_
  subst ex
  obtain ⟨u, rfl, ru⟩ := vals1 r1
  cases ru
  show wpAny _ _ (evalAll [(do let v ← eval (.Name "len" p2) X.env; standAt pos; pure v)]) _ _ _
  refine wpAny_evalAll_cons (wpAny_bind (ld_blt I1 hg2 hm2 boot_len (wpAny_bind (wpAny_standAt (wpAny_pure (wpAny_evalAll_nil ?_))))))
  show wpAny _ _ (call (.builtin "sorted") [.ref a] [(Str.ofString "key", .builtin "len")]) _ _ _
  obtain ⟨its, rv, hl, hz⟩ := I1.list hs
  have each := vals_each rv
  refine PySem.W.sorted_key_data (b := false) (R := fun u x => RelV x u) (bs := xs) (fun x => .int (f x)) hl.isList each (PySem.W.AllAlike.of fun _ _ => by simp [PySem.W.alike]) (PySem.W.Sortable.others fun _ => ⟨by simp, by simp⟩) hz (fun x _ => ?_) (PyProof.Rows.ksk_s1 _ _) (fun _ => PyProof.Rows.ksk_l1 _ _) (fun _ => PyProof.Rows.ksk_t4 _ _) (fun v x rx hxm h tk kp => ?_) (fun out c h' tk kp hn hD _ eo => ?_)
  · show X.A.units + 2 + 0 < cLine
    omega
  · obtain ⟨t, ys, rfl, ht, e⟩ := hx x hxm
    cases (show v = Value.ref t from rx)
    obtain ⟨its2, rv2, ⟨o, ho, hc, n, hd⟩, hz2⟩ := I1.tuple ht
    have hlen := rv2.length
    have hn := line63
    refine PyProof.Rows.len_tuple (items := its2.toArray) ⟨o, kp _ _ ho, hc, n, hd⟩ (by simp only [List.size_toArray] <;> omega) ⟨h, _, rfl, fun _ _ z => z, ?_⟩
    rw [List.size_toArray, ← hlen, e]
    exact .int _ _
  · have hv := each_vals eo
    have ex : xs.mergeSort (PySem.W.dataLe false fun x => PyData.int (f x)) = xs.mergeSort (leN f) := by
      rw [PySem.W.dataLe_int]
      rfl
    rw [ex] at hv
    refine ⟨.ref (s1.heap.objs.size + 1), upd H1 (s1.heap.objs.size + 1) (.lst (xs.mergeSort (leN f))), I1.laid (t' := tk) kp (Nat.le_succ _) ⟨?_, out, c, hv, hD⟩, rfl, q _ (I1.hok.fresh (Nat.le_succ _))⟩
    rw [List.length_mergeSort]
    exact hz
/-! ### sorted(xs), xs a list of data -/
def rSortD (K : PySem.W.Frag) : List V → Hp → VK → Prop := fun vs H Q => ∃ (a : Addr) (xs : List V) (enc : V → PyData), vs = [V.ref a] ∧ SqL K H a xs ∧ (∀ y ∈ xs, Dp K H y (enc y) ∧ (enc y).depth ≤ 8 ∧ ∃ u r, enc y = .tuple (u :: r)) ∧ (∀ x ∈ xs, ∀ y ∈ xs, PySem.W.alike (enc x) (enc y) = true) ∧
  ∀ p, H p = none → Q (.ref p) (upd H p (.lst (xs.mergeSort (PySem.W.dataLe false enc))))
theorem cr_sortD {X : Cx} (hu : X.A.units + 64 < cLine) : CallR X (.builtin "sorted") (rSortD X.K) := by
  intro pins s σ H vs us Q I r h
  obtain ⟨a, xs, enc, rfl, hs, hx, hal, q⟩ := h
  obtain ⟨u, rfl, ru⟩ := vals1 r
  cases ru
  obtain ⟨its, rv, hl, hz⟩ := I.list hs
  have each := vals_each rv
  have er : PySem.W.EachIs (fun v b => ∃ as, PySem.Reads s.heap v (enc b) as) its xs := by
    have key : ∀ {us : List Value} {ys : List V}, PySem.W.EachIs (fun u x => RelV x u) us ys → (∀ y ∈ ys, y ∈ xs) → PySem.W.EachIs (fun v b => ∃ as, PySem.Reads s.heap v (enc b) as) us ys := by
      intro us ys h
      induction h with
      | nil => intro _; exact .nil
      | cons r t ih => intro hm; exact .cons (Dp.reads I _ _ _ (hx _ (hm _ List.mem_cons_self)).1 r) (ih fun y hy => hm y (List.mem_cons_of_mem _ hy))
    exact key each fun y hy => hy
  refine PySem.W.sorted_data (R := fun u x => RelV x u) (enc := enc) (bs := xs) hl.isList each er (fun d hd d' hd' => ?_) (.inl fun d hd => ?_) hz (fun x hxm => ?_) (fun out hol eo => ?_)
  · obtain ⟨x, h1, rfl⟩ := List.mem_map.mp hd
    obtain ⟨y, h2, rfl⟩ := List.mem_map.mp hd'
    exact hal x h1 y h2
  · obtain ⟨x, h1, rfl⟩ := List.mem_map.mp hd
    exact (hx x h1).2.2
  · have := (hx x hxm).2.1
    omega
  · have hv := each_vals eo
    obtain ⟨ep, he⟩ := PyProof.Rows.sortedAll_at s.heap its (List.toArray out)
    refine ⟨.ref (s.heap.objs.size + 1), upd H (s.heap.objs.size + 1) (.lst (xs.mergeSort (PySem.W.dataLe false enc))), I.laid (t' := s.toks) (fun _ _ => PyProof.Rows.sortedAll_old) (Nat.le_succ _) ⟨?_, out, ep, hv, he⟩, rfl, q _ (I.hok.fresh (Nat.le_succ _))⟩
    rw [List.length_mergeSort]
    exact hz

theorem mem_rg {n : Nat} {x : Int} (h0 : 0 ≤ x) (h1 : x < n) : x ∈ rg n := List.mem_map.mpr ⟨x.toNat, List.mem_range.mpr (by omega), by show ((x.toNat : Nat) : Int) = x; omega⟩
/-- rooms that hang together -/
def IsPart (D : List Pr) (r : Nat) (ys : List Int) : Prop := ys ≠ [] ∧ Up ys ∧ (∀ x ∈ ys, 0 ≤ x ∧ x < r) ∧ ∀ x ∈ ys, Rch D ys (hdI ys) x
/-! ### _law_parts, _law_is_parted -/
abbrev sLpr : Stmt := topS 35
/-- comprehension over a list whose results are not to be touched: with the new list's address -/
theorem gc_listD {β : Type} {K : PySem.W.Frag} {a : Addr} {xs : List V} {i : Nat} {tt : TT} {te : TE} {σ : L2.St} {H1 : Hp} {Q : VK} (rel : Addr → Hp → V → β → Prop) (up : ∀ D H H' v b, rel D H v b → (∀ t o, t ≠ D → H t = some o → H' t = some o) → rel D H' v b) (sel : Nat → Option β) (ha : H1 a = some (.lst xs)) (len : xs.length ≤ 100000)
    (step : ∀ (D : Addr) (j : Nat) (x : V) (Hx : Hp) (A : VK) (B : Hp → Prop), xs[j]? = some x → Same H1 Hx → (∃ o, Hx D = some o) → (∀ v b Hy, sel j = some b → Same Hx Hy → rel D Hy v b → A v Hy) → (∀ Hy, sel j = none → Same Hx Hy → B Hy) → tt (σ.set i (some x)) Hx fun c H3 => if c = true then te (σ.set i (some x)) H3 A else B H3)
    (q : ∀ o ys H', Same H1 H' → H1 o = none → H' o = some (.lst ys) → Paired (rel o H') ys ((List.range xs.length).filterMap sel) → Q (.ref o) H') :
    tLc (fun _ H R => R (Itl K a) H) (gName i) tt te [i] σ H1 Q := by
  intro D nD
  obtain ⟨Pv, hPv⟩ : ∃ Pv : Nat → Hp → Prop, Pv = (fun j Hx => ∃ ys, Same H1 Hx ∧ Hx D = some (.lst ys) ∧ Paired (rel D Hx) ys ((List.range j).filterMap sel)) := ⟨_, rfl⟩
  refine lc_list (K := K) (a := a) (xs := xs) Pv (by rw [hPv]; exact ⟨[], same_upd nD, upd_same, Paired.nil⟩) (fun j H' _ pv => by rw [hPv] at pv; obtain ⟨_, sm, _⟩ := pv; exact SqL.of (sm _ _ ha)) (fun j x H' gx pv => ?_) (fun H' pv => ?_)
  · rw [hPv] at pv
    obtain ⟨ys, sm, hD, pr⟩ := pv
    have jl := (List.getElem?_eq_some_iff.mp gx).1
    have yl : ys.length ≤ j := by rw [pr.length]; exact fm_len sel j
    have ew : (wipe σ [i]).set i (some x) = σ.set i (some x) := by show (σ.set i none).set i (some x) = _; rw [List.set_set]
    show wipe ((wipe σ [i]).set i (some x)) [i] = wipe σ [i] ∧ tt ((wipe σ [i]).set i (some x)) H' fun c H3 => if c = true then te ((wipe σ [i]).set i (some x)) H3 _ else _
    rw [ew]
    refine ⟨by show (σ.set i (some x)).set i none = σ.set i none; rw [List.set_set], ?_⟩
    refine step D j x H' _ _ gx sm ⟨_, hD⟩ (fun v b Hy es sy r => ?_) (fun Hy es sy => ?_)
    · have hD2 := sy _ _ hD
      refine ⟨ys, hD2, len_big (by omega), ?_⟩
      rw [hPv]
      refine ⟨ys ++ [v], same_ch (sm.trans sy) nD, upd_same, ?_⟩
      rw [fm_step, es]
      have keep : ∀ t o, t ≠ D → Hy t = some o → upd Hy D (HO.lst (ys ++ [v])) t = some o := fun t o ne e => by rw [upd_ne ne]; exact e
      exact Paired.snoc (Paired.mapP pr fun v b h => up _ _ _ _ _ (up _ _ _ _ _ h fun t o _ e => sy t o e) keep) (up _ _ _ _ _ r keep)
    · rw [hPv]
      refine ⟨ys, sm.trans sy, sy _ _ hD, ?_⟩
      rw [fm_step, es, List.append_nil]
      exact Paired.mapP pr fun v b h => up _ _ _ _ _ h fun t o _ e => sy t o e
  · rw [hPv] at pv
    obtain ⟨ys, sm, hD, pr⟩ := pv
    exact q D ys H' sm nD hD pr
/-- lists of ints in the heap -/
def IsLI (H : Hp) (v : V) (l : List Int) : Prop := ∃ t, v = .ref t ∧ H t = some (.lst (l.map V.int))
theorem IsLI.same {H H' : Hp} {v : V} {l : List Int} (h : IsLI H v l) (s : Same H H') : IsLI H' v l := by
  obtain ⟨t, e, h⟩ := h
  exact ⟨t, e, s _ _ h⟩
def subs : Nat → List (List Int)
  | 0 => [[]]
  | n + 1 => subs n ++ (subs n).map (· ++ [(n : Int)])
theorem subs_len : ∀ n, (subs n).length = 2 ^ n
  | 0 => rfl
  | n + 1 => by
    show (subs n ++ (subs n).map _).length = _
    rw [List.length_append, List.length_map, subs_len n, Nat.pow_succ]
    omega
theorem subs_mem : ∀ {n : Nat} {l : List Int}, l ∈ subs n ↔ Up l ∧ ∀ x ∈ l, 0 ≤ x ∧ x < n
  | 0, l => by
    show l ∈ [[]] ↔ _
    rw [List.mem_singleton]
    constructor
    · rintro rfl
      exact ⟨List.Pairwise.nil, fun x hx => by cases hx⟩
    · rintro ⟨_, h⟩
      cases l with
      | nil => rfl
      | cons x l =>
        have := h x List.mem_cons_self
        omega
  | n + 1, l => by
    show l ∈ subs n ++ (subs n).map _ ↔ _
    rw [List.mem_append, List.mem_map, subs_mem]
    constructor
    · rintro (⟨h1, h2⟩ | ⟨m, hm, rfl⟩)
      · exact ⟨h1, fun x hx => by have := h2 x hx; omega⟩
      · obtain ⟨h1, h2⟩ := subs_mem.mp hm
        refine ⟨List.pairwise_append.mpr ⟨h1, List.pairwise_singleton _ _, fun a ha b hb => ?_⟩, fun x hx => ?_⟩
        · rw [List.mem_singleton.mp hb]
          exact (h2 a ha).2
        · rcases List.mem_append.mp hx with z | z
          · have := h2 x z
            omega
          · rw [List.mem_singleton.mp z]
            omega
    · rintro ⟨h1, h2⟩
      rcases List.eq_nil_or_concat l with rfl | ⟨m, y, rfl⟩
      · exact .inl ⟨h1, fun x hx => by cases hx⟩
      · rw [List.concat_eq_append] at h1 h2 ⊢
        obtain ⟨p1, _, p3⟩ := List.pairwise_append.mp h1
        have hy := h2 y (by simp)
        have hm : ∀ x ∈ m, 0 ≤ x ∧ x < y := fun x hx => ⟨(h2 x (List.mem_append_left _ hx)).1, p3 x hx y List.mem_cons_self⟩
        by_cases c : y = n
        · refine .inr ⟨m, subs_mem.mpr ⟨p1, fun x hx => ?_⟩, by rw [c]⟩
          have := hm x hx
          omega
        · refine .inl ⟨h1, fun x hx => ?_⟩
          rcases List.mem_append.mp hx with z | z
          · have := hm x z
            omega
          · rw [List.mem_singleton.mp z]
            omega
theorem paired_app {α β : Type} {F : α → β → Prop} : ∀ {as cs : List α} {bs ds : List β}, Paired F as bs → Paired F cs ds → Paired F (as ++ cs) (bs ++ ds)
  | _, _, _, _, .nil, h => h
  | _, _, _, _, .cons r t, h => .cons r (paired_app t h)
theorem ints_inj2 : ∀ {l m : List Int}, l.map V.int = m.map V.int → l = m
  | [], [], _ => rfl
  | [], _ :: _, h => by cases h
  | _ :: _, [], h => by cases h
  | x :: l, y :: m, h => by
    rw [List.map_cons, List.map_cons] at h
    obtain ⟨h1, h2⟩ := List.cons.inj h
    rw [V.int.inj h1, ints_inj2 h2]
theorem isR_uniq {H : Hp} {v : V} {l m : List Int} (h1 : IsR H v l) (h2 : IsR H v m) : l = m := by
  obtain ⟨t, rfl, h1⟩ := h1
  obtain ⟨u, e, h2⟩ := h2
  cases e
  rw [h1] at h2
  exact ints_inj2 (HO.tup.inj (Option.some.inj h2))
open Classical in
noncomputable def decT (H : Hp) (y : V) : List Int := if h : ∃ l, IsR H y l then Classical.choose h else []
theorem decT_eq {H : Hp} {y : V} {l : List Int} (h : IsR H y l) : decT H y = l := by
  have hx : ∃ l, IsR H y l := ⟨l, h⟩
  unfold decT
  rw [dif_pos hx]
  exact isR_uniq (Classical.choose_spec hx) h
theorem rl_dec {H : Hp} : ∀ {xs : List V} {L : List (List Int)}, RL H xs L → xs.map (decT H) = L ∧ ∀ y ∈ xs, IsR H y (decT H y)
  | _, _, .nil => ⟨rfl, fun y h => by cases h⟩
  | _, _, .cons r t => by
    obtain ⟨e, h⟩ := rl_dec t
    refine ⟨by rw [List.map_cons, decT_eq r, e], fun y hy => ?_⟩
    rcases List.mem_cons.mp hy with rfl | hy
    · rw [decT_eq r]
      exact r
    · exact h y hy
theorem rl_of_dec {H : Hp} : ∀ {xs : List V}, (∀ y ∈ xs, IsR H y (decT H y)) → RL H xs (xs.map (decT H))
  | [], _ => .nil
  | y :: xs, h => .cons (h y List.mem_cons_self) (rl_of_dec fun z hz => h z (List.mem_cons_of_mem _ hz))
theorem rl_perm {H : Hp} {xs ys : List V} {L : List (List Int)} (h : RL H xs L) (p : ys.Perm xs) : RL H ys (ys.map (decT H)) ∧ (ys.map (decT H)).Perm L := by
  obtain ⟨e, hm⟩ := rl_dec h
  refine ⟨rl_of_dec fun y hy => hm y (p.mem_iff.mp hy), ?_⟩
  rw [← e]
  exact p.map _
theorem depth_ints : ∀ l : List Int, PyData.depthAll (l.map PyData.int) ≤ 1
  | [] => by simp [PyData.depthAll]
  | x :: l => by
    have := depth_ints l
    simp only [List.map_cons, PyData.depthAll, PyData.depth]
    omega
theorem alike_ints : ∀ l m : List Int, PySem.W.alikeAll (l.map PyData.int) (m.map PyData.int) = true
  | [], _ => by simp [PySem.W.alikeAll]
  | _ :: _, [] => by simp [PySem.W.alikeAll]
  | x :: l, y :: m => by
    simp only [List.map_cons, PySem.W.alikeAll, PySem.W.alike, Bool.true_and]
    exact alike_ints l m
theorem dp_ints {K : PySem.W.Frag} {H : Hp} : ∀ l : List Int, DpAll K H (l.map V.int) (l.map PyData.int)
  | [] => .nil
  | x :: l => .cons (.int x) (dp_ints l)
theorem sort_rl {K : PySem.W.Frag} {H : Hp} {a : Addr} {xs : List V} {L : List (List Int)} {Q : VK} (ha : H a = some (.lst xs)) (rl : RL H xs L) (ne : ∀ l ∈ L, l ≠ [])
    (q : ∀ p ys L2 H', Same H H' → H p = none → H' p = some (.lst ys) → L2.Perm L → RL H' ys L2 → Q (.ref p) H') : rSortD K [V.ref a] H Q := by
  obtain ⟨e, hm⟩ := rl_dec rl
  refine ⟨a, xs, fun y => .tuple ((decT H y).map PyData.int), rfl, SqL.of ha, fun y hy => ?_, fun x hx y hy => ?_, fun p np => ?_⟩
  · obtain ⟨t, et, ht⟩ := hm y hy
    rw [et] at ht ⊢
    refine ⟨.tup (SqT.of ht) (dp_ints _), ?_, ?_⟩
    · have := depth_ints (decT H (V.ref t))
      simp only [PyData.depth]
      omega
    · have : decT H y ∈ L := by rw [← e]; exact List.mem_map.mpr ⟨y, hy, rfl⟩
      have := ne _ this
      rw [et] at this
      cases c : decT H (V.ref t) with
      | nil => exact absurd c this
      | cons u l => exact ⟨_, _, by show PyData.tuple ((decT H (V.ref t)).map PyData.int) = _; rw [c]; rfl⟩
  · simp only [PySem.W.alike]
    exact alike_ints _ _
  · obtain ⟨h1, h2⟩ := rl_perm rl (List.mergeSort_perm xs (PySem.W.dataLe false fun y => .tuple ((decT H y).map PyData.int)))
    have s := same_upd (o := HO.lst (xs.mergeSort (PySem.W.dataLe false fun y => .tuple ((decT H y).map PyData.int)))) np
    exact q p _ _ _ s np upd_same h2 (h1.kt (KT.same s))
theorem sortLen_k {K : PySem.W.Frag} {x : V} {H : Hp} {Q : VK} (hx : ∃ a xs L, x = V.ref a ∧ H a = some (.lst xs) ∧ RL H xs L ∧ ∀ p ys L2 H', Same H H' → H p = none → H' p = some (.lst ys) → L2.Perm L → RL H' ys L2 → Q (.ref p) H') :
    ∃ (a : Addr) (xs : List V) (f : V → Nat), x = .ref a ∧ SqL K H a xs ∧ (∀ y ∈ xs, ∃ t ys, y = V.ref t ∧ SqT K H t ys ∧ ys.length = f y) ∧ ∀ p, H p = none → Q (.ref p) (upd H p (.lst (xs.mergeSort (leN f)))) := by
  obtain ⟨a, xs, L, ex, ha, rl, q⟩ := hx
  obtain ⟨e, hm⟩ := rl_dec rl
  refine ⟨a, xs, fun y => (decT H y).length, ex, SqL.of ha, fun y hy => ?_, fun p np => ?_⟩
  · obtain ⟨t, et, ht⟩ := hm y hy
    exact ⟨t, _, et, SqT.of ht, by rw [List.length_map]⟩
  · obtain ⟨h1, h2⟩ := rl_perm rl (List.mergeSort_perm xs (leN fun y => (decT H y).length))
    have s := same_upd (o := HO.lst (xs.mergeSort (leN fun y => (decT H y).length))) np
    exact q p _ _ _ s np upd_same h2 (h1.kt (KT.same s))
theorem tSort2 {K : PySem.W.Frag} {n : Nat} {σ : L2.St} {H : Hp} {a : Addr} {Q : VK} (e : σ[n]? = some (some (V.ref a)))
    (h : rSortD K [V.ref a] H fun x H1 => ∃ (a : Addr) (xs : List V) (f : V → Nat), x = .ref a ∧ SqL K H1 a xs ∧ (∀ y ∈ xs, ∃ t ys, y = V.ref t ∧ SqT K H1 t ys ∧ ys.length = f y) ∧ ∀ p, H1 p = none → Q (.ref p) (upd H1 p (.lst (xs.mergeSort (leN f))))) :
    tSortLen K (tCB (rSortD K) (tCons (tVar n) tNil)) σ H Q := ⟨_, e, h⟩
theorem up_le : ∀ {l : List Int} {n : Nat}, Up l → (∀ x ∈ l, 0 ≤ x ∧ x < n) → l.length ≤ n := fun {l n} u h => by
  have := pig (rg n) l (List.Pairwise.imp (fun h => by omega) u) fun x hx => mem_rg (h x hx).1 (h x hx).2
  rw [rg_len] at this
  exact this
theorem subs_bl {n j : Nat} {b : List Int} (h : (subs n)[j]? = some b) : b.length ≤ n := by
  obtain ⟨u, h⟩ := subs_mem.mp (List.mem_of_getElem? h)
  exact up_le u h
/-- the reached rooms are all of them just where all hang together -/
theorem part_len {D : List Pr} {l ys : List Int} (u : Up l) (ne : l ≠ []) (nn : ∀ x ∈ l, 0 ≤ x) (pc : Pc D l (hdI l) ys) : ys.length = l.length ↔ ∀ x ∈ l, Rch D l (hdI l) x := by
  have ndl : l.Nodup := List.Pairwise.imp (fun h => by omega) u
  have ndy : ys.Nodup := List.Pairwise.imp (fun h => by omega) pc.1
  have sub : ∀ x ∈ ys, x ∈ l := fun x hx => ((pc.2 x).mp hx).mem
  constructor
  · intro e x hx
    refine (pc.2 x).mp (Classical.byContradiction fun n => ?_)
    have := pig l (x :: ys) (List.nodup_cons.mpr ⟨n, ndy⟩) fun y hy => by
      rcases List.mem_cons.mp hy with rfl | hy
      · exact hx
      · exact sub y hy
    rw [List.length_cons] at this
    omega
  · intro h
    have h1 := pig l ys ndy sub
    have h2 := pig ys l ndl fun x hx => (pc.2 x).mpr (h x hx)
    omega
theorem fm_filter {α : Type} {p : α → Prop} [DecidablePred p] : ∀ l : List α, l.filterMap (fun b => if p b then some b else none) = l.filter fun b => decide (p b)
  | [] => rfl
  | b :: l => by
    by_cases c : p b
    · rw [List.filterMap_cons, if_pos c, List.filter_cons_of_pos (p := fun b => decide (p b)) (decide_eq_true c)]
      exact congrArg (b :: ·) (fm_filter l)
    · rw [List.filterMap_cons, if_neg c, List.filter_cons_of_neg (p := fun b => decide (p b)) (by rw [decide_eq_false c]; exact Bool.false_ne_true)]
      exact fm_filter l
/-- all the rooms hang together with the first -/
def Whole (D : List Pr) (b : List Int) : Prop := ∀ x ∈ b, Rch D b (hdI b) x
noncomputable instance (D : List Pr) : DecidablePred (Whole D) := fun _ => Classical.propDecidable _
section
variable {P : Program} {w : World} {K : PySem.W.Frag} {mg : Str → Option Value} {base : Heap}
theorem scLpr : FnScope ["doors", "rooms", "sets", "room", "parts", "kept", "part"] ["doors", "rooms"] (defScope sLpr) := ⟨rfl, rfl, rfl, by decide +kernel, rfl, by decide +kernel, by decide +kernel⟩
def spLpr : Sp := fun vs H Q _ => ∃ (l : Addr) (us : List V) (D : List Pr) (r : Nat), vs = [.ref l, .int r] ∧ H l = some (.lst us) ∧ PL H us D ∧ r ≤ 6 ∧
  ∀ (L : List (List Int)) (ws : List V) (p : Addr) (H' : Hp), (∀ ys, ys ∈ L ↔ IsPart D r ys) → L.length ≤ 63 → Same H H' → H p = none → H' p = some (.lst ws) → RL H' ws L → Q (.ref p) H'
theorem ok_lpr {f fR : Addr} {fd fdR : FuncData} (F : Fun K "_law_parts" "_law_parts" sLpr f fd) (T : Bi mg) (d__law_reach : Df P w K mg base "_law_reach" ["doors", "start", "inside"] 1 (spLre K) fR fdR) : FnOk P w K mg base CX0 2 f fd ["doors", "rooms"] spLpr := by
  refine F.ok scLpr (fun vs H Q E h => ?_) (fun cdv A0 outer s H vs Q E hr h => ?_)
  · obtain ⟨l, us, D, r, rfl, _⟩ := h
    rfl
  · obtain ⟨l, us, D, r, rfl, hl, pl, r6, ret⟩ := h
    refine ⟨_, (pss_cons (ps_set (i := 2) scLpr.nd rfl (Or.inl rfl) (pe_lst (pa_cons (pe_lst pa_nil) pa_nil)))
      (pss_cons (ps_for PassesOwn.never rfl (pi_range1 (by rfl) T.range (pa_cons (pv 1) pa_nil)) (pg_name (i := 3) scLpr.nd rfl (Or.inr rfl))
      (pss_one (ps_set (i := 2) scLpr.nd rfl (Or.inl rfl) (pe_op op_cat (pv 2) (pe_lc (own := [("kept", 5)]) (te := (tOp rCat (tVar 5) (tLst (tCons (tVar 3) tNil)))) (by rfl) scLpr.nd (pi_list (pv 2)) (blkOk_by (N := ["doors", "rooms", "sets", "room", "parts", "kept", "part"]) (sc := defScope sLpr) (by decide +kernel)) (fun _ _ _ _ _ => pg_name (i := 5) scLpr.nd rfl (Or.inl rfl)) (fun _ _ _ _ _ => pts_nil) (fun _ _ _ _ _ => (pe_op op_cat (pv 5) (pe_lst (pa_cons (pv 3) pa_nil)))))))))
      (pss_cons (ps_setLc (i := 4) (own := [("kept", 5)]) (te := (tCB (fun xs H Q => ∃ p ys, xs = [V.ref p] ∧ ((SqL K H p ys ∧ ∀ l, H l = none → Q (V.ref l) (upd H l (HO.tup ys))) ∨ (SqT K H p ys ∧ Q (V.ref p) H))) (tCons (tVar 5) tNil))) (tt := (tTest (tOp (rI0 fun i j => V.bl (decide (j < i))) (tCB (fun xs H Q => ∃ p ys, xs = [V.ref p] ∧ (SqL K H p ys ∨ SqT K H p ys) ∧ Q (V.int ys.length) H) (tCons (tVar 5) tNil)) (tC (V.int 0))))) (by rfl) scLpr.nd rfl rfl (sw_true rfl rfl rfl (by decide +kernel)) (pi_list (pv 2)) (blkOk_by (N := ["doors", "rooms", "sets", "room", "parts", "kept", "part"]) (sc := defScope sLpr) (by decide +kernel)) (fun _ _ _ _ _ => pg_name (i := 5) scLpr.nd rfl (Or.inl rfl)) (fun _ _ _ _ _ => (pts_one (pt_cmpR op_gt (pe_callB call_len_seq (by rfl) T.len (by decide +kernel) (pa_cons (pv 5) pa_nil)) pe_int (nomark _)))) (fun _ _ _ _ _ => (pe_callTy call_tuple_of (by rfl) T.tuple (by decide +kernel) (pa_cons (pv 5) pa_nil))))
      (pss_cons (ps_setLc (i := 4) (own := [("part", 6)]) (te := (tVar 6)) (tt := (tTest (tOp (rI0 fun i j => V.bl (decide (i = j))) (tCB (fun xs H Q => ∃ p ys, xs = [V.ref p] ∧ (SqL K H p ys ∨ SqT K H p ys) ∧ Q (V.int ys.length) H) (tCons (tCall (spLre K) [] E0 (tCons (tVar 0) (tCons (tOp (rIxT K) (tVar 6) (tC (V.int 0))) (tCons (tVar 6) tNil)))) tNil)) (tCB (fun xs H Q => ∃ p ys, xs = [V.ref p] ∧ (SqL K H p ys ∨ SqT K H p ys) ∧ Q (V.int ys.length) H) (tCons (tVar 6) tNil))))) (by rfl) scLpr.nd rfl rfl (sw_true rfl rfl rfl (by decide +kernel)) (pi_list (pv 4)) (blkOk_by (N := ["doors", "rooms", "sets", "room", "parts", "kept", "part"]) (sc := defScope sLpr) (by decide +kernel)) (fun _ _ _ _ _ => pg_name (i := 6) scLpr.nd rfl (Or.inl rfl)) (fun _ _ _ _ _ => (pts_one (pt_cmpR op_eqI (pe_callB call_len_seq (by rfl) T.len (by decide +kernel) (pa_cons (pe_call d__law_reach.ok (hr.mono (by decide)) (by rfl) d__law_reach.at_ d__law_reach.kp d__law_reach.b .nil pass0 (pa_cons (pv 0) (pa_cons (pe_ix ix_tup (pv 6) pe_int (fun _ _ => rfl)) (pa_cons (pv 6) pa_nil)))) pa_nil)) (pe_callB call_len_seq (by rfl) T.len (by decide +kernel) (pa_cons (pv 6) pa_nil)) (nomark _)))) (fun _ _ _ _ _ => (pv 6)))
      (pss_one (ps_ret (pe_sortLen hr.units (by rfl) T.sorted (by rfl) T.len (pe_callB (cr_sortD hr.units) (by rfl) T.sorted (by decide +kernel) (pa_cons (pv 4) pa_nil))))))))), ?_⟩
    walk_at "rd"
    refine ⟨by decide, fun e0 ne0 => ⟨by decide, fun p0 np0 => ?_⟩⟩
    have s0 := (same_upd (o := HO.lst []) ne0).trans (same_upd (o := HO.lst [V.ref e0]) np0)
    have he0 := same_upd (o := HO.lst [V.ref e0]) np0 _ _ (upd_same (H := H) (a := e0) (o := HO.lst []))
    have hp0 := upd_same (H := upd H e0 (HO.lst [])) (a := p0) (o := HO.lst [V.ref e0])
    have np00 := (same_upd (o := HO.lst []) ne0).free np0
    generalize upd (upd H e0 (HO.lst [])) p0 (HO.lst [V.ref e0]) = H0 at s0 he0 hp0 ⊢
    refine for_iterW ?_
    walk_at "rd"
    obtain ⟨Pv, hPv⟩ : ∃ Pv : Nat → L2.St → Hp → Prop, Pv = (fun i σ Hx => ∃ (vs : List V) (p : Addr) (v3 : Option V), σ = [some (.ref l), some (.int r), some (.ref p), v3, none, none, none] ∧ Same H Hx ∧ H p = none ∧ Hx p = some (.lst vs) ∧ Paired (IsLI Hx) vs (subs i)) := ⟨_, rfl⟩
    refine ⟨by omega, by omega, for_range (lo := 0) (n := ((r : Nat) : Int).toNat) Pv (by rw [hPv]; exact ⟨_, p0, none, rfl, s0, np00, hp0, .cons ⟨e0, rfl, he0⟩ .nil⟩) (fun i σ Hx hi pv => ?_) (fun σ Hx pv => ?_)⟩
    · rw [hPv] at pv
      obtain ⟨vs, p, v3, rfl, sm, np, hp, pr⟩ := pv
      have vl : vs.length = 2 ^ i := by rw [pr.length, subs_len]
      have v64 : 2 ^ i ≤ 2 ^ 6 := Nat.pow_le_pow_right (by decide) (by omega)
      have v64' : vs.length ≤ 64 := by omega
      rw [Int.zero_add]
      walk_at "rd"
      refine lcW ?_
      walk_at "rd"
      refine ⟨⟨_, SqL.of hp⟩, gc_listD (fun D H v (b : List Int) => ∃ t, v = V.ref t ∧ t ≠ D ∧ H t = some (.lst (b.map V.int))) (fun D H H' v b h k => by obtain ⟨t, e, ne, h⟩ := h; exact ⟨t, e, ne, k _ _ ne h⟩) (fun j => (subs i)[j]?.bind fun b => some (b ++ [(i : Int)])) hp (by omega) (fun D j x Hy A B gx sy hD hA hB => ?_) fun o ys H2 s2 no ho pr2 => ?_⟩
      · obtain ⟨b, gb, tb, rfl, htb⟩ := pget pr gx
        rw [gb] at hA
        walk_at "rd"
        refine (show (if True then _ else _) from ?_)
        rw [if_pos trivial]
        refine ⟨Nat.le_of_lt (len_big (by omega)), fun p0 np0 => ?_⟩
        have bl : b.length < 64 := Nat.lt_of_le_of_lt (subs_bl gb) (by omega)
        have s0 := same_upd (o := HO.lst [V.int (i : Int)]) np0
        refine ⟨tb, p0, b.map V.int, [V.int (i : Int)], rfl, rfl, s0 _ _ (sy _ _ htb), upd_same, Nat.le_of_lt (len_big (by rw [List.length_map, List.length_singleton]; omega)), fun p1 np1 => ?_⟩
        have s1 := same_upd (o := HO.lst (b.map V.int ++ [V.int (i : Int)])) np1
        refine hA _ _ _ rfl (s0.trans s1) ⟨p1, rfl, fun z => ?_, by rw [upd_same, List.map_append]; rfl⟩
        obtain ⟨o, ho⟩ := hD
        have := s0 _ _ ho
        rw [← z, np1] at this
        cases this
      · have e : (List.range vs.length).filterMap (fun j => (subs i)[j]?.bind fun b => some (b ++ [(i : Int)])) = (subs i).map (· ++ [(i : Int)]) := by
          rw [pr.length, fm_range (L := subs i) (fun b => some (b ++ [(i : Int)])), List.filterMap_eq_map']
        rw [e] at pr2
        have yl : ys.length = 2 ^ i := by rw [pr2.length, List.length_map, subs_len]
        refine ⟨_, _, _, _, rfl, rfl, s2 _ _ hp, ho, Nat.le_of_lt (len_big (by omega)), fun p1 np1 => ?_⟩
        have s3 := same_upd (o := HO.lst (vs ++ ys)) np1
        rw [hPv]
        refine ⟨vs ++ ys, p1, some (.int (i : Int)), rfl, (sm.trans s2).trans s3, (sm.trans s2).free np1, upd_same, ?_⟩
        exact paired_app (Paired.mapP pr fun v b h => h.same (s2.trans s3)) (Paired.mapP pr2 fun v b h => by obtain ⟨t, e, _, h⟩ := h; exact ⟨t, e, s3 _ _ h⟩)
    · rw [hPv] at pv
      obtain ⟨vs, p, v3, rfl, sm, np, hp, pr⟩ := pv
      rw [Int.toNat_natCast] at pr
      have vl : vs.length = 2 ^ r := by rw [pr.length, subs_len]
      have v64 : 2 ^ r ≤ 2 ^ 6 := Nat.pow_le_pow_right (by decide) r6
      have v64' : vs.length ≤ 64 := by omega
      walk_at "rd"
      refine lcW ?_
      walk_at "rd"
      refine ⟨⟨_, SqL.of hp⟩, gc_list (fun H v (b : List Int) => IsR H v b) (fun _ _ _ _ h k => h.same k) (fun j => (subs r)[j]?.bind fun b => if 0 < b.length then some b else none) hp (by omega) (fun j x Hy A B gx sy hA hB => ?_) fun o ys H2 s2 no ho pr2 => ?_⟩
      · obtain ⟨b, gb, tb, rfl, htb⟩ := pget pr gx
        have bl : b.length < 64 := Nat.lt_of_le_of_lt (subs_bl gb) (by omega)
        rw [gb] at hA hB
        walk_at "rd"
        have hb := sy _ _ htb
        by_cases c : 0 < b.length
        · refine ⟨b.map V.int, .inl (SqL.of hb), ?_⟩
          rw [List.length_map, if_pos (by omega)]
          refine ⟨b.map V.int, .inl ⟨SqL.of hb, fun p1 np1 => ?_⟩⟩
          exact hA _ b _ (if_pos c) (same_upd np1) ⟨p1, rfl, upd_same⟩
        · refine ⟨b.map V.int, .inl (SqL.of hb), ?_⟩
          rw [List.length_map, if_neg (by omega)]
          exact hB _ (if_neg c) (Same.refl _)
      · have ef : (List.range vs.length).filterMap (fun j => (subs r)[j]?.bind fun b => if 0 < b.length then some b else none) = (subs r).filter fun b => decide (0 < b.length) := by
          rw [pr.length, fm_range (L := subs r) (fun b => if 0 < b.length then some b else none), fm_filter]
        rw [ef] at pr2
        obtain ⟨S1, eS1⟩ : ∃ S1, S1 = (subs r).filter fun b => decide (0 < b.length) := ⟨_, rfl⟩
        have hS1 : ∀ b, b ∈ S1 → b ≠ [] ∧ Up b ∧ ∀ x ∈ b, 0 ≤ x ∧ x < r := fun b hb => by
          rw [eS1] at hb
          obtain ⟨h1, h2⟩ := List.mem_filter.mp hb
          have h3 := of_decide_eq_true h2
          obtain ⟨h4, h5⟩ := subs_mem.mp h1
          exact ⟨fun z => (by rw [z] at h3; exact absurd h3 (Nat.lt_irrefl 0)), h4, h5⟩
        have S1l : S1.length ≤ 63 := by
          rw [eS1]
          have lt : ((subs r).filter fun b => decide (0 < b.length)).length < (subs r).length := filter_lt (x := []) (subs_mem.mpr ⟨List.Pairwise.nil, fun x hx => by cases hx⟩) (by simp)
          rw [subs_len] at lt
          omega
        have yl : ys.length = S1.length := by rw [pr2.length, eS1]
        rw [← eS1] at pr2
        refine lcW ?_
        walk_at "rd"
        refine ⟨⟨_, SqL.of ho⟩, gc_list (fun H v (b : List Int) => IsR H v b) (fun _ _ _ _ h k => h.same k) (fun j => S1[j]?.bind fun b => if Whole D b then some b else none) ho (by omega) (fun j x Hy A B gx sy hA hB => ?_) fun o2 zs H3 s3 no3 ho3 pr3 => ?_⟩
        · obtain ⟨b, gb, tb, rfl, htb⟩ := pget pr2 gx
          rw [gb] at hA hB
          obtain ⟨bn, bu, bb⟩ := hS1 b (List.mem_of_getElem? gb)
          have hb := sy _ _ htb
          walk_at "rd"
          cases eb : b with
          | nil => exact absurd eb bn
          | cons b0 bt =>
            have e0 : hdI b = b0 := by rw [eb]; rfl
            refine ⟨b.map V.int, SqT.of hb, .int b0, by rw [eb]; exact atI_nat (xs := V.int b0 :: bt.map V.int) (j := 0) rfl, l, tb, b0, us, D, b, rfl, sy _ _ (s2 _ _ (sm _ _ hl)), pl.kt (KT.same ((sm.trans s2).trans sy)), .inr (SqT.of hb), by have := up_le bu bb; omega, fun x hx => (bb x hx).1, fun ys2 t2 H4 pc s4 no4 ht4 => ?_⟩
            rw [← e0] at pc
            refine ⟨t2, rfl, ys2.map V.int, .inl (SqL.of ht4), b.map V.int, .inr (SqT.of (s4 _ _ hb)), ?_⟩
            have iff := part_len bu bn (fun x hx => (bb x hx).1) pc
            rw [List.length_map, List.length_map]
            by_cases c : ys2.length = b.length
            · rw [if_pos (by omega)]
              exact hA _ b _ (if_pos (iff.mp c)) s4 ⟨tb, rfl, s4 _ _ hb⟩
            · rw [if_neg (by omega)]
              exact hB _ (if_neg fun z => c (iff.mpr z)) s4
        · have ef2 : (List.range ys.length).filterMap (fun j => S1[j]?.bind fun b => if Whole D b then some b else none) = S1.filter fun b => decide (Whole D b) := by
            rw [yl, fm_range (L := S1) (fun b => if Whole D b then some b else none), fm_filter]
          rw [ef2] at pr3
          obtain ⟨S2, eS2⟩ : ∃ S2, S2 = S1.filter fun b => decide (Whole D b) := ⟨_, rfl⟩
          have hS2 : ∀ b, b ∈ S2 ↔ IsPart D r b := fun b => by
            rw [eS2, List.mem_filter]
            constructor
            · rintro ⟨h1, h2⟩
              obtain ⟨h3, h4, h5⟩ := hS1 b h1
              exact ⟨h3, h4, h5, of_decide_eq_true (p := Whole D b) h2⟩
            · rintro ⟨h3, h4, h5, h6⟩
              refine ⟨?_, (show decide (Whole D b) = true from decide_eq_true (p := Whole D b) h6)⟩
              rw [eS1]
              exact List.mem_filter.mpr ⟨subs_mem.mpr ⟨h4, h5⟩, decide_eq_true (List.length_pos_iff.mpr h3)⟩
          have S2l : S2.length ≤ 63 := by
            rw [eS2]
            exact Nat.le_trans (List.length_filter_le _ _) S1l
          rw [← eS2] at pr3
          refine tSort2 (a := o2) rfl ?_
          refine sort_rl ho3 pr3 (fun b hb => ((hS2 b).mp hb).1) fun o4 zs4 L4 H4 s4 no4 ho4 p4 rl4 => ?_
          refine sortLen_k ⟨o4, zs4, L4, rfl, ho4, rl4, fun o5 zs5 L5 H5 s5 no5 ho5 p5 rl5 => ?_⟩
          have sA := ((sm.trans s2).trans s3).trans s4
          refine ret L5 zs5 o5 H5 (fun b => by rw [p5.mem_iff, p4.mem_iff]; exact hS2 b) (by rw [p5.length_eq, p4.length_eq]; exact S2l) (sA.trans s5) (sA.free no5) ho5 rl5
end

/-! ### _law_forced -/
abbrev sLfc : Stmt := topS 38
section
variable {P : Program} {w : World} {K : PySem.W.Frag} {mg : Str → Option Value} {base : Heap}
theorem scLfc : FnScope ["doors", "form", "pairs", "outer", "inner", "held", "x", "touching", "d", "z"] ["doors", "form"] (defScope sLfc) := ⟨rfl, rfl, rfl, by decide +kernel, rfl, by decide +kernel, by decide +kernel⟩
def spLfc : Sp := fun vs H Q _ => ∃ (l : Addr) (v : V) (us : List V) (D : List Pr) (L : List Cl) (r : Nat), vs = [.ref l, v] ∧ H l = some (.lst us) ∧ PL H us D ∧ D.length ≤ 1000 ∧ r ≤ 12 ∧ FormAt H 12 v (formF D r L) ∧
  ∀ ws E t H', Same H H' → H t = none → H' t = some (.lst ws) → PL H' ws E → E.Perm (pairsF D (formF D r L)) → E.Pairwise (fun a b => SrtO.lexB b a = false) → Q (.ref t) H'
theorem ok_lfc {f f1 f2 : Addr} {fd fd1 fd2 : FuncData} (F : Fun K "_law_forced" "_law_forced" sLfc f fd) (T : Bi mg) (d__law_blocks : Df P w K mg base "_law_blocks" ["form"] 15 (spBlc 13) f1 fd1) (d__law_block_rooms : Df P w K mg base "_law_block_rooms" ["block"] 14 (spLbr 12) f2 fd2) : FnOk P w K mg base CX0 16 f fd ["doors", "form"] spLfc := by
  refine F.ok scLfc (fun vs H Q E h => ?_) (fun cdv A0 outer s H vs Q E hr h => ?_)
  · obtain ⟨l, v, us, D, L, r, rfl, _⟩ := h
    rfl
  · obtain ⟨l, v, us, D, L, r, rfl, hl, pD, dl, r12, fm, ret⟩ := h
    refine ⟨_, (pss_cons (ps_set (i := 2) scLfc.nd rfl (Or.inl rfl) (pe_lst pa_nil))
      (pss_cons (ps_for PassesOwn.never rfl (pi_list (pe_call d__law_blocks.ok (hr.mono (by decide)) (by rfl) d__law_blocks.at_ d__law_blocks.kp d__law_blocks.b .nil pass0 (pa_cons (pv 1) pa_nil))) (pg_name (i := 3) scLfc.nd rfl (Or.inl rfl))
      (pss_one (ps_for PassesOwn.never rfl (pi_list (pe_call d__law_blocks.ok (hr.mono (by decide)) (by rfl) d__law_blocks.at_ d__law_blocks.kp d__law_blocks.b .nil pass0 (pa_cons (pe_ix ix_tup (pv 3) pe_int (fun _ _ => rfl)) pa_nil))) (pg_name (i := 4) scLfc.nd rfl (Or.inl rfl))
        (pss_one (ps_if (PW.pt (pw_and (pt_cmpR op_notN (pe_ix ix_tup (pv 4) pe_int (fun _ _ => rfl)) pe_non (nomark _)) (pw_and1 (pt_cmpR op_ne (pe_ix ix_tup (pv 4) pe_int (fun _ _ => rfl)) (pe_ix ix_tup (pv 3) pe_int (fun _ _ => rfl)) (nomark _)))))
          (pss_cons (ps_set (i := 5) scLfc.nd rfl (Or.inr rfl) (pe_call d__law_block_rooms.ok (hr.mono (by decide)) (by rfl) d__law_block_rooms.at_ d__law_block_rooms.kp d__law_block_rooms.b .nil pass0 (pa_cons (pv 4) pa_nil)))
            (pss_one (ps_for PassesOwn.never rfl (pi_tup (pe_ix ix_tup (pv 3) pe_int (fun _ _ => rfl))) (pg_name (i := 6) scLfc.nd rfl (Or.inr rfl))
            (pss_cons (ps_setLc (i := 7) (own := [("d", 8)]) (te := (tVar 8)) (tt := (tOr (tAnd (tTest (tOp (rI0 fun i j => V.bl (decide (i = j))) (tOp (rIxT K) (tVar 8) (tC (V.int 0))) (tVar 6))) (tTest (tOp (rIn K false) (tOp (rIxT K) (tVar 8) (tC (V.int 1))) (tVar 5)))) (tAnd (tTest (tOp (rI0 fun i j => V.bl (decide (i = j))) (tOp (rIxT K) (tVar 8) (tC (V.int 1))) (tVar 6))) (tTest (tOp (rIn K false) (tOp (rIxT K) (tVar 8) (tC (V.int 0))) (tVar 5)))))) (by rfl) scLfc.nd rfl rfl (sw_true rfl rfl rfl (by decide +kernel)) (pi_list (pv 0)) (blkOk_by (N := ["doors", "form", "pairs", "outer", "inner", "held", "x", "touching", "d", "z"]) (sc := defScope sLfc) (by decide +kernel)) (fun _ _ _ _ _ => pg_name (i := 8) scLfc.nd rfl (Or.inl rfl)) (fun _ _ _ _ _ => (pts_one (PW.pt (pw_or (PW.pt (pw_and (pt_cmpR op_eqI (pe_ix ix_tup (pv 8) pe_int (fun _ _ => rfl)) (pv 6) (nomark _)) (pw_and1 (pt_cmpR op_in_seq (pe_ix ix_tup (pv 8) pe_int (fun _ _ => rfl)) (pv 5) (by rfl))))) (pw_or1 (PW.pt (pw_and (pt_cmpR op_eqI (pe_ix ix_tup (pv 8) pe_int (fun _ _ => rfl)) (pv 6) (nomark _)) (pw_and1 (pt_cmpR op_in_seq (pe_ix ix_tup (pv 8) pe_int (fun _ _ => rfl)) (pv 5) (by rfl)))))))))) (fun _ _ _ _ _ => (pv 8)))
              (pss_one (ps_if (pt_cmpR op_gt (pe_callB call_len_seq (by rfl) T.len (by decide +kernel) (pa_cons (pv 7) pa_nil)) pe_int (nomark _))
              (pss_one (ps_expr (pe_bm PySem.F.plainAttrs_list PySem.F.slot_list_extend PySem.F.type_list_extend mt_extend (pv 2) (pa_cons (pe_lc (own := [("z", 9)]) (te := (tTup (tCons (tVar 9) (tCons (tVar 6) tNil)))) (by rfl) scLfc.nd (pi_tup (pe_ix ix_tup (pv 4) pe_int (fun _ _ => rfl))) (blkOk_by (N := ["doors", "form", "pairs", "outer", "inner", "held", "x", "touching", "d", "z"]) (sc := defScope sLfc) (by decide +kernel)) (fun _ _ _ _ _ => pg_name (i := 9) scLfc.nd rfl (Or.inl rfl)) (fun _ _ _ _ _ => pts_nil) (fun _ _ _ _ _ => (pe_tup (pa_cons (pv 9) (pa_cons (pv 6) pa_nil))))) pa_nil))))
              pss_nil))))))
          pss_nil)))))
      (pss_one (ps_ret (pe_callB cr_sortedPO (by rfl) T.sorted (by decide +kernel) (pa_cons (pv 2) pa_nil)))))), ?_⟩
    refine sq2 fun N hN => ?_
    walk_at "rd"
    refine ⟨Nat.zero_le _, fun cn ncn => ?_⟩
    have s1 := same_upd (o := HO.lst []) ncn
    have hcn := upd_same (H := H) (a := cn) (o := HO.lst [])
    generalize upd H cn (HO.lst []) = H1 at s1 hcn ⊢
    refine for_iterW ?_
    walk_at "rd"
    obtain ⟨bs, ebs⟩ : ∃ bs, bs = formF D r L := ⟨_, rfl⟩
    have fm13 : FormAt H1 13 v bs := by
      rw [ebs]
      obtain ⟨a, xs, e, h1, h2⟩ := fm.kt (KT.same s1)
      exact ⟨a, xs, e, h1, h2.up (by decide)⟩
    have bok : ∀ b ∈ preF 13 bs, ∃ k' P', b = blkP D L k' P' ∧ P'.Nodup ∧ ∀ x ∈ P', x ∈ rg r := fun b hb => by
      rw [ebs] at hb
      exact pre_of 13 12 _ b hb
    have bl12 : (preF 13 bs).length ≤ 12 := by
      have := (pre_rlen (D := D) (L := L) 13 12 (rg r)).2
      rw [rg_len] at this
      rw [ebs]
      unfold formF
      omega
    rw [← ebs] at ret
    refine ⟨v, bs, rfl, fm13, Nat.le_refl _, by omega, fun bw bt H3 s3 nbt hbt pb => ?_⟩
    obtain ⟨B, eB⟩ : ∃ B, B = preF 13 bs := ⟨_, rfl⟩
    obtain ⟨G, hG⟩ : ∃ G : Blk → List Pr, G = fun bo => (preF 13 bo.i).flatMap fun bi => pairB D bi bo := ⟨_, rfl⟩
    have eAll : pairsF D bs = B.flatMap G := by rw [eB, hG]; rfl
    rw [← eB] at pb bok bl12
    rw [eAll] at ret
    have s13 := s1.trans s3
    have hcn3 := s3 _ _ hcn
    have hl3 := s13 _ _ hl
    have pD3 := pD.kt (KT.same s13)
    have ncl : l ≠ cn := ne_of_none hl ncn
    have ncb : bt ≠ cn := (ne_of_none hcn nbt).symm
    have ktx : ∀ {Hx : Hp}, Sx cn H3 Hx → KT H3 Hx := fun x => x.kt hcn3
    obtain ⟨Pv, hPv⟩ : ∃ Pv : Nat → L2.St → Hp → Prop, Pv = (fun i σ Hx => ∃ (ws : List V) (v3 v4 v5 v6 v7 : Option V), σ = [some (.ref l), some v, some (.ref cn), v3, v4, v5, v6, v7, none, none] ∧ Same H Hx ∧ Sx cn H3 Hx ∧ Hx cn = some (.lst ws) ∧ PL Hx ws ((B.take i).flatMap G) ∧ ws.length ≤ 1728 * i) := ⟨_, rfl⟩
    refine ⟨bt, rfl, ⟨_, SqL.of hbt⟩, for_list (K := K) (a := bt) (xs := bw) Pv (by rw [hPv]; exact ⟨[], none, none, none, none, none, rfl, s13, Sx.refl, hcn3, .nil, Nat.le_refl _⟩) (fun i σ Hx _ pv => by rw [hPv] at pv; obtain ⟨_, _, _, _, _, _, _, _, x, _⟩ := pv; exact SqL.of (x _ _ ncb hbt)) (fun i x σ Hx gv pv => ?_) (fun σ Hx pv => ?_)⟩
    rotate_left
    · rw [hPv] at pv
      obtain ⟨ws, v3, v4, v5, v6, v7, rfl, sx, xx, hc, pw, wl⟩ := pv
      have bwl := Paired.length pb
      rw [bwl, List.take_length] at pw
      refine hN _ _ ?_
      clear hN
      walk_at "rd"
      obtain ⟨k1, k2⟩ := pw.toK
      refine ⟨cn, ws, kH Hx, rfl, SqL.of hc, k2, fun ys t so st nt => ?_⟩
      have pmy := st.perm
      have hy : ∀ v ∈ ys, IsP Hx v (kH Hx v) := fun v hv => k2 v (pmy.mem_iff.mp hv)
      refine ret ys (ys.map (kH Hx)) t _ (sx.trans (same_upd nt)) (sx.free nt) upd_same ((PL.ofK hy).kt (KT.new nt)) ?_ (List.pairwise_map.mpr (List.Pairwise.imp (fun {x y} h => h) so))
      rw [k1]
      exact pmy.map _
    rw [hPv] at pv
    obtain ⟨ws, v3, v4, v5, v6, v7, rfl, sx, xx, hc, pw, wl⟩ := pv
    obtain ⟨bo, gbo, ibo⟩ := lget pb gv
    have il := (List.getElem?_eq_some_iff.mp gbo).1
    obtain ⟨k0, P0, e0, nd0, sub0⟩ := bok bo (List.mem_of_getElem? gbo)
    have fo := blk_facts (D := D) (L := L) (k := k0) r12 nd0 sub0
    rw [← e0] at fo
    obtain ⟨oa, ot, oi, os, rfl, o1, o2, o3, o4, o5⟩ := id ibo.ex
    have tk : B.take (i + 1) = B.take i ++ [bo] := by rw [List.take_add_one, gbo]; rfl
    have kx := ktx xx
    refine for_iterW ?_
    walk_at "rd"
    have fi13 : FormAt Hx 13 (.ref oi) bo.i := ⟨oi, os, rfl, kx _ _ o4, (o5.kt kx).up (by decide)⟩
    refine ⟨_, SqT.of (kx _ _ o1), _, atI_nat (j := 2) rfl, .ref oi, bo.i, rfl, fi13, Nat.le_refl _, by have := fo.2.2.2.2.1; omega, fun iw it H4 s4 nit hit pbi => ?_⟩
    obtain ⟨J, eJ⟩ : ∃ J, J = preF 13 bo.i := ⟨_, rfl⟩
    have eG : G bo = J.flatMap fun bi => pairB D bi bo := by rw [hG, eJ]
    have foi := fo.2.2.2.2
    rw [← eJ] at pbi foi
    have iwl := Paired.length pbi
    have hc4 := s4 _ _ hc
    have nic : it ≠ cn := (ne_of_none hc nit).symm
    obtain ⟨E1, hE1⟩ : ∃ E1, E1 = (B.take i).flatMap G := ⟨_, rfl⟩
    rw [← hE1] at pw
    have pw4 := pw.kt (KT.same s4)
    have x4 := xx.trans (Sx.of s4)
    have k4 := ktx x4
    have sx4 := sx.trans s4
    have kty : ∀ {Hy : Hp}, Sx cn H4 Hy → KT H4 Hy := fun x => x.kt hc4
    obtain ⟨Pw, hPw⟩ : ∃ Pw : Nat → L2.St → Hp → Prop, Pw = (fun k σ Hy => ∃ (ws2 : List V) (v4 v5 v6 v7 : Option V), σ = [some (.ref l), some v, some (.ref cn), some (.ref oa), v4, v5, v6, v7, none, none] ∧ Same H Hy ∧ Sx cn H4 Hy ∧ Hy cn = some (.lst ws2) ∧ PL Hy ws2 (E1 ++ (J.take k).flatMap fun bi => pairB D bi bo) ∧ ws2.length ≤ ws.length + 144 * k) := ⟨_, rfl⟩
    refine ⟨it, rfl, ⟨_, SqL.of hit⟩, for_list (K := K) (a := it) (xs := iw) Pw (by rw [hPw]; exact ⟨ws, v4, v5, v6, v7, rfl, sx4, Sx.refl, hc4, by rw [List.take_zero, List.flatMap_nil, List.append_nil]; exact pw4, Nat.le_refl _⟩) (fun k σ Hy _ pv => by rw [hPw] at pv; obtain ⟨_, _, _, _, _, _, _, x, _⟩ := pv; exact SqL.of (x _ _ nic hit)) (fun k y σ Hy gy pv => ?_) (fun σ Hy pv => ?_)⟩
    rotate_left
    · rw [hPw] at pv
      obtain ⟨ws2, v4', v5', v6', v7', rfl, sy, xy, hcy, pwy, wly⟩ := pv
      rw [iwl, List.take_length, ← eG] at pwy
      rw [hPv]
      refine ⟨ws2, _, _, _, _, _, rfl, sy, x4.trans xy, hcy, ?_, by have := foi.1; omega⟩
      rw [tk, List.flatMap_append, List.flatMap_cons, List.flatMap_nil, List.append_nil, ← hE1]
      exact pwy
    rw [hPw] at pv
    obtain ⟨ws2, v4', v5', v6', v7', rfl, sy, xy, hcy, pwy, wly⟩ := pv
    obtain ⟨bi, gbi, ibi⟩ := lget pbi gy
    have kl := (List.getElem?_eq_some_iff.mp gbi).1
    obtain ⟨k1, P1, e1, nd1, sub1⟩ := foi.2 bi (List.mem_of_getElem? gbi)
    have fi := blk_facts (D := D) (L := L) (k := k1) r12 nd1 sub1
    rw [← e1] at fi
    have tkj : J.take (k + 1) = J.take k ++ [bi] := by rw [List.take_add_one, gbi]; rfl
    have ky := kty xy
    obtain ⟨ia, itt, ii, is, rfl, i1, i2, i3, i4, i5⟩ := id ibi.ex
    have iby := ibi.kt ky
    have oy1 := ky _ _ (k4 _ _ o1)
    have oy2 := ky _ _ (k4 _ _ o2)
    have nxt : ∀ (ws9 : List V) (v5 v6 v7 : Option V) (H9 : Hp), Same H H9 → Sx cn H4 H9 → H9 cn = some (.lst ws9) → PL H9 ws9 (E1 ++ (J.take k).flatMap (fun bi => pairB D bi bo) ++ pairB D bi bo) → ws9.length ≤ ws2.length + 144 → Pw (k + 1) [some (.ref l), some v, some (.ref cn), some (.ref oa), some (.ref ia), v5, v6, v7, none, none] H9 := fun ws9 v5 v6 v7 H9 h1 h2 h3 h4 h5 => by
      rw [hPw]
      refine ⟨ws9, _, _, _, _, rfl, h1, h2, h3, ?_, by omega⟩
      rw [tkj, List.flatMap_append, List.flatMap_cons, List.flatMap_nil, List.append_nil, ← List.append_assoc]
      exact h4
    have skip : pairB D bi bo = [] → Pw (k + 1) [some (.ref l), some v, some (.ref cn), some (.ref oa), some (.ref ia), v5', v6', v7', none, none] Hy := fun e => by
      refine nxt ws2 _ _ _ Hy sy xy hcy ?_ (by omega)
      rw [e, List.append_nil]
      exact pwy
    have gz : (∀ x, ¬ (besB D (rmsB bi) x = true ∧ bi.w ≠ none ∧ bi.w ≠ bo.w)) → pairB D bi bo = [] := fun h => by
      rw [pairB_eq]
      exact flat_nil _ fun x _ => if_neg (h x)
    have hl4 := x4 _ _ ncl hl3
    have pD4 := pD3.kt k4
    obtain ⟨E2, hE2⟩ : ∃ E2, E2 = E1 ++ (J.take k).flatMap fun bi => pairB D bi bo := ⟨_, rfl⟩
    rw [← hE2] at pwy nxt
    clear hPv hPw
    walk_at "rd"
    refine ⟨_, SqT.of (ky _ _ i1), _, atI_nat (j := 0) rfl, ?_⟩
    by_cases c2 : bi.w = none
    · rw [c2, if_neg (show ¬ (!decide (optS none = V.non)) = true by decide), if_neg id]
      exact skip (gz fun x h => h.2.1 c2)
    rw [if_pos (show (!decide (optS bi.w = V.non)) = true by
      cases e : bi.w with
      | none => exact absurd e c2
      | some z => rfl)]
    refine ⟨_, SqT.of (ky _ _ i1), _, atI_nat (j := 0) rfl, _, SqT.of oy1, _, atI_nat (j := 0) rfl, optS_scal _ _, _, rfl, ?_⟩
    by_cases c3 : bi.w = bo.w
    · rw [c3, decide_eq_true rfl, if_neg (show ¬ (!true) = true by decide)]
      exact skip (gz fun x h => h.2.2 c3)
    rw [decide_eq_false (fun q => c3 (optS_inj q)), if_pos (show (!false) = true by decide)]
    refine ⟨_, bi, rfl, iby, by rw [rmN_12]; omega, fun ys tl H5 pmy _ s5 ntl htl => ?_⟩
    rw [rmN_12] at pmy
    have x5 := xy.trans (Sx.of s5)
    have k5 := kty x5
    have hc5 := s5 _ _ hcy
    have nct : tl ≠ cn := (ne_of_none hcy ntl).symm
    have hl5 := x5 _ _ ncl hl4
    have pD5 := pD4.kt k5
    have pw5 := pwy.kt (KT.same s5)
    have sy5 := sy.trans s5
    have o15 := s5 _ _ oy1
    have o25 := s5 _ _ oy2
    have i15 := k5 _ _ i1
    have i25 := k5 _ _ i2
    have ktz : ∀ {Hz : Hp}, Sx cn H5 Hz → KT H5 Hz := fun x => x.kt hc5
    refine for_iterW ?_
    unfold iTup
    walk_at "rd"
    obtain ⟨Pz, hPz⟩ : ∃ Pz : Nat → L2.St → Hp → Prop, Pz = (fun m σ Hz => ∃ (ws3 : List V) (v6 v7 : Option V), σ = [some (.ref l), some v, some (.ref cn), some (.ref oa), some (.ref ia), some (.ref tl), v6, v7, none, none] ∧ Same H Hz ∧ Sx cn H5 Hz ∧ Hz cn = some (.lst ws3) ∧ PL Hz ws3 (E2 ++ (bo.t.take m).flatMap (Gx D bi bo)) ∧ ws3.length ≤ ws2.length + 12 * m) := ⟨_, rfl⟩
    refine ⟨_, SqT.of o15, _, atI_nat (j := 1) rfl, _, rfl, ⟨_, SqT.of o25⟩, for_tup (K := K) (a := ot) (xs := bo.t.map V.int) Pz (by rw [hPz]; exact ⟨ws2, v6', v7', rfl, sy5, Sx.refl, hc5, by rw [List.take_zero, List.flatMap_nil, List.append_nil]; exact pw5, Nat.le_refl _⟩) (fun m σ Hz _ pv => by rw [hPz] at pv; obtain ⟨_, _, _, _, _, x, _⟩ := pv; exact SqT.of (ktz x _ _ o25)) (fun m q σ Hz gq pv => ?_) (fun σ Hz pv => ?_)⟩
    rotate_left
    · rw [hPz] at pv
      obtain ⟨ws3, v6', v7', rfl, sz, xz, hcz, pwz, wlz⟩ := pv
      rw [List.length_map, List.take_length, ← pairB_eq] at pwz
      exact nxt ws3 _ _ _ Hz sz (x5.trans xz) hcz pwz (by rw [List.length_map] at wlz; omega)
    rw [hPz] at pv
    obtain ⟨ws3, v6', v7', rfl, sz, xz, hcz, pwz, wlz⟩ := pv
    obtain ⟨x, gx, rfl⟩ : ∃ x, bo.t[m]? = some x ∧ q = V.int x := by
      rw [List.getElem?_map] at gq
      cases e : bo.t[m]? with
      | none => rw [e] at gq; cases gq
      | some y => rw [e] at gq; exact ⟨y, rfl, (Option.some.inj gq).symm⟩
    have ml := (List.getElem?_eq_some_iff.mp gx).1
    have tkm : bo.t.take (m + 1) = bo.t.take m ++ [x] := by rw [List.take_add_one, gx]; rfl
    have kz := ktz xz
    have hlz := xz _ _ ncl hl5
    have pDz := pD5.kt kz
    have htz := xz _ _ nct htl
    walk_at "rd"
    refine lcW ?_
    walk_at "rd"
    refine ⟨⟨_, SqL.of hlz⟩, gc_list IsP (fun _ _ _ _ h k => h.kt k) (fun j => D[j]?.bind fun d => if (d.1 = x ∧ d.2 ∈ ys) ∨ (d.2 = x ∧ d.1 ∈ ys) then some d else none) hlz (by rw [pD.len]; omega) (fun j z Hy A B gz sg hA hB => ?_) fun en es H6 s6 nen hen pe => ?_⟩
    · obtain ⟨d, gd, td, rfl, htd⟩ := pget pDz gz
      have htd := sg _ _ htd
      have htl6 := sg _ _ htz
      walk_at "rd"
      have tin : ∀ (u : Int) (Q : VK), Q (V.bl (decide (u ∈ ys))) Hy → rIn K false (V.int u) (V.ref tl) Hy Q := fun u Q h => by
        unfold rIn
        refine ⟨tl, ys.map V.int, rfl, .inl (SqL.of htl6), rfl, flI _, ?_⟩
        rw [inI, if_neg (by decide)]
        exact h
      have two : ∀ k' : Bool, (k' = true → d.2 = x → d.1 ∈ ys → False) → ¬ (d.1 = x ∧ d.2 ∈ ys) → (∃ x_6, SqT K Hy td x_6 ∧ ∃ x_7, atI x_6 1 = some x_7 ∧ ∃ i, x_7 = V.int i ∧ if i = x then ∃ x, SqT K Hy td x ∧ ∃ x_8, atI x 0 = some x_8 ∧ rIn K false x_8 (V.ref tl) Hy fun x H' => ∃ k, x = V.bl k ∧ if k = true then A (V.ref td) H' else B H' else if False then A (V.ref td) Hy else B Hy) := fun k' _ h1 => by
        refine ⟨_, SqT.of htd, _, atI_nat (j := 1) rfl, _, rfl, ?_⟩
        by_cases c2 : d.2 = x
        · rw [if_pos c2]
          refine ⟨_, SqT.of htd, _, atI_nat (j := 0) rfl, tin _ _ ⟨_, rfl, ?_⟩⟩
          by_cases m1 : d.1 ∈ ys
          · rw [if_pos (decide_eq_true m1)]
            exact hA _ d Hy (by rw [gd]; exact if_pos (.inr ⟨c2, m1⟩)) (Same.refl _) ⟨td, rfl, htd⟩
          · rw [if_neg (by rw [decide_eq_true_iff]; exact m1)]
            exact hB Hy (by rw [gd]; exact if_neg fun z => z.elim h1 fun z => m1 z.2) (Same.refl _)
        · rw [if_neg c2, if_neg id]
          exact hB Hy (by rw [gd]; exact if_neg fun z => z.elim h1 fun z => c2 z.1) (Same.refl _)
      refine ⟨_, SqT.of htd, _, atI_nat (j := 0) rfl, _, rfl, ?_⟩
      by_cases c1 : d.1 = x
      · rw [if_pos c1]
        refine ⟨_, SqT.of htd, _, atI_nat (j := 1) rfl, tin _ _ ⟨_, rfl, ?_⟩⟩
        by_cases m2 : d.2 ∈ ys
        · rw [if_pos (decide_eq_true m2), if_pos trivial]
          exact hA _ d Hy (by rw [gd]; exact if_pos (.inl ⟨c1, m2⟩)) (Same.refl _) ⟨td, rfl, htd⟩
        · rw [if_neg (by rw [decide_eq_true_iff]; exact m2)]
          exact two false (fun h => by cases h) fun z => m2 z.2
      · rw [if_neg c1, if_neg id]
        exact two false (fun h => by cases h) fun z => c1 z.1
    rw [pD.len, fm_range (L := D) (fun d => if (d.1 = x ∧ d.2 ∈ ys) ∨ (d.2 = x ∧ d.1 ∈ ys) then some d else none)] at pe
    have esl := Paired.length pe
    have ejn : 0 < (es.length : Int) ↔ besB D (rmsB bi) x = true := by
      rw [esl]
      unfold besB
      rw [List.any_eq_true]
      constructor
      · intro h
        obtain ⟨d, hd⟩ := List.exists_mem_of_length_pos (Int.ofNat_lt.mp h)
        obtain ⟨d', m, e⟩ := List.mem_filterMap.mp hd
        by_cases c : (d'.1 = x ∧ d'.2 ∈ ys) ∨ (d'.2 = x ∧ d'.1 ∈ ys)
        · by_cases c1 : d'.1 = x
          · refine ⟨d'.2, List.mem_filterMap.mpr ⟨d', m, if_pos c1⟩, decide_eq_true (pmy.mem_iff.mp ?_)⟩
            rcases c with z | z
            · exact z.2
            · rw [z.1, ← c1]
              exact z.2
          · have z := c.resolve_left fun z => c1 z.1
            exact ⟨d'.1, List.mem_filterMap.mpr ⟨d', m, (if_neg c1).trans (if_pos z.1)⟩, decide_eq_true (pmy.mem_iff.mp z.2)⟩
        · rw [if_neg c] at e
          cases e
      · rintro ⟨z, h1, h2⟩
        obtain ⟨d', m, e⟩ := List.mem_filterMap.mp h1
        have hz := pmy.mem_iff.mpr (of_decide_eq_true h2)
        have c : (d'.1 = x ∧ d'.2 ∈ ys) ∨ (d'.2 = x ∧ d'.1 ∈ ys) := by
          by_cases c1 : d'.1 = x
          · rw [if_pos c1] at e
            exact .inl ⟨c1, by rw [Option.some.inj e]; exact hz⟩
          · rw [if_neg c1] at e
            by_cases c2 : d'.2 = x
            · rw [if_pos c2] at e
              exact .inr ⟨c2, by rw [Option.some.inj e]; exact hz⟩
            · rw [if_neg c2] at e
              cases e
        exact Int.ofNat_lt.mpr (List.length_pos_of_mem (List.mem_filterMap.mpr ⟨d', m, if_pos c⟩))
    have s06 := sz.trans s6
    have x6 := xz.trans (Sx.of (cn := cn) s6)
    have k6 := ktz x6
    have hc6 := s6 _ _ hcz
    have pw6 := pwz.kt (KT.same s6)
    have nx2 : ∀ (ws9 : List V) (H9 : Hp), Same H H9 → Sx cn H5 H9 → H9 cn = some (.lst ws9) → PL H9 ws9 (E2 ++ (bo.t.take (m + 1)).flatMap (Gx D bi bo)) → ws9.length ≤ ws3.length + 12 → Pz (m + 1) [some (.ref l), some v, some (.ref cn), some (.ref oa), some (.ref ia), some (.ref tl), some (.int x), some (.ref en), none, none] H9 := fun ws9 H9 h1 h2 h3 h4 h5 => by
      rw [hPz]
      exact ⟨ws9, _, _, rfl, h1, h2, h3, h4, by omega⟩
    rw [tkm, List.flatMap_append, List.flatMap_cons, List.flatMap_nil, List.append_nil, ← List.append_assoc] at nx2
    refine ⟨en, rfl, _, .inl (SqL.of hen), ?_⟩
    by_cases c1 : besB D (rmsB bi) x = true
    · rw [if_pos (ejn.mpr c1)]
      have i16 := k6 _ _ i15
      have i26 := k6 _ _ i25
      refine ⟨.inl ⟨rfl, _, SqL.of hc6⟩, ?_⟩
      refine lcW ?_
      refine ⟨_, rfl, ia, rfl, _, SqT.of i16, _, atI_nat (j := 1) rfl, itt, rfl, ⟨_, SqT.of i26⟩, ?_⟩
      refine gc_tup IsP (fun _ _ _ _ h k => h.kt k) (fun j => bi.t[j]?.bind fun z => some (z, x)) i26 (by rw [List.length_map]; omega) (fun j y Hy A0 B0 gy sg hA hB => ?_) fun fn2 es2 H7 s7 nfn2 hfn2 pe2 => ?_
      · obtain ⟨z, gz, rfl⟩ : ∃ z, bi.t[j]? = some z ∧ y = V.int z := by
          rw [List.getElem?_map] at gy
          cases e : bi.t[j]? with
          | none => rw [e] at gy; cases gy
          | some u => rw [e] at gy; exact ⟨u, rfl, (Option.some.inj gy).symm⟩
        walk_at "rd"
        rw [if_pos trivial]
        refine ⟨by decide, fun p np => ?_⟩
        exact hA _ (z, x) _ (by rw [gz]; rfl) (same_upd np) ⟨p, rfl, upd_same⟩
      · rw [List.length_map, fm_range (L := bi.t) (fun z => some ((z, x) : Pr)), List.filterMap_eq_map'] at pe2
        have hc7 := s7 _ _ hc6
        have w2l := Paired.length pe2
        rw [List.length_map] at w2l
        refine ⟨fn2, rfl, _, hc7, _, hfn2, Nat.le_of_lt (len_big (by omega)), ?_⟩
        have kt7 : KT H7 (upd H7 cn (HO.lst (ws3 ++ es2))) := KT.lst hc7
        refine nx2 (ws3 ++ es2) _ (same_ch (s06.trans s7) ncn) (x6.trans (Sx.of s7)).ch upd_same ?_ (by rw [List.length_append]; omega)
        rw [show Gx D bi bo x = bi.t.map fun z => ((z, x) : Pr) from if_pos ⟨c1, c2, c3⟩]
        exact paired_append ((pw6.kt (KT.same s7)).kt kt7) (Paired.mapP pe2 fun _ _ q => q.kt kt7)
    · rw [if_neg (fun z => c1 (ejn.mp z))]
      refine nx2 ws3 H6 s06 x6 hc6 ?_ (by omega)
      rw [show Gx D bi bo x = [] from if_neg fun h => c1 h.1, List.append_nil]
      exact pw6
end

/-! ### of a forced pair the last call of the first stands before that of the second -/
theorem pre_part {D : List Pr} {L : List Cl} : ∀ (m k : Nat) (R : List Int), ∀ b ∈ preF m (blkF D L k R), ∃ k' P, b = blkP D L k' P ∧ Part D P ∧ ∀ x ∈ P, x ∈ R
  | 0, _, _, _, h => by cases h
  | _ + 1, 0, _, _, h => by cases h
  | m + 1, k + 1, R, b, h => by
    rw [blkF_succ] at h
    obtain ⟨c, hc, hb⟩ := List.mem_flatMap.mp h
    obtain ⟨P, hP, rfl⟩ := List.mem_map.mp hc
    have hs := pcsF_spec D R
    rcases List.mem_cons.mp hb with z | z
    · exact ⟨k, P, z, hs.part hP, hs.sub_of hP⟩
    · cases e : wordP L P with
      | none =>
        rw [blkP_none e, show (Blk.mk none P []).i = [] from rfl, preF_nil] at z
        cases z
      | some w =>
        rw [blkP_some e] at z
        obtain ⟨k', P', e1, e2, e3⟩ := pre_part m k _ b z
        exact ⟨k', P', e1, e2, fun x hx => hs.sub_of hP x (List.mem_filter.mp (e3 x hx)).1⟩
theorem near_adj {D : List Pr} {x y : Int} (h : y ∈ nearF x D) : Adj D x y := by
  unfold nearF at h
  obtain ⟨d, hd, e⟩ := List.mem_filterMap.mp h
  by_cases c1 : d.1 = x
  · rw [if_pos c1] at e
    have e2 := Option.some.inj e
    rw [← c1, ← e2]
    exact .inl hd
  · rw [if_neg c1] at e
    by_cases c2 : d.2 = x
    · rw [if_pos c2] at e
      have e2 := Option.some.inj e
      rw [← c2, ← e2]
      exact .inr hd
    · rw [if_neg c2] at e
      cases e
/-- what a forced pair tells: two parts, one within the other, the outer one with x called last -/
theorem forced_part {D : List Pr} {L : List Cl} {r : Nat} (r12 : r ≤ 12) {z x : Int} (h : ((z, x) : Pr) ∈ pairsF D (formF D r L)) : ∃ (P : List Int) (w v : Str), Part D P ∧ (∀ y ∈ P, y ∈ rg r) ∧ z ∈ P ∧ x ∉ P ∧ x ∈ rg r ∧ wordP L P = some w ∧ wordP L (upF (x :: P)) = some v ∧ w ≠ v ∧ Part D (upF (x :: P)) ∧ wordP L [z] = some w ∧ wordP L [x] = some v := by
  unfold pairsF at h
  obtain ⟨bo, hbo, h⟩ := List.mem_flatMap.mp h
  obtain ⟨bi, hbi, h⟩ := List.mem_flatMap.mp h
  obtain ⟨k1, P1, e1, p1, sub1⟩ := pre_part 13 12 (rg r) bo hbo
  have l1 : P1.length ≤ 12 := by
    have := int_sub_len2 (up_nd p1.1) sub1
    rw [rg_len] at this
    omega
  cases ew : wordP L P1 with
  | none =>
    rw [e1, blkP_none ew, show (Blk.mk none P1 []).i = [] from rfl, preF_nil] at hbi
    cases hbi
  | some v =>
    rw [e1, blkP_some ew] at hbi
    obtain ⟨k2, P2, e2, p2, sub2⟩ := pre_part 13 k1 _ bi hbi
    have sub21 : ∀ y ∈ P2, y ∈ P1 := fun y hy => (List.mem_filter.mp (sub2 y hy)).1
    have l2 : P2.length ≤ 12 := Nat.le_trans (int_sub_len2 (up_nd p2.1) sub21) l1
    have wi : bi.w = wordP L P2 := by rw [e2, blkP_w]
    have wo : bo.w = some v := by rw [e1, blkP_w, ew]
    rw [pairB_eq] at h
    obtain ⟨x', hx', h⟩ := List.mem_flatMap.mp h
    unfold Gx at h
    by_cases c : besB D (rmsB bi) x' = true ∧ bi.w ≠ none ∧ bi.w ≠ bo.w
    · rw [if_pos c] at h
      obtain ⟨z', hz', e⟩ := List.mem_map.mp h
      have ez : z' = z := (Prod.mk.inj e).1
      have ex : x' = x := (Prod.mk.inj e).2
      subst ez
      subst ex
      cases ewi : wordP L P2 with
      | none => rw [wi] at c; exact absurd ewi c.2.1
      | some w =>
        have wne : w ≠ v := fun q => c.2.2 (by rw [wi, wo, ewi, q])
        have hz2 : z' ∈ upF (keepL D L 12 P2) := by
          rw [e2, blkP_some ewi] at hz'
          exact hz'
        have hx2 : x' ∈ upF (keepL D L 12 P1) := by
          rw [e1, blkP_some ew] at hx'
          exact hx'
        obtain ⟨zP, zk⟩ := (keepL_iff 12 P2 w l2 p2 ewi z').mp ((upF_mem _ _).mp hz2)
        obtain ⟨xP, xk⟩ := (keepL_iff 12 P1 v l1 p1 ew x').mp ((upF_mem _ _).mp hx2)
        have one : ∀ y : Int, Part D [y] := fun y => ⟨List.pairwise_singleton _ _, y, List.mem_singleton.mpr rfl, fun u hu => by rw [List.mem_singleton.mp hu]; exact .base (List.mem_singleton.mpr rfl)⟩
        obtain ⟨y, hy, hy2⟩ := List.any_eq_true.mp c.1
        have yP : y ∈ P2 := by
          have := of_decide_eq_true hy2
          rw [e2] at this
          exact (rms_of (up_nd p2.1)).1 y this
        have nx : x' ∉ P2 := fun q => by
          have := (List.mem_filter.mp (sub2 _ q)).2
          exact of_decide_eq_true this ((upF_mem _ _).mp hx2)
        obtain ⟨s, hs, hr⟩ := p2.2
        have inU : ∀ u ∈ P2, u ∈ upF (x' :: P2) := fun u hu => (upF_mem _ _).mpr (List.mem_cons_of_mem _ hu)
        have xU : x' ∈ upF (x' :: P2) := (upF_mem _ _).mpr List.mem_cons_self
        have pU : Part D (upF (x' :: P2)) := ⟨upF_up _, x', xU, fun u hu => by
          rcases List.mem_cons.mp ((upF_mem _ _).mp hu) with q | q
          · rw [q]
            exact .base xU
          · exact ((Rch.base xU).step (near_adj hy) (inU y yP)).trans (((hr y yP).symm.trans (hr u q)).mono inU)⟩
        have wU := xk _ pU xU fun u hu => by
          rcases List.mem_cons.mp ((upF_mem _ _).mp hu) with q | q
          · rw [q]
            exact xP
          · exact sub21 u q
        exact ⟨P2, w, v, p2, fun u hu => sub1 u (sub21 u hu), zP, nx, sub1 _ xP, ewi, wU, wne, pU, zk _ (one _) (List.mem_singleton.mpr rfl) fun u hu => by rw [List.mem_singleton.mp hu]; exact zP, xk _ (one _) (List.mem_singleton.mpr rfl) fun u hu => by rw [List.mem_singleton.mp hu]; exact xP⟩
    · rw [if_neg c] at h
      cases h
theorem forced_last {D : List Pr} {L : List Cl} {r : Nat} (r12 : r ≤ 12) {z x : Int} (h : ((z, x) : Pr) ∈ pairsF D (formF D r L)) : ∃ (A B : List Cl) (c : Cl), lastF L = A ++ c :: B ∧ c.1 = x ∧ z ∈ A.map (·.1) := by
  obtain ⟨P, w, v, p, sub, zP, nx, xr, wP, wU, ne, pU, wz, wx⟩ := forced_part r12 h
  have zU : z ∈ upF (x :: P) := (upF_mem _ _).mpr (List.mem_cons_of_mem _ zP)
  have e : wordP (lastF L) (upF (x :: P)) = some v := by rw [wordP_last]; exact wU
  have e2 : wordP (lastF L) P = some w := by rw [wordP_last]; exact wP
  have e3 : wordP (lastF L) [z] = some w := by rw [wordP_last]; exact wz
  generalize lastF L = S at e e2 e3 ⊢
  cases hc : lastIn (upF (x :: P)) S with
  | none => unfold wordP at e; rw [hc] at e; cases e
  | some c =>
    have ev : c.2 = v := by unfold wordP at e; rw [hc] at e; exact Option.some.inj e
    have cx : c.1 = x := by
      rcases List.mem_cons.mp ((upF_mem _ _).mp (lastIn_in hc)) with q | q
      · exact q
      · have := lastIn_sub S hc q fun u hu => (upF_mem _ _).mpr (List.mem_cons_of_mem _ hu)
        unfold wordP at e2
        rw [this] at e2
        exact absurd ((Option.some.inj e2).symm.trans ev) ne
    unfold lastIn at hc
    obtain ⟨_, Bs, As, e4, e5⟩ := List.find?_eq_some_iff_append.mp hc
    have eS : S = As.reverse ++ c :: Bs.reverse := by
      have := congrArg List.reverse e4
      rw [List.reverse_reverse, List.reverse_append, List.reverse_cons, List.append_assoc] at this
      exact this
    refine ⟨As.reverse, Bs.reverse, c, eS, cx, ?_⟩
    have hz : ∃ d ∈ S, d.1 = z := by
      cases hd : lastIn [z] S with
      | none => unfold wordP at e3; rw [hd] at e3; cases e3
      | some d =>
        refine ⟨d, List.mem_reverse.mp (List.mem_of_find?_eq_some hd), ?_⟩
        exact List.mem_singleton.mp (lastIn_in hd)
    obtain ⟨d, hd, ed⟩ := hz
    rw [eS] at hd
    rcases List.mem_append.mp hd with q | q
    · exact List.mem_map.mpr ⟨d, q, ed⟩
    · rcases List.mem_cons.mp q with q | q
      · exact absurd (by rw [← ed, q, cx] : z = x) fun g => nx (g ▸ zP)
      · have := e5 d (List.mem_reverse.mp q)
        rw [ed] at this
        simp [zU] at this

/-! ### an order of the called rooms that keeps all forced pairs leaves the same form -/
/-- the first room stands before the second -/
def Bef (O : List Int) (z x : Int) : Prop := ∃ i j : Nat, O[i]? = some z ∧ O[j]? = some x ∧ i < j
theorem nd_pos {T : List Int} (nd : T.Nodup) {i j : Nat} {x : Int} (h : T[i]? = some x) (k : T[j]? = some x) : i = j := by
  obtain ⟨hi, ei⟩ := List.getElem?_eq_some_iff.mp h
  obtain ⟨hj, ej⟩ := List.getElem?_eq_some_iff.mp k
  have := List.pairwise_iff_getElem.mp nd
  rcases Nat.lt_trichotomy i j with q | q | q
  · exact absurd (ei.trans ej.symm) (this i j hi hj q)
  · exact q
  · exact absurd (ej.trans ei.symm) (this j i hj hi q)
theorem Bef.trans {O : List Int} (nd : O.Nodup) {a b c : Int} (h : Bef O a b) (k : Bef O b c) : Bef O a c := by
  obtain ⟨i, j, h1, h2, h3⟩ := h
  obtain ⟨i', j', k1, k2, k3⟩ := k
  have := nd_pos nd h2 k1
  exact ⟨i, j', h1, k2, by omega⟩
theorem Bef.irr {O : List Int} (nd : O.Nodup) {a b : Int} (h : Bef O a b) (k : Bef O b a) : False := by
  obtain ⟨i, j, h1, h2, h3⟩ := h.trans nd k
  have := nd_pos nd h1 h2
  omega
theorem rch_exit {D : List Pr} {Q : List Int} {S : Int → Prop} {y t : Int} (h : Rch D Q y t) (hy : S y) (ht : ¬ S t) : ∃ u x, S u ∧ u ∈ Q ∧ ¬ S x ∧ x ∈ Q ∧ Adj D u x := by
  induction h with
  | base _ => exact absurd hy ht
  | @step a b k e m ih =>
    by_cases c : S a
    · exact ⟨a, b, c, k.mem, ht, m, e⟩
    · exact ih c
theorem part_rch {D : List Pr} {Q : List Int} (h : Part D Q) {a b : Int} (ha : a ∈ Q) (hb : b ∈ Q) : Rch D Q a b := by
  obtain ⟨_, s, hs, h2⟩ := h
  exact (h2 a ha).symm.trans (h2 b hb)
theorem one_part (D : List Pr) (y : Int) : Part D [y] := ⟨List.pairwise_singleton _ _, y, List.mem_singleton.mpr rfl, fun u hu => by rw [List.mem_singleton.mp hu]; exact .base (List.mem_singleton.mpr rfl)⟩
theorem pcs_mem {D : List Pr} {R : List Int} {x : Int} (h : x ∈ R) : ∃ P ∈ pcsF D R, x ∈ P := (pcsF_spec D R).cov x h
/-- the word of an inner piece is another one -/
theorem child_word {D : List Pr} {L : List Cl} {P P1 : List Int} {w w1 : Str} (pl : P.length ≤ 12) (p : Part D P) (hw : wordP L P = some w) (h1 : P1 ∈ pcsF D (P.filter fun x => decide (x ∉ keepL D L 12 P))) (hw1 : wordP L P1 = some w1) : w1 ≠ w := by
  intro e
  subst e
  have hs := pcsF_spec D (P.filter fun x => decide (x ∉ keepL D L 12 P))
  cases hc : lastIn P1 L with
  | none => unfold wordP at hw1; rw [hc] at hw1; cases hw1
  | some c =>
    have ec : c.2 = w1 := by unfold wordP at hw1; rw [hc] at hw1; exact Option.some.inj hw1
    have m1 := lastIn_in hc
    have mR := hs.sub_of h1 _ m1
    obtain ⟨mP, nk⟩ := List.mem_filter.mp mR
    refine of_decide_eq_true nk ((keepL_iff 12 P w1 pl p hw c.1).mpr ⟨mP, fun Q hQ hc2 sub => ?_⟩)
    by_cases k : ∃ t ∈ Q, t ∈ keepL D L 12 P
    · obtain ⟨t, tQ, tk⟩ := k
      exact ((keepL_iff 12 P w1 pl p hw t).mp tk).2 Q hQ tQ sub
    · have inR : ∀ x ∈ Q, x ∈ P.filter fun x => decide (x ∉ keepL D L 12 P) := fun x hx => List.mem_filter.mpr ⟨sub x hx, decide_eq_true fun z => k ⟨x, hx, z⟩⟩
      have inP := hs.within hQ inR h1 hc2 m1
      have := lastIn_sub L hc hc2 inP
      unfold wordP
      rw [this]
      show some c.2 = some w1
      rw [ec]
/-- of a room that is no top of a part: some top of the part behind it, in each part that holds the room and a top -/
theorem climb {D : List Pr} {L : List Cl} {O : List Int} (dok : ∀ d ∈ D, d.1 < d.2) (nd : O.Nodup) : ∀ (n m k : Nat) (P : List Int) (w : Str), P.length ≤ n → n ≤ m → P.length ≤ 12 → P.length ≤ k + 1 → Part D P → wordP L P = some w →
    (∀ bo ∈ preF m [blkP D L k P], ∀ bi ∈ preF 13 bo.i, ∀ zx ∈ pairB D bi bo, Bef O zx.1 zx.2) → ∀ y ∈ P, wordP L [y] ≠ none → y ∉ keepL D L 12 P → ∀ Q, Part D Q → (∀ x ∈ Q, x ∈ P) → y ∈ Q → (∃ t ∈ Q, t ∈ keepL D L 12 P) → ∃ t ∈ Q, t ∈ keepL D L 12 P ∧ Bef O y t
  | 0, m, k, P, w, pn, _, _, _, _, _, _, y, yP, _, _, _, _, _, _, _ => by
    have := List.length_eq_zero_iff.mp (Nat.le_zero.mp pn)
    rw [this] at yP
    cases yP
  | n + 1, m, k, P, w, pn, nm, pl, pk, p, hw, ob, y, yP, yc, yk, Q, hQ, sub, yQ, hk => by
    obtain ⟨t0, t0Q, t0k⟩ := hk
    obtain ⟨R, eR⟩ : ∃ R, R = P.filter fun x => decide (x ∉ keepL D L 12 P) := ⟨_, rfl⟩
    have yR : y ∈ R := by rw [eR]; exact List.mem_filter.mpr ⟨yP, decide_eq_true yk⟩
    have Rlt : R.length < P.length := by
      rw [eR]
      exact filter_lt (sub t0 t0Q) (by simpa using t0k)
    have hs := pcsF_spec D R
    obtain ⟨P1, hP1, yP1⟩ := pcs_mem (D := D) yR
    have R1 : 1 ≤ R.length := List.length_pos_of_mem yR
    obtain ⟨k', ek⟩ : ∃ k', k = k' + 1 := ⟨k - 1, by omega⟩
    subst ek
    obtain ⟨m', em⟩ : ∃ m', m = m' + 1 := ⟨m - 1, by omega⟩
    subst em
    have p1 := hs.part hP1
    have P1l : P1.length ≤ R.length := int_sub_len2 (up_nd p1.1) (hs.sub_of hP1)
    have eb : blkP D L (k' + 1) P = .mk (some w) (upF (keepL D L 12 P)) (blkF D L (k' + 1) R) := by rw [blkP_some hw, eR]
    have ei : (blkP D L (k' + 1) P).i = (pcsF D R).map (blkP D L k') := by rw [eb]; rfl
    have mb1 : blkP D L k' P1 ∈ (blkP D L (k' + 1) P).i := by
      rw [ei]
      exact List.mem_map.mpr ⟨P1, hP1, rfl⟩
    cases hw1 : wordP L P1 with
    | none => exact absurd (wordP_sub hw1 fun u hu => by rw [List.mem_singleton.mp hu]; exact yP1) yc
    | some w1 =>
      have wne : w1 ≠ w := child_word pl p hw (by rw [← eR]; exact hP1) hw1
      have t0n : t0 ∉ P1 := fun z => by
        have := hs.sub_of hP1 _ z
        rw [eR] at this
        exact of_decide_eq_true (List.mem_filter.mp this).2 t0k
      obtain ⟨u, x, uP1, uQ, xn, xQ, adj⟩ := rch_exit (S := fun z => z ∈ P1) (part_rch hQ yQ t0Q) yP1 t0n
      have xk : x ∈ keepL D L 12 P := Classical.byContradiction fun c => by
        have xR : x ∈ R := by rw [eR]; exact List.mem_filter.mpr ⟨sub x xQ, decide_eq_true c⟩
        obtain ⟨s, hsR, pc⟩ := hs.pc P1 hP1
        exact xn ((pc.2 x).mpr (((pc.2 u).mp uP1).step adj xR))
      have uR := rms_all (D := D) (L := L) (k := k') (P := P1) (by omega) (by omega) u uP1
      have bes : besB D (rmsB (blkP D L k' P1)) x = true := List.any_eq_true.mpr ⟨u, (mem_nearF dok).mpr adj.symm, decide_eq_true uR⟩
      have top : ∀ z ∈ keepL D L 12 P1, Bef O z x := fun z hz => by
        refine ob (blkP D L (k' + 1) P) ?_ (blkP D L k' P1) ?_ (z, x) ?_
        · rw [preF_one]
          exact List.mem_cons_self
        · exact List.mem_flatMap.mpr ⟨_, mb1, List.mem_cons_self⟩
        · rw [pairB_eq]
          refine List.mem_flatMap.mpr ⟨x, ?_, ?_⟩
          · rw [eb]
            exact (upF_mem _ _).mpr xk
          · unfold Gx
            have c1 : (blkP D L k' P1).w ≠ none := by rw [blkP_w, hw1]; simp
            have c2 : (blkP D L k' P1).w ≠ (blkP D L (k' + 1) P).w := by rw [blkP_w, blkP_w, hw1, hw]; exact fun z => wne (Option.some.inj z)
            rw [if_pos ⟨bes, c1, c2⟩]
            refine List.mem_map.mpr ⟨z, ?_, rfl⟩
            rw [blkP_some hw1]
            exact (upF_mem _ _).mpr hz
      by_cases c : y ∈ keepL D L 12 P1
      · exact ⟨x, xQ, xk, top y c⟩
      · obtain ⟨t1, t1P, t1k⟩ := keepL_ne (D := D) (n := 11) hw1
        obtain ⟨t2, _, t2k, b2⟩ := climb dok nd n m' k' P1 w1 (by omega) (by omega) (by omega) (by omega) p1 hw1 (fun bo hbo bi hbi zx hzx => ob bo (by
          rw [preF_one, ei]
          refine List.mem_cons_of_mem _ ?_
          cases m' with
          | zero => cases hbo
          | succ m'' =>
            rw [preF_one] at hbo
            exact List.mem_flatMap.mpr ⟨blkP D L k' P1, List.mem_map.mpr ⟨P1, hP1, rfl⟩, hbo⟩) bi hbi zx hzx) y yP1 yc c P1 p1 (fun z hz => hz) yP1 ⟨t1, t1P, t1k⟩
        exact ⟨x, xQ, xk, b2.trans nd (top t2 t2k)⟩
/-- a log that calls these rooms once each, in this order, with the last words of another log -/
structure OrdLog (L M : List Cl) (O : List Int) : Prop where
  map : M.map (·.1) = O
  nd : O.Nodup
  word : ∀ c ∈ M, wordP L [c.1] = some c.2
theorem last_behind {M : List Cl} {O : List Int} {Q : List Int} {c : Cl} (hm : M.map (·.1) = O) (nd : O.Nodup) (h : lastIn Q M = some c) {t : Int} (tQ : t ∈ Q) : ¬ Bef O c.1 t := by
  rintro ⟨i, j, h1, h2, lt⟩
  unfold lastIn at h
  obtain ⟨_, Bs, As, e4, e5⟩ := List.find?_eq_some_iff_append.mp h
  have eM : M = As.reverse ++ c :: Bs.reverse := by
    have := congrArg List.reverse e4
    rw [List.reverse_reverse, List.reverse_append, List.reverse_cons, List.append_assoc] at this
    exact this
  have ic : O[As.reverse.length]? = some c.1 := by
    rw [← hm, eM, List.map_append, List.map_cons, List.getElem?_append_right (by rw [List.length_map]; exact Nat.le_refl _), List.length_map, Nat.sub_self]
    rfl
  have ei := nd_pos nd h1 ic
  rw [← hm, eM, List.map_append, List.map_cons, List.getElem?_append_right (by rw [List.length_map]; omega), List.length_map] at h2
  obtain ⟨d, hd⟩ : ∃ d, j - As.reverse.length = d + 1 := ⟨j - As.reverse.length - 1, by omega⟩
  rw [hd, List.getElem?_cons_succ, List.getElem?_map] at h2
  cases e : Bs.reverse[d]? with
  | none => rw [e] at h2; cases h2
  | some b =>
    rw [e] at h2
    have eb : b.1 = t := Option.some.inj h2
    have := e5 b (List.mem_reverse.mp (List.mem_of_getElem? e))
    rw [eb] at this
    simp [tQ] at this
theorem obey_go {D : List Pr} {L M : List Cl} {O : List Int} (dok : ∀ d ∈ D, d.1 < d.2) (om : OrdLog L M O) : ∀ (n m k : Nat) (R : List Int), R.length ≤ n → n ≤ m → n ≤ k → R.length ≤ 12 → (∀ x ∈ R, x ∈ O ↔ wordP L [x] ≠ none) → (∀ x ∈ O, wordP L [x] ≠ none) →
    (∀ bo ∈ preF m (blkF D L k R), ∀ bi ∈ preF 13 bo.i, ∀ zx ∈ pairB D bi bo, Bef O zx.1 zx.2) → AlkP D R M L
  | 0, m, k, R, rn, _, _, _, _, _, _ => fun Q hQ sub => by
    obtain ⟨s, hs, _⟩ := hQ.2
    have := sub s hs
    rw [List.length_eq_zero_iff.mp (Nat.le_zero.mp rn)] at this
    cases this
  | n + 1, 0, k, R, rn, nm, _, _, _, _, _ => by omega
  | n + 1, m + 1, 0, R, rn, _, nk, _, _, _, _ => by omega
  | n + 1, m + 1, k + 1, R, rn, nm, nk, r12, inO, all, ob => fun Q hQ sub => by
    have hs := pcsF_spec D R
    obtain ⟨s, sQ, _⟩ := hQ.2
    obtain ⟨P, hP, sP⟩ := pcs_mem (D := D) (sub s sQ)
    have QP := hs.within hQ sub hP sQ sP
    have p := hs.part hP
    have PR := hs.sub_of hP
    have Pl : P.length ≤ R.length := int_sub_len2 (up_nd p.1) PR
    have eF : blkF D L (k + 1) R = (pcsF D R).map (blkP D L k) := rfl
    have mb : blkP D L k P ∈ blkF D L (k + 1) R := by rw [eF]; exact List.mem_map.mpr ⟨P, hP, rfl⟩
    have obP : ∀ bo ∈ preF (m + 1) [blkP D L k P], ∀ bi ∈ preF 13 bo.i, ∀ zx ∈ pairB D bi bo, Bef O zx.1 zx.2 := fun bo hbo => by
      rw [preF_one] at hbo
      exact ob bo (List.mem_flatMap.mpr ⟨_, mb, hbo⟩)
    cases hw : wordP L P with
    | none =>
      rw [wordP_sub hw QP]
      refine wordP_out fun c hc cQ => ?_
      have := om.word c hc
      rw [wordP_sub hw fun u hu => by rw [List.mem_singleton.mp hu]; exact QP _ cQ] at this
      cases this
    | some w =>
      by_cases hk : ∃ t ∈ Q, t ∈ keepL D L 12 P
      · obtain ⟨t, tQ, tk⟩ := hk
        have kw := (keepL_iff 12 P w (by omega) p hw t).mp tk
        rw [kw.2 Q hQ tQ QP]
        have tw : wordP L [t] = some w := kw.2 [t] (one_part D t) (List.mem_singleton.mpr rfl) fun u hu => by rw [List.mem_singleton.mp hu]; exact kw.1
        have tO : t ∈ O := (inO t (PR t kw.1)).mpr (by rw [tw]; simp)
        cases hc : lastIn Q M with
        | none =>
          rw [← om.map] at tO
          obtain ⟨c, hc1, hc2⟩ := List.mem_map.mp tO
          exact absurd (hc2 ▸ tQ) (lastIn_none.mp hc c hc1)
        | some c =>
          have cQ := lastIn_in hc
          have cM : c ∈ M := List.mem_reverse.mp (List.mem_of_find?_eq_some hc)
          have cw := om.word c cM
          have ck : c.1 ∈ keepL D L 12 P := Classical.byContradiction fun n2 => by
            obtain ⟨t2, t2Q, _, b⟩ := climb dok om.nd P.length (m + 1) k P w (Nat.le_refl _) (by omega) (by omega) (by omega) p hw obP c.1 (QP _ cQ) (by rw [cw]; simp) n2 Q hQ QP cQ ⟨t, tQ, tk⟩
            exact last_behind om.map om.nd hc t2Q b
          have := ((keepL_iff 12 P w (by omega) p hw c.1).mp ck).2 [c.1] (one_part D _) (List.mem_singleton.mpr rfl) fun u hu => by rw [List.mem_singleton.mp hu]; exact QP _ cQ
          rw [cw] at this
          unfold wordP
          rw [hc]
          exact this
      · have QR : ∀ x ∈ Q, x ∈ P.filter fun x => decide (x ∉ keepL D L 12 P) := fun x hx => List.mem_filter.mpr ⟨QP x hx, decide_eq_true fun z => hk ⟨x, hx, z⟩⟩
        obtain ⟨t, tP, tk⟩ := keepL_ne (D := D) (n := 11) hw
        have lt : (P.filter fun x => decide (x ∉ keepL D L 12 P)).length < P.length := filter_lt tP (by simpa using tk)
        refine obey_go dok om n m k (P.filter fun x => decide (x ∉ keepL D L 12 P)) (by omega) (by omega) (by omega) (by omega) (fun x hx => inO x (PR x (List.mem_filter.mp hx).1)) all (fun bo hbo => obP bo ?_) Q hQ QR
        rw [preF_one, blkP_some hw]
        exact List.mem_cons_of_mem _ hbo
/-- all pairs kept: all parts have the same words -/
theorem obey_alk {D : List Pr} {L M : List Cl} {O : List Int} {r : Nat} (r12 : r ≤ 12) (dok : ∀ d ∈ D, d.1 < d.2) (om : OrdLog L M O) (inO : ∀ x ∈ rg r, x ∈ O ↔ wordP L [x] ≠ none) (all : ∀ x ∈ O, wordP L [x] ≠ none) (ob : ∀ zx ∈ pairsF D (formF D r L), Bef O zx.1 zx.2) : AlkP D (rg r) M L := by
  refine obey_go dok om 12 13 12 (rg r) (by rw [rg_len]; exact r12) (by decide) (Nat.le_refl _) (by rw [rg_len]; exact r12) inO all fun bo hbo bi hbi zx hzx => ob zx ?_
  exact List.mem_flatMap.mpr ⟨bo, hbo, List.mem_flatMap.mpr ⟨bi, hbi, hzx⟩⟩
theorem lastF_nd {M : List Cl} (nd : (M.map (·.1)).Nodup) : lastF M = M := by
  induction M with
  | nil => rfl
  | cons c S ih =>
    obtain ⟨n1, n2⟩ := List.nodup_cons.mp nd
    show (if c.1 ∈ S.map (·.1) then lastF S else c :: lastF S) = _
    rw [if_neg n1, ih n2]
/-- all parts have the same words: all pairs are kept -/
theorem alk_obey {D : List Pr} {L M : List Cl} {O : List Int} {r : Nat} (r12 : r ≤ 12) (om : OrdLog L M O) (h : AlkP D (rg r) M L) : ∀ zx ∈ pairsF D (formF D r L), Bef O zx.1 zx.2 := by
  rintro ⟨z, x⟩ hzx
  rw [← form_alk r12 h] at hzx
  obtain ⟨A, B, c, e, cx, hz⟩ := forced_last r12 hzx
  rw [lastF_nd (by rw [om.map]; exact om.nd)] at e
  obtain ⟨i, hi⟩ := List.getElem?_of_mem hz
  have il := (List.getElem?_eq_some_iff.mp hi).1
  refine ⟨i, (A.map (·.1)).length, ?_, ?_, il⟩
  · rw [← om.map, e, List.map_append, List.getElem?_append_left il]
    exact hi
  · rw [← om.map, e, List.map_append, List.map_cons, List.getElem?_append_right (Nat.le_refl _), Nat.sub_self]
    exact congrArg some cx

/-! ### all(test for a, b in xs), xs a list of pairs of ints -/
section
variable {X : Cx} {pins : List (Addr × Obj)} {σ : L2.St} {H : Hp} {s : Shared}
def EltP (X : Cx) (pins : List (Addr × Obj)) (σ : L2.St) (H1 : Hp) (P : Addr) (scope : Scope) (xa xb : Str) (elt : Expr) (ps : List Pr) (pb : Pr → Bool) : Prop :=
  ∀ (cenv : Env) (A' : Around) (E' : Value → Shared → Prop) (p : Pr) (u v : Value) (sa s2 : Shared) (m2 : Str → Option Value), cenv.scope = scope → cenv.cells = cloFrom X.env.cells scope.names [] → p ∈ ps → L2.RelV (V.int p.1) u → L2.RelV (V.int p.2) v → s2.heap.Ns cenv.locals m2 → m2 xa = some u → m2 xb = some v →
    Inv X pins σ H1 sa → (∀ b o, b ≠ P → sa.heap.get? b = some o → s2.heap.get? b = some o) → wpAny (model X.prog X.w) A' (eval elt cenv) (fun y s3 => y = .bool (pb p) ∧ Keeps s2 s3) E' s2
structure GenP (esc scope : Scope) (xa xb : Str) : Prop where
  kind : scope.kind = .function
  co : scope.isCoroutine = false
  cell : ∀ y ∈ scope.names, y.2 ≠ .cell
  dot : scope.names.lookup (".0" : Str) = some NameKind.local
  la : scope.names.lookup xa = some .local
  lb : scope.names.lookup xb = some .local
  ne : xa ≠ xb
  free : ∀ y ∈ scope.names, y.2 = .free → esc.names.lookup y.1 = some .cell ∨ esc.names.lookup y.1 = some .free
def trP (pb : Pr → Bool) (l : List Pr) (j : Nat) : Bool := match l[j]? with
  | some b => pb b
  | none => false
theorem trP_some {pb : Pr → Bool} {l : List Pr} {j : Nat} {b : Pr} (h : l[j]? = some b) : trP pb l j = pb b := by
  unfold trP
  rw [h]
theorem all_trP (l : List Pr) (pb : Pr → Bool) : (List.range l.length).all (trP pb l) = l.all pb := by
  rw [Bool.eq_iff_iff, List.all_eq_true, List.all_eq_true]
  constructor
  · intro h b hb
    obtain ⟨j, hj, e⟩ := List.getElem_of_mem hb
    have q := h j (List.mem_range.mpr hj)
    rw [trP_some (List.getElem?_eq_getElem hj), e] at q
    exact q
  · intro h j hj
    have hj' := List.mem_range.mp hj
    rw [trP_some (List.getElem?_eq_getElem hj')]
    exact h _ (List.getElem_mem hj')
/-- what is walked lies in the range -/
theorem walksU_lt {prog : Program} {w : World} {A : Around} {I : Addr} {fp wr : List Addr} {n : Nat} {Pt : Nat → Array Value → Prop} {St : Nat → Heap → Prop} {Mid : Nat → Addr → Heap → Prop} (W : WalksU prog w A I fp wr n Pt St Mid) : WalksU prog w A I fp wr n (fun j v => j < n ∧ Pt j v) St Mid where
  sub := W.sub
  frame := W.frame
  item := fun i s Q E hi st hQ => W.item i s Q E hi st fun T vals h' tk hp ht hm hk => hQ T vals h' tk ⟨hi, hp⟩ ht hm hk
  go := W.go
  apart := W.apart
  done := W.done
  self := W.self
def adrOf : Option Value → Addr
  | some (.ref a) => a
  | _ => 0
/-- a list of pairs, ready to be walked -/
theorem iter_pairs {yl : Addr} {ws : List V} {ps : List Pr} {Q' : Value → Shared → Prop} (I : Inv X pins σ H s) (h : SqL X.K H yl ws) (hp : PL H ws ps)
    (q : ∀ (us : List Value) (Ts : Nat → Addr) (vals : Nat → Array Value) (o : Obj), us.length = ps.length → yl < s.heap.objs.size → (∀ k, k < us.length → Ts k < s.heap.objs.size) →
      (∀ {c : Addr} {fs : Array Value}, s.heap.get? c = some { cls := .none, data := .fields fs } → yl ≠ c ∧ ∀ k, k < us.length → Ts k ≠ c) →
      (∀ k p, ps[k]? = some p → ∃ u v, vals k = #[u, v] ∧ L2.RelV (V.int p.1) u ∧ L2.RelV (V.int p.2) v) →
      (∀ k, k < us.length → ∃ u v, vals k = #[u, v]) →
      (∀ A' : Around, A'.handled = none → WalksU X.prog X.w A' s.heap.objs.size (s.heap.objs.size :: yl :: (List.range us.toArray.size).map Ts) [s.heap.objs.size] us.toArray.size (fun j v => v = vals j)
        (fun j h => h.IsListIter s.heap.objs.size yl j ∧ h.IsList yl us.toArray ∧ ∀ k, k < us.toArray.size → h.IsTuple (Ts k) (vals k))
        (fun j T h => (j < us.toArray.size ∧ T = Ts j) ∧ h.IsListIter s.heap.objs.size yl (j + 1) ∧ h.IsList yl us.toArray ∧ ∀ k, k < us.toArray.size → h.IsTuple (Ts k) (vals k))) →
      ((s.heap.push o).IsListIter s.heap.objs.size yl 0 ∧ (s.heap.push o).IsList yl us.toArray ∧ ∀ k, k < us.toArray.size → (s.heap.push o).IsTuple (Ts k) (vals k)) → Q' (.ref s.heap.objs.size) { s with heap := s.heap.push o }) : wpAny (model X.prog X.w) X.A (pyIter (.ref yl)) Q' X.xe s := by
  obtain ⟨us, rv, hl, hz⟩ := I.list h
  have lst := hl.isList
  have lt : yl < s.heap.objs.size := by
    obtain ⟨_, e, _⟩ := _root_.id lst
    exact Heap.lt_size e
  have ul : us.length = ps.length := by rw [← rv.length, hp.len]
  have one : ∀ k, k < us.length → ∃ (t : Addr) (p : Pr) (u v : Value), us[k]? = some (.ref t) ∧ ps[k]? = some p ∧ s.heap.IsTuple t #[u, v] ∧ L2.RelV (V.int p.1) u ∧ L2.RelV (V.int p.2) v := fun k hk => by
    have hkw : k < ws.length := by rw [rv.length]; exact hk
    obtain ⟨d, hd, t, et, ht⟩ := hp.get (List.getElem?_eq_getElem hkw)
    obtain ⟨u0, hu0, r0⟩ := rv.get (List.getElem?_eq_getElem hkw)
    rw [et] at r0
    obtain rfl : u0 = Value.ref t := r0
    obtain ⟨its, r, pl, _⟩ := I.tuple (SqT.of ht)
    cases r with
    | cons ra rr =>
    cases rr with
    | cons rb rr =>
    cases rr
    exact ⟨t, d, _, _, hu0, hd, pl, ra, rb⟩
  classical
  let vals : Nat → Array Value := fun k => if h : ∃ u v : Value, s.heap.IsTuple (adrOf us[k]?) #[u, v] then #[Classical.choose h, Classical.choose (Classical.choose_spec h)] else #[]
  have tup : ∀ k, k < us.length → s.heap.IsTuple (adrOf us[k]?) (vals k) := fun k hk => by
    obtain ⟨t, p, u, v, e1, e2, e3, e4, e5⟩ := one k hk
    have hx : ∃ u v : Value, s.heap.IsTuple (adrOf us[k]?) #[u, v] := ⟨u, v, by rw [e1]; exact e3⟩
    show s.heap.IsTuple (adrOf us[k]?) (if h : _ then _ else _)
    rw [dif_pos hx]
    exact Classical.choose_spec (Classical.choose_spec hx)
  have uniq : ∀ {t : Addr} {a b : Array Value}, s.heap.IsTuple t a → s.heap.IsTuple t b → a = b := fun {t a b} ha hb => by
    obtain ⟨o1, e1, c1, n1, d1⟩ := ha
    obtain ⟨o2, e2, c2, n2, d2⟩ := hb
    rw [e1] at e2
    cases e2
    rw [d1] at d2
    cases d2
    rfl
  have tlt : ∀ k, k < us.length → adrOf us[k]? < s.heap.objs.size := fun k hk => by
    obtain ⟨_, e, _⟩ := tup k hk
    exact Heap.lt_size e
  refine wpAny_pyIter_list lst (q us (fun k => adrOf us[k]?) vals _ ul lt tlt ?_ ?_ ?_ (fun A' hand => WalksU.listOfTuples hand _ yl (Nat.ne_of_lt lt) us.toArray (fun k => adrOf us[k]?) vals ?_ ?_) ⟨⟨_, Heap.get?_push_size _ rfl, rfl, rfl⟩, ?_, ?_⟩)
  · intro c fs e
    refine ⟨fun z => ?_, fun k hk z => ?_⟩
    · obtain ⟨ob, e1, _, _, d1⟩ := _root_.id lst
      rw [z, e] at e1
      cases e1
      cases d1
    · obtain ⟨ob, e1, _, _, d1⟩ := tup k hk
      rw [z, e] at e1
      cases e1
      cases d1
  · intro k p hk
    have hkl : k < us.length := by rw [ul]; exact (List.getElem?_eq_some_iff.mp hk).1
    obtain ⟨t, p', u, v, e1, e2, e3, e4, e5⟩ := one k hkl
    rw [hk] at e2
    cases e2
    have e6 := tup k hkl
    rw [e1] at e6
    exact ⟨u, v, uniq e6 e3, e4, e5⟩
  · intro k hk
    obtain ⟨t, p', u, v, e1, e2, e3, e4, e5⟩ := one k hk
    have e6 := tup k hk
    rw [e1] at e6
    exact ⟨u, v, uniq e6 e3⟩
  · intro j hj
    have hj' : j < us.length := by simpa using hj
    obtain ⟨t, p', u, v, e1, _⟩ := one j hj'
    rw [List.getElem?_toArray, e1]
    rfl
  · intro j hj
    have hj' : j < us.length := by simpa using hj
    exact Nat.ne_of_lt (tlt j hj')
  · obtain ⟨ob, e, r⟩ := _root_.id lst
    exact ⟨ob, Heap.get?_push_of_some _ e, r⟩
  · intro k hk
    have hk' : k < us.length := by simpa using hk
    obtain ⟨ob, e, r⟩ := tup k hk'
    exact ⟨ob, Heap.get?_push_of_some _ e, r⟩
def ReadyP (X : Cx) (pins : List (Addr × Obj)) (σ : L2.St) (H1 : Hp) (P : Addr) (ps : List Pr) (pb : Pr → Bool) (g : Addr) (s5 : Shared) : Prop :=
  ∃ (ft wt : List Addr) (G : Array GenState → Array GenState → Prop) (F : Nat → Value → Prop) (St : Nat → Shared → Prop),
    WalksS X.prog X.w X.A.in1 g ft wt G ps.length F St ∧ St 0 s5 ∧ TruthOf X.prog X.w X.A.in1 F (trP pb ps) ∧ ∀ s', Moved wt G s5 s' → ∃ H2, GxR.Tabbed P H1 H2 ∧ Inv X pins σ H2 s'
theorem gen_prs {c P : Addr} {elt iter : Expr} {xa xb : Str} {pa pb_ pt gpos : Pos} {kt : Nat} {scope : Scope} {pb : Pr → Bool} {te : TE} {k : Nat} {Q' : Value → Shared → Prop} {R : List Pr → Hp → Prop}
    (hr : Room k X.A) (TB : GxR.TabB X.base X.mg c P) (hcode : X.env.code = .ref c) (S : GenP X.env.scope scope xa xb) (hi : PE X iter te) (hs : ∀ v, genFold iter X.env v = pure v) (I : Inv X pins σ H s)
    (h : te σ H fun v H1 => ∃ (yl : Addr) (ws : List V) (ps : List Pr), v = .ref yl ∧ SqL X.K H1 yl ws ∧ PL H1 ws ps ∧ (∀ pins, EltP X pins σ H1 P scope xa xb elt ps pb) ∧ GxR.TabG H1 P ∧ R ps H1)
    (hQ : ∀ ps H1 g s5, R ps H1 → ReadyP X pins σ H1 P ps pb g s5 → Q' (.ref g) s5) :
    wpAny (model X.prog X.w) X.A (eval (.GeneratorExp elt [⟨.Tuple [.Name xa pa, .Name xb pb_] kt pt, iter, [], 0⟩] scope gpos) X.env) Q' X.xe s := by
  refine wpAny_GeneratorExp_walksQT hr.hd S.co (closure_ok fun y hy e => (S.free y hy e).elim (fun z => I.ok.has _ (.inl z)) fun z => I.ok.has _ (.inr z)) S.cell S.dot S.la S.lb S.ne S.kind (by have := hr.dp; omega) ?_ hs
  refine thn (hi.run pins s σ H _ I h) fun uv sa ⟨v, H1, I1, r1, q1⟩ => ?_
  obtain ⟨yl, ws, ps, rfl, hyl, hpl, hel, ⟨tb, hP, ht⟩, q1⟩ := q1
  obtain rfl : uv = Value.ref yl := r1
  refine iter_pairs I1 hyl hpl fun us Ts vals o ul ylt tslt apart vat vsz W hst => ?_
  have tbs : sa.heap.get? P = some { cls := .none, data := .fields tb } := I1.hok P _ hP
  have tlt : P < sa.heap.objs.size := Heap.lt_size tbs
  have tb2 : (sa.heap.push o).get? P = some { cls := .none, data := .fields tb } := Heap.get?_push_of_some _ tbs
  have cd : PySem.W.CodeHd (sa.heap.push o) c P := TB.code.keeps fun b u e => Heap.get?_push_of_some _ (I1.bk b u e)
  have nl2 : (sa.heap.push o).NoLimit := I1.nolimit.push o
  have memL : ∀ {c : Addr}, c ∈ (sa.heap.objs.size :: yl :: (List.range us.toArray.size).map Ts) → c = sa.heap.objs.size ∨ c = yl ∨ ∃ k, k < us.length ∧ c = Ts k := fun {c} hc => by
    rcases List.mem_cons.mp hc with z | z
    · exact .inl z
    · rcases List.mem_cons.mp z with z | z
      · exact .inr (.inl z)
      · obtain ⟨k, hk, e⟩ := List.mem_map.mp z
        exact .inr (.inr ⟨k, by simpa using hk, e.symm⟩)
  have goes : ∀ (code : Value) (hw : Heap) (tk : Nat) (ps' : Array Value), Heap.ExtBut P (sa.heap.push o) hw → (sa.heap.push o).objs.size ≤ hw.objs.size → hw.get? P = some { cls := .none, data := .fields ps' } → (∃ add, ps' = tb ++ add) → TriplesOk ps'.toList →
      wpAny (model X.prog X.w) X.A (builtinsFor X.env.globals X.env.builtins) (fun bi z4 =>
        ∃ Ia ft wt nn Pf St0 Md pz F, Value.ref sa.heap.objs.size = .ref Ia ∧ (∀ A' : Around, A'.handled = none → WalksU X.prog X.w A' Ia ft wt nn Pf St0 Md) ∧ (∀ i vals, Pf i vals → ∃ va vb, vals = #[va, vb]) ∧ St0 0 z4.heap ∧ (∀ b ∈ ft, b < z4.heap.objs.size) ∧ z4.heap.NoLimit ∧ cStatics ∉ wt ∧
          (∀ hrf : Heap, (∀ b o, z4.heap.get? b = some o → hrf.get? b = some o) →
            QuietGenT X.prog X.w (genEnv scope (cloFrom X.env.cells scope.names []) z4.heap.objs.size code bi X.env) xa xb [] elt (List.range z4.heap.objs.size) wt Pf pz F hrf) ∧
          (∀ a hn5_ tk gst, gst.bare = true → z4.heap.objs.size < a → hn5_.objs.size = a + 1 → (∀ b o, z4.heap.get? b = some o → hn5_.get? b = some o) →
            WalksS X.prog X.w X.A.in4 a (a :: z4.heap.objs.size :: List.range z4.heap.objs.size) (z4.heap.objs.size :: wt) (GenOnlyQ z4.gens.size) (passing pz nn 0).length
              (fun q0 y => ∃ i, (passing pz nn 0)[q0]? = some i ∧ F i y) (GenAt X.prog X.w X.A.in4 a z4.gens.size z4.heap.objs.size (List.range z4.heap.objs.size) wt pz nn F) →
            GenAt X.prog X.w X.A.in4 a z4.gens.size z4.heap.objs.size (List.range z4.heap.objs.size) wt pz nn F 0 { z4 with gens := z4.gens.push gst, toks := tk, heap := hn5_ } →
            Q' (.ref a) { z4 with gens := z4.gens.push gst, toks := tk, heap := hn5_ })) X.xe { sa with heap := hw, toks := tk } := by
    intro code hw tk ps' hx hsz tb3 mre tr3
    obtain ⟨bm, ob, e1, e2, e3, e4, e5, e6, e7, e8⟩ := TB.bm
    have cnP : cStatics ≠ P := fun e => by
      obtain ⟨_, hns, _⟩ := I1.nolimit
      obtain ⟨o', es, ep, ho, hd, _⟩ := hns
      rw [e, tbs] at ho
      cases ho
      cases hd
    have clt : cStatics < sa.heap.objs.size := let ⟨_, hns, _⟩ := I1.nolimit; hns.lt
    have sze : (sa.heap.push o).objs.size = sa.heap.objs.size + 1 := Heap.size_push ..
    have kp3 : ∀ b u, b ≠ P → sa.heap.get? b = some u → hw.get? b = some u := fun b u hb e => hx b u hb (Heap.get?_push_of_some _ e)
    refine wpAny_builtinsFor (m := X.mg) (by rw [I1.ok.glob]; exact ((I1.mod.glob.keeps I1.bk).push o).extBut hx TB.gP) e1 e2 (kp3 _ _ e4 (I1.bk _ _ e5)) e6 e7 e8 ?_
    refine ⟨sa.heap.objs.size, _, _, us.toArray.size, (fun j v => j < us.toArray.size ∧ v = vals j), _, _, (fun _ => true),
      (fun i y => ∃ p, ps[i]? = some p ∧ y = .bool (pb p)), rfl, (fun A' hA => walksU_lt (W A' hA)), (fun i vs hv => ?_), ?_, ?_, nl2.extBut hx cnP, ?_, ?_, ?_⟩
    · obtain ⟨u, v, e⟩ := vsz i (by simpa using hv.1)
      exact ⟨u, v, hv.2.trans e⟩
    · refine (W X.A hr.hd).frame 0 _ _ hst fun b hb u e => hx b u (fun z => ?_) e
      rcases memL hb with q | q | ⟨k, hk, q⟩
      · exact Nat.ne_of_lt tlt (z.symm.trans q)
      · exact (apart tbs).1 (q.symm.trans z)
      · exact (apart tbs).2 k hk (q.symm.trans z)
    · intro b hb
      rcases memL hb with q | q | ⟨k, hk, q⟩
      · rw [q]
        show sa.heap.objs.size < hw.objs.size
        omega
      · rw [q]
        have e9 : sa.heap.objs.size ≤ hw.objs.size := by omega
        exact Nat.lt_of_lt_of_le ylt e9
      · rw [q]
        have e9 : sa.heap.objs.size ≤ hw.objs.size := by omega
        exact Nat.lt_of_lt_of_le (tslt k hk) e9
    · intro z
      rcases List.mem_cons.mp z with z | z
      · exact Nat.ne_of_lt clt z
      · cases z
    · intro hrf khr
      refine ⟨fun A' E' i va vb s2 mm hand vP hn ma mb hk => ?_, fun A' E' i va vb s2 mm hand vP hp hn ma mb hk => ?_⟩
      · simp only [List.forIn_nil]
        exact wpAny_pure ⟨rfl, GxR.keeps_refl _⟩
      · have il : i < ps.length := by
          have h9 := vP.1
          rw [List.size_toArray] at h9
          omega
        obtain ⟨u, v, e, ra, rb⟩ := vat i _ (List.getElem?_eq_getElem il)
        have e2 := vP.2.trans e
        obtain ⟨rfl, rfl⟩ : va = u ∧ vb = v := by simpa using congrArg Array.toList e2
        refine wpAny_mono (hel pins _ A' E' _ va vb sa s2 mm rfl rfl (List.getElem_mem il) ra rb hn ma mb I1 fun d u nd e => ?_) (fun y s3 r => ⟨⟨_, List.getElem?_eq_getElem il, r.1⟩, r.2⟩) fun _ _ e => e
        have e3 := kp3 d u nd e
        refine hk d (List.mem_range.mpr (Heap.lt_size e3)) (fun z => ?_) u (khr d u e3)
        rcases List.mem_cons.mp z with z | z
        · exact Nat.ne_of_lt (Heap.lt_size e) z
        · cases z
    · intro g hg5 tkg gst gbr agt sz5 kg5 Wg gat
      simp only [GxR.passing_true, List.length_range] at Wg
      have hn5 : us.toArray.size = ps.length := by rw [List.size_toArray, ul]
      rw [hn5] at Wg gat
      refine hQ ps H1 g _ q1 ⟨_, _, _, _, _, Wg.in4_1, gat, ?_, fun s' mvd => ?_⟩
      · intro q0 y sj Qj Ej hy hQj
        obtain ⟨i, hij, p, hb, rfl⟩ := hy
        obtain ⟨q0l, ej⟩ := List.getElem?_eq_some_iff.mp hij
        rw [List.getElem_range] at ej
        subst ej
        have hQ2 : Qj (trP pb ps q0) sj := hQj
        rw [trP_some hb] at hQ2
        exact wpAny_truthy_bool hQ2
      · obtain ⟨add, eadd⟩ := mre
        have notw : ∀ b u, sa.heap.get? b = some u → b ∉ hw.objs.size :: [sa.heap.objs.size] := fun b u e hb => by
          have hl := Heap.lt_size e
          rcases List.mem_cons.mp hb with z | z
          · rw [z] at hl
            have h9 : (hw.objs.size : Nat) < sa.heap.objs.size := hl
            omega
          · rcases List.mem_cons.mp z with z | z
            · rw [z] at hl
              exact Nat.lt_irrefl _ hl
            · cases z
        have J := GxR.inv_tab (more := add) (h' := s'.heap) (g' := s'.gens) (d' := s'.drawn) (t' := s'.toks) I1 hP (fun b u hb e => mvd.heap b u (notw b u e) (kg5 b u (kp3 b u hb e)))
          (by rw [← eadd]; exact mvd.heap P _ (notw P _ tbs) (kg5 P _ tb3)) (AllBare.movedS (I1.bare.push gbr) mvd)
        rw [GxR.sh_eta sa s' mvd.os] at J
        refine ⟨upd H1 P (.tbl (tb ++ add)), ⟨⟨tb ++ add, upd_same, by rw [← eadd]; exact tr3⟩, fun b hb => upd_ne hb⟩, J⟩
  refine ⟨nl2, ?_⟩
  cases hf : codeAmong gpos tb.toList with
  | none =>
    refine wpAny_genexprCodeX hcode (cd.code tb2 ht) (cd.tab tb2) hf fun c' h' tk hx hge hlt hco' _ htab' _ => ?_
    obtain ⟨o1, vs, f1, tf, fl, tg, inF, tx, tt, op, _, _, _, _, _, _, _, _, _, htr, _⟩ := hco'
    exact goes _ h' tk _ hx (Nat.le_trans hge (Nat.le_of_lt hlt)) htab'.2 ⟨_, rfl⟩ htr
  | some cv =>
    refine wpAny_genexprCode_hit hcode (cd.code tb2 ht) hf ?_
    exact goes cv (sa.heap.push o) sa.toks tb (Heap.ExtBut.refl _ _) (Nat.le_refl _) tb2 ⟨#[], by simp⟩ ht
/-- all(test for xa, xb in e), e a list of pairs; behind it the def's table may have grown -/
def tAllP (X : Cx) (P : Addr) (scope : Scope) (xa xb : Str) (elt : Expr) (pb : Pr → Bool) (te : TE) : TE := fun σ H Q => te σ H fun v H1 => ∃ (yl : Addr) (ws : List V) (ps : List Pr), v = .ref yl ∧ SqL X.K H1 yl ws ∧ PL H1 ws ps ∧ (∀ pins, EltP X pins σ H1 P scope xa xb elt ps pb) ∧ GxR.TabG H1 P ∧ ∀ H2, GxR.Tabbed P H1 H2 → Q (.bl (ps.all pb)) H2
theorem pe_allP {c P : Addr} {elt iter : Expr} {xa xb : Str} {pa pb_ pt p pos gpos : Pos} {kt : Nat} {scope : Scope} {pb : Pr → Bool} {te : TE} {k : Nat}
    (hr : Room k X.A) (hg : Gl X "all") (mvd : X.mg "all" = none) (hb : bootBuiltins "all" = some (.builtin "all")) (TB : GxR.TabB X.base X.mg c P) (hcode : X.env.code = .ref c) (S : GenP X.env.scope scope xa xb) (hi : PE X iter te)
    (hs : ∀ v, genFold iter X.env v = pure v)
    (he : starEach [.GeneratorExp elt [⟨.Tuple [.Name xa pa, .Name xb pb_] kt pt, iter, [], 0⟩] scope gpos] X.env = (false, eval (.GeneratorExp elt [⟨.Tuple [.Name xa pa, .Name xb pb_] kt pt, iter, [], 0⟩] scope gpos) X.env) :: starEach [] X.env := by rfl) :
    PE X (.Call (.Name "all" p) [.GeneratorExp elt [⟨.Tuple [.Name xa pa, .Name xb pb_] kt pt, iter, [], 0⟩] scope gpos] [] pos) (tAllP X P scope xa xb elt pb te) := by
  refine ⟨fun pins s σ H Q I h => ?_⟩
  refine wpAny_Call_Name_kw (ld_blt I hg mvd hb ?_)
  refine PyProof.Rows.callWith_builtin1 ?_ he (by rfl)
  rw [he]
  show wpAny _ _ (spliced ((false, eval (.GeneratorExp elt [⟨.Tuple [.Name xa pa, .Name xb pb_] kt pt, iter, [], 0⟩] scope gpos) X.env) :: backTo pos (starEach [] X.env))) _ _ s
  refine Calls.spliced_cons (gen_prs (pb := pb) (R := fun ps H1 => ∀ H2, GxR.Tabbed P H1 H2 → Q (.bl (ps.all pb)) H2) hr TB hcode S hi hs I h fun ps H1 g s5 hR hG => ?_)
  obtain ⟨ft, wt, G, F, St, W, hst, htr, hI⟩ := hG
  refine Calls.spliced_nil ?_
  refine call_all_walkS (W.self 0 _ _ _ hst ⟨g, ft, wt, G, _, F, St, _, rfl, W, hst, htr, fun s' hmv => ?_⟩)
  obtain ⟨H2, hT, J⟩ := hI s' hmv
  refine ⟨.bl _, H2, J, rfl, ?_⟩
  rw [all_trP]
  exact hR H2 hT
end

/-! ### tuples that are known to have no dict of their own: t.index(x) -/
def TF (H : Hp) (t : Addr) (xs : List V) : Prop := ∃ o : Obj, o.dict = none ∧ H t = some (.frz o (.tup xs))
theorem TF.sq {K : PySem.W.Frag} {H : Hp} {t : Addr} {xs : List V} (h : TF H t xs) : SqT K H t xs := by
  obtain ⟨o, _, e⟩ := h
  exact .inl (.inr ⟨o, e⟩)
theorem TF.same {H H' : Hp} {t : Addr} {xs : List V} (h : TF H t xs) (s : Same H H') : TF H' t xs := by
  obtain ⟨o, d, e⟩ := h
  exact ⟨o, d, s _ _ e⟩
theorem TF.new {H : Hp} {t : Addr} {xs : List V} {o : Obj} (d : o.dict = none) : TF (upd H t (.frz o (.tup xs))) t xs := ⟨o, d, upd_same⟩
section
variable {X : Cx} {es : List Expr} {t : TA} {pos : Pos}
def tTupF (t : TA) : TE := fun σ H Q => t σ H fun xs H1 => xs.length ≤ sizeLine ∧ ∀ p o, H1 p = none → o.dict = none → Q (.ref p) (upd H1 p (.frz o (.tup xs)))
theorem pe_tupF {x1} (h : PA X es t) : PE X (.Tuple es x1 pos) (tTupF t) := by
  refine ⟨fun pins s σ H Q I hq => ?_⟩
  refine wpAny_Tuple_spliced (thn (h.run pos pins s σ H _ I hq) fun us s1 ⟨xs, H1, I1, r, z, q⟩ => ⟨by rw [← r.length]; exact z, ?_⟩)
  have hf : H1 s1.heap.objs.size = none := I1.hok.fresh (Nat.le_refl _)
  refine ⟨.ref s1.heap.objs.size, upd H1 s1.heap.objs.size (.frz { cls := .type "tuple", data := .seq us.toArray } (.tup xs)), I1.laid (t' := s1.toks) (fun b u e => Heap.get?_push_of_some _ e) (Nat.le_refl _) ?_, rfl, q _ _ hf rfl⟩
  exact ⟨Heap.get?_push_size _ rfl, z, us, r, ⟨_, Heap.get?_push_size _ rfl, rfl, _, rfl⟩⟩
def rCatF (K : PySem.W.Frag) : R2 := fun x y H Q => ∃ a b xs ys, x = .ref a ∧ y = .ref b ∧ SqT K H a xs ∧ SqT K H b ys ∧ xs.length + ys.length ≤ sizeLine ∧
  (xs = [] → Q (.ref b) H) ∧ (xs ≠ [] → ys = [] → Q (.ref a) H) ∧ (xs ≠ [] → ys ≠ [] → ∀ p o, H p = none → o.dict = none → Q (.ref p) (upd H p (.frz o (.tup (xs ++ ys)))))
theorem op_catF : OpR X (binaryOp .Add) (rCatF X.K) := by
  intro pins s σ H x y v u Q I rx ry h
  obtain ⟨a, b, xs, ys, rfl, rfl, ha, hb, hz, q0, q1, q2⟩ := h
  cases rx
  cases ry
  obtain ⟨its, r1, p1, _⟩ := I.tuple ha
  obtain ⟨its2, r2, p2, _⟩ := I.tuple hb
  by_cases hx : xs = []
  · subst hx
    cases r1
    exact cat_tup0 p1 p2 ⟨.ref b, H, I, rfl, q0 rfl⟩
  · refine HT.cat_tup p1 p2 (fun z => hx (r1.nil_iff.mp z)) (fun z => ⟨.ref a, H, I, rfl, q1 hx (r2.nil_iff.mp z)⟩) (fun z => ?_) (by rw [← r1.length, ← r2.length]; exact hz)
    refine ⟨.ref s.heap.objs.size, _, I.laid (t' := s.toks) (o := .frz { cls := .type "tuple", data := .seq (its ++ its2).toArray } (.tup (xs ++ ys))) (fun b ob q => Heap.get?_push_of_some _ q) (Nat.le_refl _) ?_, rfl, q2 hx (fun w => z (r2.nil_iff.mpr w)) _ _ (I.hok.fresh (Nat.le_refl _)) rfl⟩
    exact ⟨Heap.get?_push_size _ rfl, by rw [List.length_append]; exact hz, _, r1.append r2, ⟨_, Heap.get?_push_size _ rfl, rfl, _, rfl⟩⟩
/-- t[lo:hi]: the whole of it is t itself -/
def rSlF (K : PySem.W.Frag) : V → Option Int → Option Int → Hp → VK → Prop := fun x lo hi H Q => ∃ a xs, x = .ref a ∧ SqT K H a xs ∧
  (HT.sIx xs.length 0 lo = 0 ∧ HT.sIx xs.length xs.length hi = xs.length → Q (.ref a) H) ∧ (¬ (HT.sIx xs.length 0 lo = 0 ∧ HT.sIx xs.length xs.length hi = xs.length) → ∀ p o, H p = none → o.dict = none → Q (.ref p) (upd H p (.frz o (.tup (cutV xs lo hi)))))
theorem sl_tupF : SlR X (rSlF X.K) := by
  intro pins s σ H x v vl vu lo hi sl Q I rx hs pl pu h
  obtain ⟨a, xs, rfl, hx, q1, q2⟩ := h
  cases rx
  obtain ⟨its, r, ht, hz⟩ := I.tuple hx
  have hlen : its.toArray.size = xs.length := by rw [List.size_toArray]; exact r.length.symm
  refine ⟨"tuple", _, PyProof.Rows.slot_tuple_getitem.lookup, ht.typeIs, ?_⟩
  by_cases hw : HT.sIx xs.length 0 lo = 0 ∧ HT.sIx xs.length xs.length hi = xs.length
  · exact getItem_tuple_whole ht hs pl pu (by rw [hlen]; exact hw) ⟨.ref a, H, I, rfl, q1 hw⟩
  · refine HT.getItem_tuple_cut ht hs pl pu (by rw [hlen]; exact hw) ?_ (by rw [hlen]; exact hz)
    rw [hlen]
    refine ⟨.ref s.heap.objs.size, _, I.laid (t' := s.toks) (o := .frz { cls := .type "tuple", data := .seq ((its.drop (HT.sIx xs.length 0 lo)).take (HT.sIx xs.length xs.length hi - HT.sIx xs.length 0 lo)).toArray } (.tup (cutV xs lo hi))) (fun b ob q => Heap.get?_push_of_some _ q) (Nat.le_refl _) ?_, rfl, q2 hw _ _ (I.hok.fresh (Nat.le_refl _)) rfl⟩
    exact ⟨Heap.get?_push_size _ rfl, Nat.le_trans (cutV_length xs lo hi) hz, _, (r.drop (HT.sIx xs.length 0 lo)).take (HT.sIx xs.length xs.length hi - HT.sIx xs.length 0 lo), ⟨_, Heap.get?_push_size _ rfl, rfl, _, rfl⟩⟩
end
theorem idx_le {z : Int} : ∀ {O : List Int} {m : Nat}, O[m]? = some z → O.idxOf z ≤ m
  | [], _, h => by cases h
  | a :: O, 0, h => by
    have e : a = z := Option.some.inj h
    rw [e, List.idxOf_cons_self]
    exact Nat.le_refl _
  | a :: O, m + 1, h => by
    rw [List.idxOf_cons]
    have := idx_le (O := O) (m := m) (z := z) h
    cases a == z with
    | true => exact Nat.zero_le _
    | false =>
      show O.idxOf z + 1 ≤ m + 1
      omega
/-- the call of tuple.index, for ints -/
theorem idx_call {prog : Program} {w : World} {A : Around} {E : Value → Shared → Prop} {s : Shared} {b : Addr} {its : List Value} {O : List Int} {z : Int} {u : Value} {Q : Value → Shared → Prop} (hT : s.heap.IsTuple b its.toArray) (rv : Vals (O.map V.int) its) (ru : L2.RelV (V.int z) u) (hz : z ∈ O)
    (q : Q (.int ((O.idxOf z : Nat) : Int) s.toks) { s with toks := s.toks + 1 }) : wpAny (model prog w) A (call (.builtin "tuple.index") [.ref b, u]) Q E s := by
  obtain ⟨⟨cls, dd, dt, sl⟩, ho, hc, n, hd⟩ := hT
  simp only at hc hd
  subst hc
  subst hd
  have hl : its.toArray.size = O.length := by rw [List.size_toArray, ← rv.length, List.length_map]
  have hi := List.idxOf_lt_length_of_mem hz
  have hj : O.idxOf z < its.toArray.size := by rw [hl]; exact hi
  have fl : (O.map V.int).all flatV = true := flI O
  refine call_meets PySem.F.slot_tuple_index ⟨_, ho, rfl⟩ PySem.F.entry_tuple_index (PySem.F.args_tuple_index_2 _ _) (TI.tuple_indexAt b its.toArray n dd sl u (eqU (V.int z)) (O.idxOf z) hj ?_ ?_)
    ⟨ho, fun v hv => mem_eqAt ru rfl rv fl v (by simpa using hv), q⟩
  · obtain ⟨v, hv, r⟩ := rv.get (i := O.idxOf z) (x := V.int z) (by rw [List.getElem?_map, List.getElem?_eq_getElem hi, List.getElem_idxOf hi]; rfl)
    have e : its.toArray[O.idxOf z] = v := by
      have := (List.getElem?_eq_some_iff.mp hv).2
      simpa using this
    rw [e, eqU_of r rfl]
    show decide _ = true
    simp
  · intro m hm hmj
    have hmo : m < O.length := by omega
    obtain ⟨v, hv, r⟩ := rv.get (i := m) (x := V.int O[m]) (by rw [List.getElem?_map, List.getElem?_eq_getElem hmo]; rfl)
    have e : its.toArray[m] = v := by
      have := (List.getElem?_eq_some_iff.mp hv).2
      simpa using this
    have ne : O[m] ≠ z := fun h => by
      have := idx_le (O := O) (z := z) (m := m) (by rw [List.getElem?_eq_getElem hmo, h])
      omega
    rw [e, eqU_of r rfl]
    show decide _ = false
    simpa using ne
section
variable {X : Cx} {o e : Expr} {to : TE} {t : TA} {apos cpos : Pos}
def rIdxF : V → List V → Hp → VK → Prop := fun x xs H Q => ∃ (t : Addr) (ns : List Int) (z : Int), x = .ref t ∧ xs = [.int z] ∧ TF H t (ns.map V.int) ∧ z ∈ ns ∧ Q (.int ((ns.idxOf z : Nat) : Int)) H
def tIdxF (to : TE) (t : TA) : TE := fun σ H Q => to σ H fun x H1 => (∃ a xs, x = .ref a ∧ TF H1 a xs) ∧ t σ H1 fun xs H2 => rIdxF x xs H2 Q
theorem tf_of {pins : List (Addr × Obj)} {σ : L2.St} {H : Hp} {s : Shared} {a : Addr} {xs : List V} (I : Inv X pins σ H s) (h : TF H a xs) : ∃ (ob : Obj) (its : List Value), s.heap.get? a = some ob ∧ ob.dict = none ∧ Vals xs its ∧ s.heap.IsTuple a its.toArray := by
  obtain ⟨its, r, p, _⟩ := I.tuple h.sq
  obtain ⟨ob, d, e⟩ := h
  obtain ⟨g, _⟩ := I.hok a _ e
  exact ⟨ob, its, g, d, r, p⟩
theorem pe_idxF (ho : PE X o to) (ha : PA X [e] t)
    (hbase : attributeBase o "index" X.env (eval o X.env) = eval o X.env := by rfl)
    (hfew : ((backTo cpos (starEach [e] X.env)).all (fun x => !x.1) && (backToKw cpos (keywordEach [] X.env)).all (fun x => x.1.isSome)
      && decide ([e].length + ([] : List Keyword).length + (if ([] : List Keyword).isEmpty then 0 else 1) < 30)) = true := by rfl)
    (hline : (apos.endLine == cpos.line) = true := by rfl) (hs : starEach [e] X.env = (false, eval e X.env) :: starEach [] X.env := by rfl) (hplain : (backTo cpos (starEach [] X.env)).any (·.1) = false := by rfl) :
    PE X (.Call (.Attribute o "index" apos) [e] [] cpos) (tIdxF to t) := by
  refine ⟨fun pins s σ H Q I h => ?_⟩
  refine wpAny_Call_method_late hbase hfew hline rfl (thn (ho.run pins s σ H _ I h) fun v s1 ⟨x, H1, I1, r1, ty, q1⟩ => ?_)
  obtain ⟨a, xs, rfl, hx⟩ := ty
  obtain rfl : v = Value.ref a := r1
  obtain ⟨ob, its, g, d, r, p⟩ := tf_of I1 hx
  refine ⟨"tuple", "tuple.index", PySem.F.plainAttrs_tuple, PySem.F.slot_tuple_index, PySem.F.type_tuple_index, p.typeIs, fun b eb => by cases eb; exact ⟨ob, g, d⟩, ?_⟩
  have hA := ha.run cpos pins s1 σ H1 _ I1 q1
  rw [hs] at hA ⊢
  refine Calls.callWith_builtin (by show (false || (backTo cpos (starEach [] X.env)).any (·.1)) = false; rw [hplain] <;> rfl) (Calls.evalArgs_plain ?_)
  refine thn hA fun us s2 ⟨vs, H2, I2, r2, q2⟩ => ?_
  obtain ⟨t', ns, z, e1, rfl, h2, hz, q⟩ := q2
  cases e1
  cases r2 with
  | cons ru rr =>
  cases rr
  obtain ⟨ob2, its2, g2, d2, rv2, p2⟩ := tf_of I2 h2
  exact idx_call p2 rv2 ru hz ⟨.int _, H2, I2.tok _, ⟨_, rfl⟩, q⟩
end
/-- order.index(a) < order.index(b), order a name of the def, a and b of the walk -/
theorem elt_idx {X : Cx} {pins : List (Addr × Obj)} {σ : L2.St} {H1 : Hp} {P b : Addr} {scope : Scope} {xa xb y : Str} {j : Nat} {O : List Int} {ps : List Pr} {p1 p2 p3 p4 p5 p6 p7 p8 p9 : Pos} (S : GenP X.env.scope scope xa xb) (hy : (y, NameKind.free) ∈ scope.names) (hy2 : scope.names.lookup y = some .free) (hc : X.env.scope.names.lookup y = some .cell)
    (hj : X.N[j]? = some y) (hs : σ[j]? = some (some (V.ref b))) (hb : TF H1 b (O.map V.int)) (tb : GxR.TabG H1 P) (hm : ∀ p ∈ ps, p.1 ∈ O ∧ p.2 ∈ O)
    (l1 : (p2.endLine == p4.line) = true) (l2 : (p6.endLine == p8.line) = true)
    (hd : (xa == ("__debug__" : Str)) = false := by decide) (hd1 : (xb == ("__debug__" : Str)) = false := by decide) (hd2 : (y == ("__debug__" : Str)) = false := by decide) (hn : (y == ("__classdict__" : Str)) = false := by decide) :
    EltP X pins σ H1 P scope xa xb (.Compare (.Call (.Attribute (.Name y p1) "index" p2) [.Name xa p3] [] p4) [.Lt] [.Call (.Attribute (.Name y p5) "index" p6) [.Name xb p7] [] p8] p9) ps (fun p => decide (O.idxOf p.1 < O.idxOf p.2)) := by
  intro cenv A' E' p u v s1 s2 m2 ecs ecc hp ru rv hns hma hmb I keep
  obtain ⟨tbx, hP, _⟩ := tb
  obtain ⟨hpa, hpb⟩ := hm p hp
  have nP : b ≠ P := fun z => by
    obtain ⟨o, _, e⟩ := hb
    rw [z, hP] at e
    cases e
  obtain ⟨m, hnm, hl⟩ := I.loc
  obtain ⟨ub, rb, look⟩ := hl j y (.ref b) hj hs (.inr (.inl hc))
  obtain rfl : ub = Value.ref b := rb
  obtain ⟨c, hcl, hcell⟩ : ∃ c, X.env.cells.lookup y = some c ∧ s1.heap.IsCell c (some (Value.ref b)) := by
    rcases look with ⟨z, _⟩ | ⟨_, a', ha', hcell⟩
    · have z' : X.env.scope.names.lookup y = some .local := z
      rw [hc] at z'
      cases z'
    · exact ⟨a', ha', hcell⟩
  have ncP : c ≠ P := fun z => by
    have := I.freeC y c hcl
    rw [z, hP] at this
    cases this
  have hcell2 : s2.heap.IsCell c (some (Value.ref b)) := by
    obtain ⟨o, ho, hd⟩ := hcell
    exact ⟨o, keep _ _ ncP ho, hd⟩
  have hcl2 : cenv.cells.lookup y = some c := by
    rw [ecc]
    exact NdefX.clo_has (fun y hy e => (S.free y hy e).elim (fun z => I.ok.has _ (.inl z)) fun z => I.ok.has _ (.inr z)) hy hcl
  obtain ⟨ob, its, g, d, r, pT⟩ := tf_of I hb
  have g2 : s2.heap.get? b = some ob := keep _ _ nP g
  have pT2 : s2.heap.IsTuple b its.toArray := by
    obtain ⟨o, e, q⟩ := _root_.id pT
    exact ⟨o, keep _ _ nP e, q⟩
  have one : ∀ {x : Str} {q1 q2 q3 q4 : Pos} {z : Int} {v : Value} {tk : Nat} {Q : Value → Shared → Prop}, (q2.endLine == q4.line) = true → (x == ("__debug__" : Str)) = false → scope.names.lookup x = some .local → m2 x = some v → L2.RelV (V.int z) v → z ∈ O →
      Q (.int ((O.idxOf z : Nat) : Int) tk) { s2 with toks := tk + 1 } → wpAny (model X.prog X.w) A' (eval (.Call (.Attribute (.Name y q1) "index" q2) [.Name x q3] [] q4) cenv) Q E' { s2 with toks := tk } := fun {x q1 q2 q3 q4 z v tk Q} l hdx lx mx rz hz q => by
    refine wpAny_Call_method_late (by rfl) (by rfl) l rfl ?_
    refine wpAny_Name (wpAny_loadName_free (by rw [ecs]; exact S.kind) (show cenv.scope.names.lookup y = some .free by rw [ecs]; exact hy2) hcl2 hcell2 ?_ hn) hd2
    refine ⟨"tuple", "tuple.index", PySem.F.plainAttrs_tuple, PySem.F.slot_tuple_index, PySem.F.type_tuple_index, pT2.typeIs, fun a ea => by cases ea; exact ⟨ob, g2, d⟩, ?_⟩
    refine Calls.callWith_builtin (by rfl) (Calls.evalArgs_plain (Calls.spliced_cons ?_))
    refine wpAny_Name (wpAny_loadName_local (by rw [ecs]; exact S.kind) (show cenv.scope.names.lookup x = some .local by rw [ecs]; exact lx) hns mx ?_) hdx
    refine Calls.spliced_nil ?_
    exact idx_call (s := { s2 with toks := tk }) pT2 r rz hz q
  refine wpAny_Compare1 ?_
  refine one l1 hd S.la hma ru hpa ?_
  refine one l2 hd1 S.lb hmb rv hpb ?_
  refine lt_int ⟨?_, ?_⟩
  · show Value.bool _ = Value.bool _
    congr 1
    simp
  · exact ⟨s2.heap, _, rfl, fun _ _ e => e⟩

/-! ### an order obeys pairs -/
theorem rg_up (r : Nat) : Up (rg r) := by
  unfold Up rg
  rw [List.pairwise_map]
  exact List.pairwise_lt_range.imp fun h => by show ((_ : Nat) : Int) < ((_ : Nat) : Int); omega
def obB (O : List Int) (ps : List Pr) : Bool := ps.all fun p => decide (O.idxOf p.1 < O.idxOf p.2)

/-! ### called_rooms, called_by_form, obeys_pairs, keeps_form -/
abbrev sCrm : Stmt := topS 0
abbrev sCbf : Stmt := topS 0
theorem sm_none {H H1 : Hp} {t : Addr} (s : Same H H1) (n : H1 t = none) : H t = none := by
  cases e : H t with
  | none => rfl
  | some o =>
    rw [s _ _ e] at n
    cases n
/-- the rooms with a word -/
def calF (ws : List (Option Str)) : List Int := ((List.range ws.length).filter fun i => (ws[i]?.join).isSome).map fun i : Nat => (i : Int)
section
variable {P : Program} {w : World} {K : PySem.W.Frag} {mg : Str → Option Value} {base : Heap}
def cldF (r : Nat) (L : List Cl) : List Int := (rg r).filter fun x => (wordP L [x]).isSome
theorem cal_rg (r : Nat) (L : List Cl) : calF ((rg r).map fun x => wordP L [x]) = cldF r L := by
  unfold calF cldF rg
  rw [List.length_map, List.length_map, List.length_range, List.filter_map]
  congr 1
  refine List.filter_congr fun i hi => ?_
  have := List.mem_range.mp hi
  rw [List.getElem?_map, List.getElem?_map, List.getElem?_range this]
  rfl
theorem cld_up (r : Nat) (L : List Cl) : Up (cldF r L) := List.Pairwise.filter _ (rg_up r)
theorem cld_mem {r : Nat} {L : List Cl} {x : Int} : x ∈ cldF r L ↔ x ∈ rg r ∧ wordP L [x] ≠ none := by
  unfold cldF
  rw [List.mem_filter]
  cases wordP L [x] <;> simp
end

/-! ### == and != of lists of ints -/
theorem ni_eqv : ∀ T U : List Int, PyData.eqvAll (T.map .int) (U.map .int) = true ↔ T = U
  | [], [] => by simp [PyData.eqvAll]
  | [], _ :: _ => by simp [PyData.eqvAll]
  | _ :: _, [] => by simp [PyData.eqvAll]
  | x :: T, y :: U => by
    simp only [List.map_cons, PyData.eqvAll, PyData.eqv, Bool.and_eq_true, beq_iff_eq, List.cons.injEq, ni_eqv T U]
theorem ni_lay : ∀ T : List Int, PyData.canLayAll0 (T.map .int) = true
  | [] => rfl
  | x :: T => by
    simp only [List.map_cons, PyData.canLayAll0, PyData.canLay0, ni_lay T, Bool.and_self]
theorem ni_dep : ∀ T : List Int, PyData.depthAll (T.map .int) = 0
  | [] => rfl
  | x :: T => by
    simp only [List.map_cons, PyData.depthAll, PyData.depth, ni_dep T, Nat.max_self]
theorem ni_dp {K : PySem.W.Frag} {H : Hp} : ∀ T : List Int, DpAll K H (T.map V.int) (T.map .int)
  | [] => .nil
  | x :: T => .cons (.int x) (ni_dp T)
theorem ni_shaped (T : List Int) : SeqAt.shaped (.list (T.map .int)) = true := by
  unfold SeqAt.shaped
  rw [show (PyData.list (T.map .int)).canLay0 = PyData.canLayAll0 (T.map .int) from rfl, ni_lay, Bool.true_and, decide_eq_true_iff, show (PyData.list (T.map .int)).depth = PyData.depthAll (T.map .int) + 1 from rfl, ni_dep]
  decide
theorem ni_ne {K : PySem.W.Frag} {H : Hp} {a b : Addr} {T U : List Int} {Q : VK} (ha : H a = some (.lst (T.map V.int))) (hb : H b = some (.lst (U.map V.int))) (q : Q (.bl (!decide (T = U))) H) : rNeD K (.ref a) (.ref b) H Q := by
  refine ⟨.list (T.map .int), .list (U.map .int), .lst (SqL.of ha) (ni_dp T), .lst (SqL.of hb) (ni_dp U), ni_shaped T, ni_shaped U, ?_⟩
  have e : PyData.eqv (.list (T.map .int)) (.list (U.map .int)) = decide (T = U) := by
    rw [Bool.eq_iff_iff, decide_eq_true_iff]
    exact ni_eqv T U
  rw [e]
  exact q

/-! ### keeps_form -/
abbrev sKf : Stmt := topS 0
theorem ni_eq {K : PySem.W.Frag} {H : Hp} {a b : Addr} {T U : List Int} {Q : VK} (ha : H a = some (.lst (T.map V.int))) (hb : H b = some (.lst (U.map V.int))) (q : Q (.bl (decide (T = U))) H) : rEqD K (.ref a) (.ref b) H Q := by
  refine ⟨.list (T.map .int), .list (U.map .int), .lst (SqL.of ha) (ni_dp T), .lst (SqL.of hb) (ni_dp U), ni_shaped T, ni_shaped U, ?_⟩
  have e : PyData.eqv (.list (T.map .int)) (.list (U.map .int)) = decide (T = U) := by
    rw [Bool.eq_iff_iff, decide_eq_true_iff]
    exact ni_eqv T U
  rw [e]
  exact q
theorem blk_top {D : List Pr} {L : List Cl} {k : Nat} {P : List Int} (p : Part D P) (l12 : P.length ≤ 12) {x : Int} (hx : x ∈ (blkP D L k P).t) (hw : wordP L P ≠ none) : wordP L [x] ≠ none ∧ x ∈ P := by
  cases e : wordP L P with
  | none => exact absurd e hw
  | some z =>
    rw [blkP_some e] at hx
    have hk := (upF_mem _ _).mp (show x ∈ upF (keepL D L 12 P) from hx)
    obtain ⟨m, f⟩ := (keepL_iff 12 P z l12 p e x).mp hk
    refine ⟨?_, m⟩
    rw [f [x] (one_part D x) (List.mem_singleton.mpr rfl) fun y hy => by rw [List.mem_singleton.mp hy]; exact m]
    exact fun z => nomatch z
/-- forced pairs are pairs of called rooms -/
theorem pair_called {D : List Pr} {L : List Cl} {r : Nat} (r12 : r ≤ 12) {p : Pr} (h : p ∈ pairsF D (formF D r L)) : p.1 ∈ cldF r L ∧ p.2 ∈ cldF r L := by
  unfold pairsF at h
  obtain ⟨bo, hbo, h⟩ := List.mem_flatMap.mp h
  obtain ⟨bi, hbi, h⟩ := List.mem_flatMap.mp h
  have len12 : ∀ {P : List Int}, Part D P → (∀ x ∈ P, x ∈ rg r) → P.length ≤ 12 := fun {P} part sub => by
    have := int_sub_len2 (up_nd part.1) sub
    rw [rg_len] at this
    omega
  obtain ⟨k, P, e, part, sub⟩ := pre_part 13 12 (rg r) bo hbo
  cases eo : wordP L P with
  | none =>
    rw [e, blkP_none eo, show (Blk.mk none P []).i = [] from rfl, preF_nil] at hbi
    cases hbi
  | some wo =>
    have hi2 := hbi
    rw [e, blkP_some eo] at hi2
    obtain ⟨k2, P2, e2, part2, sub2⟩ := pre_part 13 k _ bi hi2
    have sub3 : ∀ x ∈ P2, x ∈ rg r := fun x hx => sub x (List.mem_filter.mp (sub2 x hx)).1
    unfold pairB at h
    cases ew : bi.w with
    | none => rw [ew] at h; cases h
    | some z =>
      rw [ew] at h
      have wi : wordP L P2 ≠ none := fun q => by
        rw [e2, blkP_w, q] at ew
        cases ew
      by_cases c : bo.w = some z
      · simp only [c, if_true] at h; cases h
      · simp only [c, if_false] at h
        obtain ⟨x, hx, h⟩ := List.mem_flatMap.mp h
        by_cases c2 : besB D (rmsB bi) x = true
        · rw [if_pos c2] at h
          obtain ⟨y, hy, rfl⟩ := List.mem_map.mp h
          rw [e2] at hy
          rw [e] at hx
          obtain ⟨h1, h2⟩ := blk_top part2 (len12 part2 sub3) hy wi
          obtain ⟨h3, h4⟩ := blk_top part (len12 part sub) hx (by rw [eo]; exact fun z => nomatch z)
          exact ⟨cld_mem.mpr ⟨sub3 _ h2, h1⟩, cld_mem.mpr ⟨sub _ h4, h3⟩⟩
        · rw [if_neg c2] at h; cases h
theorem perm_up {A B : List Int} (p : A.Perm B) (h : A.Pairwise (· ≤ ·)) (k : B.Pairwise (· ≤ ·)) : A = B :=
  List.Perm.eq_of_pairwise (fun a b _ _ h1 h2 => by have h1' : a ≤ b := h1; have h2' : b ≤ a := h2; omega) h k p
open Classical in
noncomputable def keepB (D : List Pr) (r : Nat) (L : List Cl) (O : List Int) : Bool := decide (O.Perm (cldF r L)) && obB O (pairsF D (formF D r L))
section
variable {P : Program} {w : World} {K : PySem.W.Frag} {mg : Str → Option Value} {base : Heap}
end

/-! ### k35: _law_keeps, _law_leaves -/
abbrev sLkp : Stmt := topS 0
abbrev sLle : Stmt := topS 0
theorem gc_tupS {β : Type} {K : PySem.W.Frag} {a : Addr} {xs : List V} {i : Nat} {tt : TT} {te : TE} {σ : L2.St} {H1 : Hp} {Q : VK} (rel : Hp → V → β → Prop) (up : ∀ H H' v b, rel H v b → KT H H' → rel H' v b) (sel : Nat → Option β) (ha : ∀ H', Same H1 H' → SqT K H' a xs) (len : xs.length ≤ 100000)
    (step : ∀ (j : Nat) (x : V) (Hx : Hp) (A : VK) (B : Hp → Prop), xs[j]? = some x → Same H1 Hx → (∀ v b Hy, sel j = some b → Same Hx Hy → rel Hy v b → A v Hy) → (∀ Hy, sel j = none → Same Hx Hy → B Hy) → tt (σ.set i (some x)) Hx fun c H3 => if c = true then te (σ.set i (some x)) H3 A else B H3)
    (q : ∀ o ys H', Same H1 H' → H1 o = none → H' o = some (.lst ys) → Paired (rel H') ys ((List.range xs.length).filterMap sel) → Q (.ref o) H') :
    tLc (fun _ H R => R (Itt K a) H) (gName i) tt te [i] σ H1 Q := by
  intro D nD
  obtain ⟨Pv, hPv⟩ : ∃ Pv : Nat → Hp → Prop, Pv = (fun j Hx => ∃ ys, Same H1 Hx ∧ Hx D = some (.lst ys) ∧ Paired (rel Hx) ys ((List.range j).filterMap sel)) := ⟨_, rfl⟩
  refine lc_tup (K := K) (a := a) (xs := xs) Pv (by rw [hPv]; exact ⟨[], same_upd nD, upd_same, Paired.nil⟩) (fun j H' _ pv => by rw [hPv] at pv; obtain ⟨_, sm, _⟩ := pv; exact ha _ sm) (fun j x H' gx pv => ?_) (fun H' pv => ?_)
  · rw [hPv] at pv
    obtain ⟨ys, sm, hD, pr⟩ := pv
    have jl := (List.getElem?_eq_some_iff.mp gx).1
    have yl : ys.length ≤ j := by rw [pr.length]; exact fm_len sel j
    have ew : (wipe σ [i]).set i (some x) = σ.set i (some x) := by show (σ.set i none).set i (some x) = _; rw [List.set_set]
    show wipe ((wipe σ [i]).set i (some x)) [i] = wipe σ [i] ∧ tt ((wipe σ [i]).set i (some x)) H' fun c H3 => if c = true then te ((wipe σ [i]).set i (some x)) H3 _ else _
    rw [ew]
    refine ⟨by show (σ.set i (some x)).set i none = σ.set i none; rw [List.set_set], ?_⟩
    refine step j x H' _ _ gx sm (fun v b Hy es sy r => ?_) (fun Hy es sy => ?_)
    · have hD2 := sy _ _ hD
      refine ⟨ys, hD2, len_big (by omega), ?_⟩
      rw [hPv]
      refine ⟨ys ++ [v], same_ch (sm.trans sy) nD, upd_same, ?_⟩
      rw [fm_step, es]
      have kt : KT Hy (upd Hy D (HO.lst (ys ++ [v]))) := KT.lst hD2
      exact Paired.snoc (Paired.mapP pr fun v b h => up _ _ _ _ (up _ _ _ _ h (KT.same sy)) kt) (up _ _ _ _ r kt)
    · rw [hPv]
      refine ⟨ys, sm.trans sy, sy _ _ hD, ?_⟩
      rw [fm_step, es, List.append_nil]
      exact Paired.mapP pr fun v b h => up _ _ _ _ h (KT.same sy)
  · rw [hPv] at pv
    obtain ⟨ys, sm, hD, pr⟩ := pv
    exact q D ys H' sm nD hD pr
theorem lc_filtR {p : Int → Bool} {n i : Nat} {tt : TT} {σ : L2.St} {H1 : Hp} {Q : VK} (len : n ≤ 100000) (hi : i < σ.length)
    (step : ∀ (x : Int) (Hx : Hp) (B : Bool → Hp → Prop), x ∈ rg n → Same H1 Hx → B (p x) Hx → tt (σ.set i (some (.int x))) Hx B)
    (q : ∀ o H', Same H1 H' → H1 o = none → H' o = some (.lst (((rg n).filter p).map V.int)) → Q (.ref o) H') :
    tLc (fun _ H R => R (Itr 0 n) H) (gName i) tt (tVar i) [i] σ H1 Q := by
  refine gc_range IsI (fun _ _ _ _ h _ => h) (fun j => if p (j : Int) = true then some (j : Int) else none) len (fun j Hx A B jl sx hA hB => ?_) (fun o ys H' s no ho pr => ?_)
  · rw [Int.zero_add]
    refine step _ Hx _ (List.mem_map.mpr ⟨j, List.mem_range.mpr jl, rfl⟩) sx ?_
    by_cases c : p (j : Int) = true
    · rw [if_pos c]
      exact ⟨_, by rw [List.getElem?_set_self hi], hA _ _ Hx (if_pos c) (Same.refl _) rfl⟩
    · rw [if_neg c]
      exact hB Hx (if_neg c) (Same.refl _)
  · refine q o H' s no ?_
    have e := isI_map pr
    rw [fm_rg n (fun x => if p x = true then some x else none), fm_if] at e
    rw [e] at ho
    exact ho
def wD : Option Str → PyData
  | none => .none
  | some w => .str w
theorem eqv_w : ∀ o p : Option Str, PyData.eqv (wD o) (wD p) = true ↔ o = p
  | none, none => by simp [wD, PyData.eqv]
  | none, some _ => by simp [wD, PyData.eqv]
  | some _, none => by simp [wD, PyData.eqv]
  | some x, some y => by simp [wD, PyData.eqv]
theorem os_eqv : ∀ T U : List (Option Str), PyData.eqvAll (T.map wD) (U.map wD) = true ↔ T = U
  | [], [] => by simp [PyData.eqvAll]
  | [], _ :: _ => by simp [PyData.eqvAll]
  | _ :: _, [] => by simp [PyData.eqvAll]
  | x :: T, y :: U => by
    simp only [List.map_cons, PyData.eqvAll, Bool.and_eq_true, List.cons.injEq, os_eqv T U, eqv_w]
theorem os_lay : ∀ T : List (Option Str), (∀ z, some z ∈ T → PyData.strOk z = true) → PyData.canLayAll0 (T.map wD) = true
  | [], _ => rfl
  | o :: T, h => by
    have ih := os_lay T fun z hz => h z (List.mem_cons_of_mem _ hz)
    cases o with
    | none => simp only [List.map_cons, wD, PyData.canLayAll0, PyData.canLay0, ih, Bool.and_self]
    | some z => simp only [List.map_cons, wD, PyData.canLayAll0, PyData.canLay0, ih, h z List.mem_cons_self, Bool.and_self]
theorem os_dep : ∀ T : List (Option Str), PyData.depthAll (T.map wD) = 0
  | [] => rfl
  | o :: T => by cases o <;> simp only [List.map_cons, wD, PyData.depthAll, PyData.depth, os_dep T, Nat.max_self]
theorem os_dp {K : PySem.W.Frag} {H : Hp} : ∀ T : List (Option Str), DpAll K H (T.map optS) (T.map wD)
  | [] => .nil
  | none :: T => .cons .non (os_dp T)
  | some z :: T => .cons (.str z) (os_dp T)
theorem os_shaped {T : List (Option Str)} (h : ∀ z, some z ∈ T → PyData.strOk z = true) : SeqAt.shaped (.list (T.map wD)) = true := by
  unfold SeqAt.shaped
  rw [show (PyData.list (T.map wD)).canLay0 = PyData.canLayAll0 (T.map wD) from rfl, os_lay T h, Bool.true_and, decide_eq_true_iff, show (PyData.list (T.map wD)).depth = PyData.depthAll (T.map wD) + 1 from rfl, os_dep]
  decide
theorem os_eq {K : PySem.W.Frag} {H : Hp} {a b : Addr} {T U : List (Option Str)} {Q : VK} (ha : H a = some (.lst (T.map optS))) (hb : H b = some (.lst (U.map optS))) (hT : ∀ z, some z ∈ T → PyData.strOk z = true) (hU : ∀ z, some z ∈ U → PyData.strOk z = true) (q : Q (.bl (decide (T = U))) H) : rEqD K (.ref a) (.ref b) H Q := by
  refine ⟨.list (T.map wD), .list (U.map wD), .lst (SqL.of ha) (os_dp T), .lst (SqL.of hb) (os_dp U), os_shaped hT, os_shaped hU, ?_⟩
  have e : PyData.eqv (.list (T.map wD)) (.list (U.map wD)) = decide (T = U) := by
    rw [Bool.eq_iff_iff, decide_eq_true_iff]
    exact os_eqv T U
  rw [e]
  exact q
section
variable {P : Program} {w : World} {K : PySem.W.Frag} {mg : Str → Option Value} {base : Heap}
def lkB (O : List Int) (ps : List Pr) : Bool := ps.all fun p => !decide (O.idxOf p.2 < O.idxOf p.1)
theorem wordP_wk {n : Nat} {L : List Cl} (ok : ∀ c ∈ L, wk n c.2) {R : List Int} {z : Str} (h : wordP L R = some z) : wk n z := by
  unfold wordP at h
  cases e : lastIn R L with
  | none => rw [e] at h; cases h
  | some c =>
    rw [e] at h
    have e2 : c.2 = z := Option.some.inj h
    unfold lastIn at e
    rw [← e2]
    exact ok c (List.mem_reverse.mp (List.mem_of_find?_eq_some e))
theorem paired_map {α β : Type} {f : β → α} : ∀ {xs : List α} {ys : List β}, Paired (fun v b => v = f b) xs ys → xs = ys.map f
  | _, _, .nil => rfl
  | _, _, .cons r t => by rw [List.map_cons, ← r, ← paired_map t]
/-- the log of an order of called rooms -/
def ordL (L : List Cl) (O : List Int) : List Cl := O.map fun x => (x, (wordP L [x]).getD (Str.ofString ""))
end

/-! ### an order keeps a form exactly if its log leaves every part its word -/
theorem lastF_subK : ∀ L : List Cl, ∀ c ∈ lastF L, c ∈ L := by
  intro L
  induction L with
  | nil => intro c hc; cases hc
  | cons d L ih =>
    intro c hc
    by_cases m : d.1 ∈ L.map (·.1)
    · have e : lastF (d :: L) = lastF L := if_pos m
      rw [e] at hc
      exact List.mem_cons_of_mem _ (ih c hc)
    · have e : lastF (d :: L) = d :: lastF L := if_neg m
      rw [e] at hc
      rcases List.mem_cons.mp hc with z | z
      · rw [z]; exact List.mem_cons_self
      · exact List.mem_cons_of_mem _ (ih c z)
theorem lastF_ndK : ∀ L : List Cl, ((lastF L).map (·.1)).Nodup := by
  intro L
  induction L with
  | nil => exact List.nodup_nil
  | cons d L ih =>
    by_cases m : d.1 ∈ L.map (·.1)
    · have e : lastF (d :: L) = lastF L := if_pos m
      rw [e]
      exact ih
    · have e : lastF (d :: L) = d :: lastF L := if_neg m
      rw [e, List.map_cons]
      refine List.nodup_cons.mpr ⟨fun z => m ?_, ih⟩
      obtain ⟨c, hc, ec⟩ := List.mem_map.mp z
      exact List.mem_map.mpr ⟨c, lastF_subK L c hc, ec⟩
theorem rg_mem2 {r : Nat} {x : Int} (h : x ∈ rg r) : 0 ≤ x ∧ x < (r : Int) := by
  obtain ⟨j, hj, rfl⟩ := List.mem_map.mp h
  have := List.mem_range.mp hj
  show 0 ≤ ((j : Nat) : Int) ∧ ((j : Nat) : Int) < (r : Int)
  omega
theorem ip_of {D : List Pr} {r : Nat} {Q : List Int} (h : Part D Q) (b : ∀ x ∈ Q, x ∈ rg r) : IsPart D r Q := by
  obtain ⟨h1, s, hs, hr⟩ := h
  have ne : Q ≠ [] := fun z => by rw [z] at hs; cases hs
  refine ⟨ne, h1, fun x hx => rg_mem2 (b x hx), fun x hx => ?_⟩
  have hd : hdI Q ∈ Q := by
    cases Q with
    | nil => exact absurd rfl ne
    | cons y ys => exact hdI_mem (List.mem_cons_self (a := y))
  exact (hr _ hd).symm.trans (hr x hx)
theorem ip_part {D : List Pr} {r : Nat} {ys : List Int} (h : IsPart D r ys) : Part D ys ∧ ∀ x ∈ ys, x ∈ rg r := by
  obtain ⟨h1, h2, h3, h4⟩ := h
  refine ⟨⟨h2, hdI ys, ?_, h4⟩, fun x hx => List.mem_map.mpr ⟨x.toNat, List.mem_range.mpr (by have := h3 x hx; omega), by have := h3 x hx; show ((x.toNat : Nat) : Int) = x; omega⟩⟩
  cases ys with
  | nil => exact absurd rfl h1
  | cons x ys => exact hdI_mem (List.mem_cons_self (a := x))
theorem ord_log {r : Nat} {L : List Cl} {O : List Int} (p : O.Perm (cldF r L)) : OrdLog L (ordL L O) O := by
  refine ⟨?_, p.nodup_iff.mpr (up_nd (cld_up r L)), fun c hc => ?_⟩
  · unfold ordL
    rw [List.map_map]
    show O.map (fun x => x) = O
    exact List.map_id _
  · obtain ⟨x, hx, rfl⟩ := List.mem_map.mp hc
    have := (cld_mem.mp (p.mem_iff.mp hx)).2
    show wordP L [x] = some ((wordP L [x]).getD _)
    cases e : wordP L [x] with
    | none => exact absurd e this
    | some z => rfl
theorem idx_get {O : List Int} {z : Int} (h : z ∈ O) : O[O.idxOf z]? = some z := by
  have hi := List.idxOf_lt_length_of_mem h
  rw [List.getElem?_eq_getElem hi, List.getElem_idxOf hi]
theorem bef_idx {O : List Int} (nd : O.Nodup) {a b : Int} (ha : a ∈ O) (hb : b ∈ O) : Bef O a b ↔ O.idxOf a < O.idxOf b := by
  constructor
  · rintro ⟨i, j, h1, h2, lt⟩
    rw [nd_pos nd (idx_get ha) h1, nd_pos nd (idx_get hb) h2]
    exact lt
  · intro lt
    exact ⟨_, _, idx_get ha, idx_get hb, lt⟩
theorem keep_iff {D : List Pr} {r : Nat} {L : List Cl} {O : List Int} {Ps : List (List Int)} (r12 : r ≤ 12) (dok : ∀ d ∈ D, d.1 < d.2) (hP : ∀ ys, ys ∈ Ps ↔ IsPart D r ys) : keepB D r L O = true ↔ O.Perm (cldF r L) ∧ ∀ P ∈ Ps, wordP (ordL L O) P = wordP L P := by
  unfold keepB obB
  rw [Bool.and_eq_true, decide_eq_true_iff, List.all_eq_true]
  refine ⟨fun ⟨p, h⟩ => ⟨p, ?_⟩, fun ⟨p, h⟩ => ⟨p, ?_⟩⟩
  · have om := ord_log p
    have al := obey_alk r12 dok om (fun x hx => by rw [p.mem_iff, cld_mem]; exact ⟨fun z => z.2, fun z => ⟨hx, z⟩⟩) (fun x hx => (cld_mem.mp (p.mem_iff.mp hx)).2) fun zx hz => by
      have := pair_called r12 hz
      exact (bef_idx om.nd (p.mem_iff.mpr this.1) (p.mem_iff.mpr this.2)).mpr (of_decide_eq_true (h zx hz))
    intro P hPm
    obtain ⟨h1, h2⟩ := ip_part ((hP P).mp hPm)
    exact al P h1 h2
  · have om := ord_log p
    intro zx hz
    have := pair_called r12 hz
    exact decide_eq_true ((bef_idx om.nd (p.mem_iff.mpr this.1) (p.mem_iff.mpr this.2)).mp (alk_obey r12 om (fun Q hQ sub => h Q ((hP Q).mpr (ip_of hQ sub))) zx hz))
/-- the rooms of a forced pair are two -/
theorem pair_ne {D : List Pr} {r : Nat} {L : List Cl} (r12 : r ≤ 12) {p : Pr} (h : p ∈ pairsF D (formF D r L)) : p.1 ≠ p.2 := fun e => by
  obtain ⟨A, B, c, e1, cx, hz⟩ := forced_last (z := p.1) (x := p.2) r12 h
  have nd := lastF_ndK L
  rw [e1, List.map_append, List.map_cons] at nd
  have := (List.nodup_append.mp nd).2.2 p.1 hz c.1 List.mem_cons_self
  exact this (e.trans cx.symm)
theorem lk_ob {D : List Pr} {r : Nat} {L : List Cl} {O : List Int} {E : List Pr} (r12 : r ≤ 12) (p : O.Perm (cldF r L)) (pm : E.Perm (pairsF D (formF D r L))) : lkB O E = keepB D r L O := by
  have nd := (ord_log p).nd
  unfold keepB lkB obB
  rw [decide_eq_true p, Bool.true_and, Bool.eq_iff_iff, List.all_eq_true, List.all_eq_true]
  have one : ∀ q ∈ pairsF D (formF D r L), ((!decide (O.idxOf q.2 < O.idxOf q.1)) = true ↔ decide (O.idxOf q.1 < O.idxOf q.2) = true) := fun q hq => by
    have hc := pair_called r12 hq
    have ne := pair_ne r12 hq
    have ni : O.idxOf q.1 ≠ O.idxOf q.2 := fun e => by
      have h1 := idx_get (p.mem_iff.mpr hc.1)
      rw [e, idx_get (p.mem_iff.mpr hc.2)] at h1
      exact ne (Option.some.inj h1).symm
    simp
    omega
  exact ⟨fun h q hq => (one q hq).mp (h q (pm.mem_iff.mpr hq)), fun h q hq => (one q (pm.mem_iff.mp hq)).mpr (h q (pm.mem_iff.mp hq))⟩

/-! ### linked_rooms -/
abbrev sLnk : Stmt := topS 2
/-- what leads from a to b along the pairs -/
inductive Lnk (E : List Pr) : Int → Int → Prop
  | one {a b : Int} : (a, b) ∈ E → Lnk E a b
  | snoc {a b c : Int} : Lnk E a b → (b, c) ∈ E → Lnk E a c
theorem Lnk.trans {E : List Pr} {a b c : Int} (h : Lnk E a b) (k : Lnk E b c) : Lnk E a c := by
  induction k with
  | one m => exact .snoc h m
  | snoc _ m ih => exact .snoc ih m
theorem Lnk.last {E : List Pr} {a b : Int} (h : Lnk E a b) : ∃ z, (z, b) ∈ E := by
  cases h with
  | one m => exact ⟨_, m⟩
  | snoc _ m => exact ⟨_, m⟩
theorem Lnk.first {E : List Pr} {a b : Int} (h : Lnk E a b) : ∃ z, (a, z) ∈ E := by
  induction h with
  | one m => exact ⟨_, m⟩
  | snoc _ _ ih => exact ih
theorem Lnk.congr {E E' : List Pr} (e : ∀ d, d ∈ E → d ∈ E') {a b : Int} (h : Lnk E a b) : Lnk E' a b := by
  induction h with
  | one m => exact .one (e _ m)
  | snoc _ m ih => exact .snoc ih (e _ m)
theorem drop_last_mem {α : Type} {l : List α} {n x : α} (h : l[l.length - 1]? = some n) (hx : x ∈ l) : x ∈ l.dropLast ∨ x = n := by
  have ne : l ≠ [] := fun z => by rw [z] at hx; cases hx
  have e := List.dropLast_concat_getLast ne
  have e2 : l.getLast ne = n := by
    rw [List.getLast_eq_getElem]
    rw [List.getElem?_eq_getElem (by have := List.length_pos_iff.mpr ne; omega)] at h
    exact Option.some.inj h
  rw [← e, e2] at hx
  rcases List.mem_append.mp hx with h | h
  · exact .inl h
  · exact .inr (List.mem_singleton.mp h)
theorem ints_lenP {l : List Int} {r : Nat} (nd : l.Nodup) (b : ∀ x ∈ l, 0 ≤ x ∧ x < (r : Int)) : l.length ≤ r := by
  have := pig (rg r) l nd fun x hx => mem_rg (b x hx).1 (b x hx).2
  rwa [rg_len] at this
section
variable {P : Program} {w : World} {K : PySem.W.Frag} {mg : Str → Option Value} {base : Heap}
theorem scLnk : FnScope ["pairs", "start", "found", "waiting", "room", "before", "after"] ["pairs", "start"] (defScope sLnk) := ⟨rfl, rfl, rfl, by decide +kernel, rfl, by decide +kernel, by decide +kernel⟩
def spLnk : Sp := fun vs H Q _ => ∃ (l : Addr) (us : List V) (E : List Pr) (s : Int) (N : Nat), vs = [.ref l, .int s] ∧ H l = some (.lst us) ∧ PL H us E ∧ N ≤ 12 ∧ (∀ d ∈ E, 0 ≤ d.2 ∧ d.2 < (N : Int)) ∧
  ∀ (ws : List Int) t H', Same H H' → H t = none → H' t = some (.lst (ws.map V.int)) → ws.Pairwise (· < ·) → (∀ x, x ∈ ws ↔ Lnk E s x) → Q (.ref t) H'
theorem ok_lnk {f : Addr} {fd : FuncData} (F : Fun K "linked_rooms" "linked_rooms" sLnk f fd) (T : Bi mg) : FnOk P w K mg base CX0 1 f fd ["pairs", "start"] spLnk := by
  refine F.ok scLnk (fun vs H Q E h => ?_) (fun cdv A0 outer s H vs Q E hr h => ?_)
  · obtain ⟨l, us, E, s, N, rfl, _⟩ := h
    rfl
  · obtain ⟨l, us, E, s, N, rfl, hl, pl, n12, bnd, ret⟩ := h
    refine ⟨_, (pss_cons (ps_set (i := 2) scLnk.nd rfl (Or.inl rfl) (pe_lst pa_nil))
      (pss_cons (ps_set (i := 3) scLnk.nd rfl (Or.inl rfl) (pe_lst (pa_cons (pv 1) pa_nil)))
      (pss_cons (ps_while PassesOwn.never (pt_truth (pv 3) (by intro _; rfl))
      (pss_cons (ps_set (i := 4) scLnk.nd rfl (Or.inl rfl) (pe_bm0 PySem.F.plainAttrs_list PySem.F.slot_list_pop PySem.F.type_list_pop mt_pop (pv 3)))
        (pss_one (ps_for PassesOwn.never rfl (pi_list (pv 0)) (pg_tup rfl (pgs_cons (pg_name (i := 5) scLnk.nd rfl (Or.inl rfl)) (pgs_cons (pg_name (i := 6) scLnk.nd rfl (Or.inl rfl)) pgs_nil)))
        (pss_one (ps_if (PW.pt (pw_and (pt_cmpR op_eqI (pv 5) (pv 4) (nomark _)) (pw_and1 (pt_cmpR op_notIn_seq (pv 6) (pv 2) (by rfl)))))
          (pss_cons (ps_expr (pe_bm PySem.F.plainAttrs_list PySem.F.slot_list_append PySem.F.type_list_append mt_append (pv 2) (pa_cons (pv 6) pa_nil)))
            (pss_one (ps_expr (pe_bm PySem.F.plainAttrs_list PySem.F.slot_list_append PySem.F.type_list_append mt_append (pv 3) (pa_cons (pv 6) pa_nil)))))
          pss_nil))))))
      (pss_one (ps_ret (pe_callB cr_sorted (by rfl) T.sorted (by decide +kernel) (pa_cons (pv 2) pa_nil))))))), ?_⟩
    walk_at "rd"
    refine ⟨by decide, fun fo nfo => ⟨by decide, fun wt nwt => ?_⟩⟩
    have s1 := same_upd (o := HO.lst []) nfo
    have s2 := s1.trans (same_upd (o := HO.lst [V.int s]) nwt)
    have nw0 : H wt = none := s1.free nwt
    have ne : fo ≠ wt := fun z => by rw [← z, upd_same] at nwt; cases nwt
    have hf0 : upd (upd H fo (HO.lst [])) wt (HO.lst [V.int s]) fo = some (.lst []) := by rw [upd_ne ne]; exact upd_same
    have hw0 := upd_same (H := upd H fo (HO.lst [])) (a := wt) (o := HO.lst [V.int s])
    generalize upd (upd H fo (HO.lst [])) wt (HO.lst [V.int s]) = H1 at s2 hf0 hw0 ⊢
    clear s1 nwt
    obtain ⟨Pv, hPv⟩ : ∃ Pv : L2.St → Hp → Prop, Pv = (fun σ H' => ∃ (G W : List Int) (v4 v5 v6 : Option V), σ = [some (.ref l), some (.int s), some (.ref fo), some (.ref wt), v4, v5, v6] ∧ Same H H' ∧ H' fo = some (.lst (G.map V.int)) ∧ H' wt = some (.lst (W.map V.int)) ∧ G.Nodup ∧ (∀ x ∈ G, Lnk E s x) ∧ (∀ x ∈ W, x = s ∨ Lnk E s x) ∧ (∀ x, (x = s ∨ x ∈ G) → x ∈ W ∨ ∀ y, (x, y) ∈ E → y ∈ G) ∧ 2 * (N - G.length) + W.length ≤ 100) := ⟨_, rfl⟩
    have glen : ∀ G : List Int, G.Nodup → (∀ x ∈ G, Lnk E s x) → G.length ≤ N := fun G nd le => ints_lenP (r := N) nd fun x hx => by
      obtain ⟨z, hz⟩ := (le x hx).last
      exact bnd _ hz
    obtain ⟨mu, hmu⟩ : ∃ mu : L2.St → Hp → Nat, mu = (fun _ H' => match H' fo, H' wt with
      | some (.lst gs), some (.lst ws) => 2 * (N - gs.length) + ws.length
      | _, _ => 0) := ⟨_, rfl⟩
    have mu_at : ∀ (σ : L2.St) (H' : Hp) (G W : List Int), H' fo = some (.lst (G.map V.int)) → H' wt = some (.lst (W.map V.int)) → mu σ H' = 2 * (N - G.length) + W.length := fun σ H' G W h1 h2 => by
      rw [hmu]
      show (match H' fo, H' wt with
        | some (.lst gs), some (.lst ws) => 2 * (N - gs.length) + ws.length
        | _, _ => 0) = _
      rw [h1, h2]
      show 2 * (N - (G.map V.int).length) + (W.map V.int).length = _
      rw [List.length_map, List.length_map]
    refine while_by Pv mu ?h0 (fun σ H2 pv => ?hs) (fun σ H2 Q1 Q2 hi h => ?mono)
    case h0 =>
      rw [hPv]
      exact ⟨[], [s], none, none, none, rfl, s2, hf0, hw0, List.nodup_nil, (fun x hx => by cases hx), (fun x hx => .inl (List.mem_singleton.mp hx)), (fun x hx => .inl (hx.elim (fun h => by rw [h]; exact List.mem_cons_self) fun h => by cases h)), by simp only [List.length_nil, List.length_singleton]; omega⟩
    case mono =>
      obtain ⟨v, g1, k, tv, q1⟩ := h
      exact ⟨v, g1, k, tv, hi _ _ q1⟩
    case hs =>
      rw [hPv] at pv
      obtain ⟨G, W, v4, v5, v6, rfl, sm, hf, hw, nd, le, wl, cl, bd⟩ := pv
      walk_at "rd"
      refine ⟨!(W.map V.int).isEmpty, .inl ⟨_, SqL.of hw, rfl⟩, ?_⟩
      have gl := glen G nd le
      by_cases eW : W = []
      · subst eW
        rw [if_neg (by decide)]
        refine ⟨fo, G, rfl, SqL.of hf, by omega, fun ns t pm up nt => ?_⟩
        have ndn := pm.nodup_iff.mpr nd
        refine ret ns t _ (sm.trans (same_upd nt)) (sm_none sm nt) upd_same ?_ fun x => ?_
        · exact (up.and ndn).imp fun h => by have := h.1; have := h.2; omega
        · rw [pm.mem_iff]
          refine ⟨le x, fun h => ?_⟩
          have cl2 : ∀ x, (x = s ∨ x ∈ G) → ∀ y, (x, y) ∈ E → y ∈ G := fun x hx => (cl x hx).elim (fun z => by cases z) id
          induction h with
          | one m => exact cl2 _ (.inl rfl) _ m
          | snoc _ m ih => exact cl2 _ (.inr ih) _ m
      · have wlen := List.length_pos_iff.mpr eW
        rw [if_pos (by cases W with | nil => exact absurd rfl eW | cons _ _ => rfl)]
        obtain ⟨n, gn⟩ : ∃ n, W[W.length - 1]? = some n := ⟨W[W.length - 1]'(by omega), List.getElem?_eq_getElem (by omega)⟩
        have nW : n = s ∨ Lnk E s n := wl n (List.mem_of_getElem? gn)
        refine ⟨.inl ⟨rfl, _, SqL.of hw⟩, wt, W.map V.int, .int n, rfl, rfl, hw, by rw [List.length_map, List.getElem?_map, gn]; rfl, ?_⟩
        rw [mu_at _ _ G W hf hw]
        have s3 : Same H (upd H2 wt (HO.lst ((W.map V.int).dropLast))) := same_ch sm nw0
        have hw3 : upd H2 wt (HO.lst ((W.map V.int).dropLast)) wt = some (.lst (W.dropLast.map V.int)) := by rw [upd_same, List.map_dropLast]
        have hf3 : upd H2 wt (HO.lst ((W.map V.int).dropLast)) fo = some (.lst (G.map V.int)) := by rw [upd_ne ne]; exact hf
        generalize upd H2 wt (HO.lst ((W.map V.int).dropLast)) = H3 at s3 hw3 hf3 ⊢
        have wd : W.dropLast.length + 1 = W.length := by rw [List.length_dropLast]; omega
        have wsub : ∀ x ∈ W.dropLast, x ∈ W := fun x hx => by rw [List.dropLast_eq_take] at hx; exact List.mem_of_mem_take hx
        obtain ⟨Pw, hPw⟩ : ∃ Pw : Nat → L2.St → Hp → Prop, Pw = (fun i σ H' => ∃ (G' W' : List Int) (v5 v6 : Option V), σ = [some (.ref l), some (.int s), some (.ref fo), some (.ref wt), some (.int n), v5, v6] ∧ Same H H' ∧ H' fo = some (.lst (G'.map V.int)) ∧ H' wt = some (.lst (W'.map V.int)) ∧ G'.Nodup ∧ (∀ x ∈ G', Lnk E s x) ∧ (∀ x ∈ W', x = s ∨ Lnk E s x) ∧ (∀ x ∈ G, x ∈ G') ∧ (∀ y, (n, y) ∈ E.take i → y ∈ G') ∧ (∀ x, (x = s ∨ x ∈ G') → x = n ∨ x ∈ W' ∨ ∀ y, (x, y) ∈ E → y ∈ G') ∧ 2 * (N - G'.length) + W'.length + 1 ≤ 2 * (N - G.length) + W.length) := ⟨_, rfl⟩
        refine for_iterW ?_
        walk_at "rd"
        refine ⟨⟨_, SqL.of (s3 _ _ hl)⟩, for_list (K := K) (a := l) (xs := us) Pw (by
          rw [hPw]
          refine ⟨G, W.dropLast, _, _, rfl, s3, hf3, hw3, nd, le, fun x hx => wl x (wsub x hx), fun x hx => hx, (fun y hy => by cases hy), fun x hx => ?_, by omega⟩
          rcases cl x hx with h | h
          · rcases drop_last_mem gn h with k | k
            · exact .inr (.inl k)
            · exact .inl k
          · exact .inr (.inr h)) (fun i σ H' _ pv => by rw [hPw] at pv; obtain ⟨_, _, _, _, _, sm, _⟩ := pv; exact SqL.of (sm _ _ hl)) (fun i x σ H' gx pv => ?_) (fun σ H' pv => ?_)⟩
        · rw [hPw] at pv
          obtain ⟨G', W', v5', v6', rfl, sm', hf', hw', nd', le', wl', gsub, done, cl', bd'⟩ := pv
          obtain ⟨d, gd, hx⟩ := pget pl gx
          obtain ⟨td, rfl, htd⟩ := hx
          have mE := List.mem_of_getElem? gd
          have tk : E.take (i + 1) = E.take i ++ [d] := by rw [List.take_add_one, gd]; rfl
          have gl' := glen G' nd' le'
          walk_at "rd"
          refine ⟨_, SqT.of (sm' _ _ htd), rfl, _, _, rfl, _, _, rfl, rfl, _, rfl, ?_⟩
          have nxt : ∀ v5 v6 : Option V, (∀ y, d = (n, y) → y ∈ G') → Pw (i + 1) [some (.ref l), some (.int s), some (.ref fo), some (.ref wt), some (.int n), v5, v6] H' := fun v5 v6 hd => by
            rw [hPw]
            refine ⟨G', W', v5, v6, rfl, sm', hf', hw', nd', le', wl', gsub, fun y hy => ?_, cl', bd'⟩
            rw [tk] at hy
            rcases List.mem_append.mp hy with h | h
            · exact done y h
            · exact hd y (List.mem_singleton.mp h).symm
          by_cases c1 : d.1 = n
          · rw [if_pos c1]
            refine ⟨fo, _, rfl, .inl (SqL.of hf'), rfl, flI _, ?_⟩
            rw [inI, if_pos rfl]
            refine ⟨_, rfl, ?_⟩
            by_cases c2 : d.2 ∈ G'
            · rw [decide_eq_true c2, if_neg (by decide)]
              exact nxt _ _ fun y e => by rw [e] at c2; exact c2
            · rw [decide_eq_false c2, if_pos (by rfl)]
              have nx2 : Lnk E s d.2 := by
                have : (n, d.2) ∈ E := by rw [← c1]; exact mE
                rcases nW with h | h
                · rw [h] at this
                  exact .one this
                · exact .snoc h this
              have nd2 : (G' ++ [d.2]).Nodup := by
                rw [List.nodup_append]
                exact ⟨nd', List.pairwise_singleton _ _, fun a ha b hb e => c2 (by rw [← List.mem_singleton.mp hb, ← e]; exact ha)⟩
              have le2 : ∀ x ∈ G' ++ [d.2], Lnk E s x := fun x hx => by
                rcases List.mem_append.mp hx with h | h
                · exact le' x h
                · rw [List.mem_singleton.mp h]; exact nx2
              have gl2 := glen _ nd2 le2
              rw [List.length_append, List.length_singleton] at gl2
              refine ⟨.inl ⟨rfl, _, SqL.of hf'⟩, _, hf', len_big (by rw [List.length_map]; omega), ?_⟩
              have hwA : upd H' fo (HO.lst (G'.map V.int ++ [V.int d.2])) wt = some (.lst (W'.map V.int)) := by rw [upd_ne (fun z => ne z.symm)]; exact hw'
              have hfA := upd_same (H := H') (a := fo) (o := HO.lst (G'.map V.int ++ [V.int d.2]))
              refine ⟨.inl ⟨rfl, _, SqL.of hwA⟩, _, hwA, len_big (by rw [List.length_map]; omega), ?_⟩
              rw [hPw]
              refine ⟨G' ++ [d.2], W' ++ [d.2], _, _, rfl, same_ch (same_ch sm' nfo) nw0, ?_, ?_, nd2, le2, fun x hx => ?_, fun x hx => List.mem_append_left _ (gsub x hx), fun y hy => ?_, fun x hx => ?_, ?_⟩
              · rw [upd_ne ne, upd_same, List.map_append]
                rfl
              · rw [upd_same, List.map_append]
                rfl
              · rcases List.mem_append.mp hx with h | h
                · exact wl' x h
                · rw [List.mem_singleton.mp h]; exact .inr nx2
              · rw [tk] at hy
                rcases List.mem_append.mp hy with h | h
                · exact List.mem_append_left _ (done y h)
                · rw [← List.mem_singleton.mp h]
                  exact List.mem_append_right _ (List.mem_singleton.mpr rfl)
              · have old : (x = s ∨ x ∈ G') → x = n ∨ x ∈ W' ++ [d.2] ∨ ∀ y, (x, y) ∈ E → y ∈ G' ++ [d.2] := fun h => by
                  rcases cl' x h with h | h | h
                  · exact .inl h
                  · exact .inr (.inl (List.mem_append_left _ h))
                  · exact .inr (.inr fun y hy => List.mem_append_left _ (h y hy))
                rcases hx with h | h
                · exact old (.inl h)
                · rcases List.mem_append.mp h with h | h
                  · exact old (.inr h)
                  · exact .inr (.inl (List.mem_append_right _ h))
              · rw [List.length_append, List.length_append, List.length_singleton]
                omega
          · rw [if_neg c1, if_neg (fun z => z)]
            exact nxt _ _ fun y e => absurd (by rw [e]) c1
        · rw [hPw] at pv
          obtain ⟨G', W', v5', v6', rfl, sm', hf', hw', nd', le', wl', gsub, done, cl', bd'⟩ := pv
          rw [pl.len, List.take_length] at done
          show Pv _ H' ∧ mu _ H' < _
          rw [mu_at _ _ G' W' hf' hw']
          refine ⟨?_, by omega⟩
          rw [hPv]
          refine ⟨G', W', _, _, _, rfl, sm', hf', hw', nd', le', wl', fun x hx => ?_, by omega⟩
          rcases cl' x hx with h | h | h
          · exact .inr fun y hy => done y (by rw [← h]; exact hy)
          · exact .inl h
          · exact .inr h
end

/-! ### a set comprehension of ints: {elt for target in iter if ..} -/
/-- the members come one by one; ns: what the set holds -/
def SI (w : World) (H : Hp) (D : Addr) (ns : List Int) : Prop := ∃ S : Int → Bool, H D = some (SetO w D S ns.length) ∧ ns.Nodup ∧ ∀ k, S k = true ↔ k ∈ ns
def tScI (w : World) (wi : TI) (g : TG) (tt : TT) (te : TE) (vs : List Nat) : TE := fun σ H Q => wi σ H fun J H1 => ∀ D, H1 D = none → ∃ W : Nat → Nat → Hp → Prop, (∀ H0, (∀ b, b ≠ D → H0 b = H1 b) → SI w H0 D [] → ∃ m, W 0 m H0) ∧ ∀ i m Hx, W i m Hx →
  (J.stop i Hx ∧ Q (.ref D) Hx) ∨ (J.go i Hx ∧ ∃ Nx : Hp → Prop, (∀ H', Nx H' → ∃ m', m' < m ∧ W (i + 1) m' H') ∧ ∀ x H', J.yld i Hx x H' → g x (wipe σ vs) H' fun σ2 H2 => wipe σ2 vs = wipe σ vs ∧ tt σ2 H2 fun b H3 =>
    if b = true then te σ2 H3 fun y H4 => ∃ (k : Int) (ns : List Int), y = .int k ∧ SI w H4 D ns ∧ ns.length + 1 < scanBound ∧ ∀ H5, (∀ b, b ≠ D → H5 b = H4 b) → SI w H5 D (if k ∈ ns then ns else ns ++ [k]) → Nx H5 else Nx H3)
section
variable {X : Cx}
theorem si_put {D : Addr} {H : Hp} {ns : List Int} {k : Int} {S : Int → Bool} (nd : ns.Nodup) (mS : ∀ k, S k = true ↔ k ∈ ns) : SI X.w (upd H D (SetO X.w D (fun j => S j || decide (j = k)) (if S k = true then ns.length else ns.length + 1))) D (if k ∈ ns then ns else ns ++ [k]) := by
  have len : (if S k = true then ns.length else ns.length + 1) = (if k ∈ ns then ns else ns ++ [k]).length := by
    by_cases c : k ∈ ns
    · rw [if_pos ((mS k).mpr c), if_pos c]
    · rw [if_neg (fun z => c ((mS k).mp z)), if_neg c, List.length_append]
      rfl
  refine ⟨_, by rw [upd_same, len], ?_, fun j => ?_⟩
  · split
    · exact nd
    · rename_i c
      rw [List.nodup_append]
      exact ⟨nd, List.pairwise_singleton _ _, fun a ha b hb e => c (by rw [← List.mem_singleton.mp hb, ← e]; exact ha)⟩
  · rw [Bool.or_eq_true, mS j, decide_eq_true_iff]
    split
    · rename_i c
      exact ⟨fun h => h.elim id fun e => by rw [e]; exact c, .inl⟩
    · rw [List.mem_append, List.mem_singleton]
theorem si_add {pins : List (Addr × Obj)} {σ : L2.St} {H : Hp} {s : Shared} {D : Addr} {ns : List Int} {k : Int} {t : Tok} {Q E : Value → Shared → Prop} (I : Inv X pins σ H s) (h : SI X.w H D ns) (room : ns.length + 1 < scanBound)
    (q : ∀ H5 s' v, (∀ b, b ≠ D → H5 b = H b) → SI X.w H5 D (if k ∈ ns then ns else ns ++ [k]) → Inv X pins σ H5 s' → Q v s') : wpAny (model X.prog X.w) X.A (call (.builtin "set.add") [.ref D, .int k t]) Q E s := by
  obtain ⟨S, hD, nd, mS⟩ := h
  refine setR_add (setO_get I hD) room fun h' sb new => ?_
  refine q _ _ _ (fun b hb => upd_ne hb) (si_put nd mS) (I.write (e := D) (t' := s.toks + 1) (by rw [hD]; trivial) (.inl rfl) (fun b u hb hu => (sb.2 b hb).trans hu) ?_ (setO_new new))
  obtain ⟨o, _, _, _, ho, _⟩ := new
  exact ⟨o, ho⟩
theorem si_new {H : Hp} {s : Shared} {pins : List (Addr × Obj)} {σ : L2.St} (I : Inv X pins σ H s) {s' : Shared} (e : s' = { s with heap := s.heap.push { cls := .type "set", dict := none, data := .set #[] 0 (.fresh 0 0 (!X.w.params.followText "set-order")) } }) :
    ∃ H0, (∀ b, b ≠ s.heap.objs.size → H0 b = H b) ∧ SI X.w H0 s.heap.objs.size [] ∧ Inv X pins σ H0 s' := by
  subst e
  refine ⟨upd H s.heap.objs.size (SetO X.w s.heap.objs.size (fun _ => false) 0), fun b hb => upd_ne hb, ⟨fun _ => false, upd_same, List.nodup_nil, fun k => by simp⟩, ?_⟩
  have R := setR_new_at (w := X.w) (ns := []) (Heap.get?_push_size s.heap (o := { cls := .type "set", dict := none, data := .set #[] 0 (.fresh 0 0 (!X.w.params.followText "set-order")) }) rfl)
  exact I.laid (t' := s.toks) (fun b o e => Heap.get?_push_of_some _ e) (Nat.le_refl _) (setO_new R)
/-- the rule: as a value -/
theorem pe_scI {elt tg iter : Expr} {ifs : List Expr} {scope : Scope} {own : List (PySem.Str × Nat)} {pos : Pos} {wi : TI} {g : TG} {tt : TT} {te : TE} (hc : X.calm = true) (hN : X.N.Nodup) (hi : PI X tg iter wi) (ok : BlkOk X.N X.env.scope scope own)
    (hg : ∀ (s : Shared) (H : Hp) (C : Addr) (cl : List (PySem.Str × Addr)) (fp : List Addr), PG (X.blk s H scope (compEnvC scope cl C X.env) fp) tg g) (ht : ∀ (s : Shared) (H : Hp) (C : Addr) (cl : List (PySem.Str × Addr)) (fp : List Addr), PTs (X.blk s H scope (compEnvC scope cl C X.env) fp) ifs tt)
    (he : ∀ (s : Shared) (H : Hp) (C : Addr) (cl : List (PySem.Str × Addr)) (fp : List Addr), PE (X.blk s H scope (compEnvC scope cl C X.env) fp) elt te) (hs : ∀ x, foldedSetIterable iter X.env x = pure x := by intro _; rfl) :
    PE X (.SetComp elt [⟨tg, iter, ifs, 0⟩] scope pos) (tScI X.w wi g tt te (own.map (·.2))) := by
  refine ⟨fun pins s σ H Q I h => ?_⟩
  rw [PpSet.eval_SetComp]
  have cap : ∀ y ∈ scope.names, y.2 = .free → ∃ c, X.env.cells.lookup y.1 = some c := fun y hy e => (ok.free y hy e).elim (fun k => I.ok.has _ (.inl k)) fun k => I.ok.has _ (.inr k)
  refine wpAny_comprehension_free (use := none) rfl hs (closure_ok cap) ok.kind (fun y hy e => by rw [ok.uniq y hy, e]) (thn (hi.run pins s σ H _ I h) fun _ s1 hx => thn hx fun _ s2 h2 => ?_)
  obtain ⟨it, fp, tn, J, H2, rfl, I2, T, st2, f2, q⟩ := h2
  refine PpSet.newSet_ok (newEnv_comp ?_)
  obtain ⟨s3, e3⟩ : ∃ s3, s3 = ({ s2 with heap := s2.heap.push { cls := .type "set", dict := none, data := .set #[] 0 (.fresh 0 0 (!X.w.params.followText "set-order")) } } : Shared) := ⟨_, rfl⟩
  obtain ⟨H3, off, new, I3⟩ := si_new I2 e3
  obtain ⟨D, eD⟩ : ∃ D, D = s2.heap.objs.size := ⟨_, rfl⟩
  rw [← eD] at off new
  obtain ⟨W, w0, turn⟩ := q D (I2.hok.fresh (Nat.le_of_eq eD.symm))
  obtain ⟨m0, w0⟩ := w0 H3 off new
  rw [← e3, ← eD]
  have old3 : ∀ b o, s2.heap.get? b = some o → s3.heap.get? b = some o := fun b o e => by rw [e3]; exact Heap.get?_push_of_some _ e
  have f3 : ∀ b ∈ fp, FpOk X pins H3 b ∧ b < s3.heap.objs.size := fun b hb => by
    obtain ⟨o, e, _⟩ := T.obj _ _ st2 b hb
    refine ⟨⟨?_, (f2 b hb).2⟩, Heap.lt_size (old3 b o e)⟩
    rw [off b (fun z => by rw [z, eD] at e; exact Nat.lt_irrefl _ (Heap.lt_size e))]
    exact (f2 b hb).1
  have st3 : tn 0 s3.heap := T.keep _ _ _ st2 fun b _ o e => old3 b o e
  have I4 := block_start I3 ok hN f3
  obtain ⟨ce, ece⟩ : ∃ ce, ce = compEnvC scope (cellsFrom (s3.heap.objs.size + 1) scope.names (cloFrom X.env.cells scope.names [])) s3.heap.objs.size X.env := ⟨_, rfl⟩
  have pg := hg s3 H3 s3.heap.objs.size (cellsFrom (s3.heap.objs.size + 1) scope.names (cloFrom X.env.cells scope.names [])) fp
  have pt := ht s3 H3 s3.heap.objs.size (cellsFrom (s3.heap.objs.size + 1) scope.names (cloFrom X.env.cells scope.names [])) fp
  have pe := he s3 H3 s3.heap.objs.size (cellsFrom (s3.heap.objs.size + 1) scope.names (cloFrom X.env.cells scope.names [])) fp
  rw [← ece] at I4 pg pt pe
  have cL : ce.locals = s3.heap.objs.size := by rw [ece]; rfl
  show codeAny _ _ (.compStart (.SetComp elt [⟨tg, iter, ifs, 0⟩] scope pos) 0 (.ref it) (.ref D) (compEnvC scope (cellsFrom (s3.heap.objs.size + 1) scope.names (cloFrom X.env.cells scope.names [])) s3.heap.objs.size X.env)) (compPost (model X.prog X.w) X.A X.xe none (EP X pins σ Q) (.ref D) s3.heap.objs.size) { s3 with heap := pushCells (s3.heap.push { cls := .type "dict", data := .dict #[] }) scope.names }
  rw [← ece]
  obtain ⟨s4, e4⟩ : ∃ s4, s4 = ({ s3 with heap := pushCells (s3.heap.push { cls := .type "dict", data := .dict #[] }) scope.names } : Shared) := ⟨_, rfl⟩
  rw [← e4] at I4 ⊢
  have st4 : tn 0 s4.heap := by rw [e4]; exact T.keep _ _ _ st3 fun b _ o e => pushCells_keeps _ _ _ _ (Heap.get?_push_of_some _ e)
  have nfp : ∀ b ∈ fp, H3 b = none := fun b hb => (f3 b hb).1.1
  -- while the block runs the walked thing is known to its context
  have stat : ∀ {σ' : L2.St} {H' : Hp} {s' : Shared}, Inv (X.blk s3 H3 scope ce fp) [] σ' H' s' → (∀ b ∈ fp, H' b = none) → ∀ b ∈ fp, FpOk (X.blk s3 H3 scope ce fp) [] H' b := fun I' hn b hb =>
    ⟨hn b hb, (I'.ok.exf b hb).1, I'.ok.exfs b hb, .inl hb, (I'.ok.exf b hb).2, fun p hp => by simp at hp⟩
  -- a turn's end
  have fin : ∀ {n i : Nat} {Nx : Hp → Prop} {s' s7 : Shared} {H' : Hp} {σ8 : L2.St}, (∀ H', Nx H' → ∃ m', m' < n ∧ W (i + 1) m' H') → tn (i + 1) s7.heap → wipe σ8 (own.map (·.2)) = wipe σ (own.map (·.2)) →
      Inv (X.blk s3 H3 scope ce fp) ([] ++ pinsAt fp s7.heap) σ8 H' s' → Nx H' → ∃ m, m < n ∧ ∃ i H', Inv (X.blk s3 H3 scope ce fp) [] (wipe σ (own.map (·.2))) H' s' ∧ tn i s'.heap ∧ (∀ b ∈ fp, H' b = none) ∧ W i m H' := fun {n i Nx s' s7 H' σ8} hNx st7 hw8 I' nx => by
    obtain ⟨m', hm, w'⟩ := hNx H' nx
    have pin' : ∀ b ∈ fp, ∀ o, s7.heap.get? b = some o → s'.heap.get? b = some o ∧ H' b = none := fun b hb o e => by
      have z := I'.pin (b, o) (List.mem_append_right _ (List.mem_append_right _ (mem_pinsAt hb e)))
      exact ⟨z.1, z.2.1⟩
    refine ⟨m', hm, i + 1, H', (I'.unpinned (pins := [])).weak (by have e := congrArg List.length hw8; rw [wipe_length] at e; exact e.symm) (fun j v e => ?_), T.keep _ _ _ st7 fun b hb o e => (pin' b hb o e).1, fun b hb => ?_, w'⟩
    · rw [← hw8] at e
      exact (wipe_some e).1
    · obtain ⟨o, e, _⟩ := T.obj _ _ st7 b hb
      exact (pin' b hb o e).2
  have loop : codeAny (model X.prog X.w) X.A (.compLoop (.SetComp elt [⟨tg, iter, ifs, 0⟩] scope pos) 0 (.ref it) (.ref D) ce) (compPost (model X.prog X.w) X.A X.xe none (EP X pins σ Q) (.ref D) s3.heap.objs.size) s4 := by
    refine PpSet.compLoopS_any (fun n s' => ∃ i H', Inv (X.blk s3 H3 scope ce fp) [] (wipe σ (own.map (·.2))) H' s' ∧ tn i s'.heap ∧ (∀ b ∈ fp, H' b = none) ∧ W i n H') ?_ m0 ⟨0, H3, I4, st4, nfp, w0⟩
    rintro n s5 ⟨i, H5, I5, st5, n5, w5⟩
    rcases turn i n H5 w5 with ⟨stop, qq⟩ | ⟨go, Nx, hNx, step⟩
    · refine thnF (T.done (X.blk s3 H3 scope ce fp) rfl rfl rfl hc i [] s5 _ H5 (fun _ _ => False) I5 (stat I5 n5) st5 stop) fun r s6 ⟨hr, I6⟩ => ?_
      subst hr
      have I7 : Inv X pins σ H5 s6 := I3.call' (ch := fp) I6.os I6.base I6.hok I6.bare fun b hb => ⟨(f3 b hb).1.2.2.2.1, (f3 b hb).1.2.1, (f3 b hb).1.2.2.2.2.1, (f3 b hb).1.2.2.2.2.2⟩
      have nC : H5 s3.heap.objs.size = none := by rw [← cL]; exact I6.free
      obtain ⟨m, hn, _⟩ := I6.loc
      obtain ⟨a0, a1, a2, a3, a4, a5⟩ := I3.fpOk (Nat.le_refl _) nC
      refine ⟨m, by rw [← cL]; exact hn, fun h'' sb => ?_⟩
      exact ⟨.ref D, H5, I7.turned (t' := s6.toks) (fun b o hb e => (sb.2 b hb).trans e) a0 a1 a3 a4 a5, rfl, qq⟩
    · refine thnF (T.item (X.blk s3 H3 scope ce fp) rfl rfl rfl hc i [] s5 _ H5 (fun _ _ => False) I5 (stat I5 n5) st5 go) fun r s6 ⟨u, hr, h6⟩ => ?_
      subst hr
      refine thnF h6 fun _ s7 ⟨x, H7, I7, r7, y7, st7, n7⟩ => ?_
      refine thnF (pg.run _ s7 _ H7 x u _ (I7.pinned (stat I7 n7) (T.obj _ _ st7)) r7 (step x H7 y7)) fun _ s8 ⟨σ8, H8, I8, hw8, q8⟩ => ?_
      refine thnF (pt.run _ s8 σ8 H8 _ I8 q8) fun b s9 ⟨H9, I9, q9⟩ => ?_
      cases b with
      | false => exact fin hNx st7 hw8 I9 q9
      | true =>
        refine thnF (pe.run _ s9 σ8 H9 _ I9 q9) fun z s10 ⟨yv, H10, I10, r10, k, ns, ey, hD10, room, nx⟩ => ?_
        subst ey
        obtain ⟨tz, rfl⟩ := r10
        exact si_add (X := X.blk s3 H3 scope ce fp) I10 hD10 room fun H11 s11 v off11 si11 I11 => fin hNx st7 hw8 I11 (nx H11 off11 si11)
  exact PpSet.codeAny_compStart_set loop (T.self X.A 0 _ _ _ st4 loop)
end
theorem SI.same {w : World} {H H' : Hp} {D : Addr} {ns : List Int} (h : SI w H D ns) (s : Same H H') : SI w H' D ns := by
  obtain ⟨S, h1, h2⟩ := h
  exact ⟨S, s _ _ h1, h2⟩
/-- over a list, any target -/
theorem sc_listG {K : PySem.W.Frag} {w : World} {a : Addr} {xs : List V} {vs : List Nat} {g : TG} {tt : TT} {te : TE} {σ : L2.St} {H1 : Hp} {Q : VK} (sel : Nat → Option Int) {N : Nat} (ha : H1 a = some (.lst xs)) (hN : N ≤ 1000) (bnd : ∀ j k, j < xs.length → sel j = some k → 0 ≤ k ∧ k < (N : Int))
    (step : ∀ (j : Nat) (x : V) (Hx : Hp) (A : VK) (B : Hp → Prop), xs[j]? = some x → Same H1 Hx → (∀ k Hy, sel j = some k → Same Hx Hy → A (.int k) Hy) → (∀ Hy, sel j = none → Same Hx Hy → B Hy) →
      g x (wipe σ vs) Hx fun σ2 H2 => wipe σ2 vs = wipe σ vs ∧ tt σ2 H2 fun c H3 => if c = true then te σ2 H3 A else B H3)
    (q : ∀ o ns H', Same H1 H' → H1 o = none → SI w H' o ns → ns.length ≤ N → (∀ k, k ∈ ns ↔ ∃ j, j < xs.length ∧ sel j = some k) → Q (.ref o) H') :
    tScI w (fun _ H R => R (Itl K a) H) g tt te vs σ H1 Q := by
  intro D nD
  obtain ⟨Pv, hPv⟩ : ∃ Pv : Nat → Hp → Prop, Pv = (fun i Hx => Same H1 Hx ∧ ∃ ns, SI w Hx D ns ∧ ∀ k, k ∈ ns ↔ ∃ j, j < i ∧ sel j = some k) := ⟨_, rfl⟩
  refine ⟨fun i m H => m = xs.length - i ∧ i ≤ xs.length ∧ Pv i H, fun H0 off new => ⟨_, rfl, Nat.zero_le _, ?_⟩, ?_⟩
  · rw [hPv]
    exact ⟨fun b o e => by rw [off b (fun z => by rw [z, nD] at e; cases e)]; exact e, [], new, fun k => by simp⟩
  · rintro i m Hx ⟨rfl, hi, pv⟩
    have pv0 := pv
    rw [hPv] at pv
    obtain ⟨sm, ns, si, mem⟩ := pv
    have nl : ns.length ≤ N := by
      obtain ⟨_, _, nd, _⟩ := si
      exact ints_lenP nd fun k hk => by
        obtain ⟨j, hj, h⟩ := (mem k).mp hk
        exact bnd j k (by omega) h
    have sq := SqL.of (K := K) (sm _ _ ha)
    by_cases hlt : i < xs.length
    · refine .inr ⟨⟨xs, xs[i], sq, by simp [hlt]⟩, Pv (i + 1), fun H' p' => ⟨xs.length - (i + 1), by omega, rfl, hlt, p'⟩, fun x H' y => ?_⟩
      obtain ⟨e, y⟩ := y
      subst e
      refine step i x _ _ _ (y xs sq) sm (fun k Hy es sy => ⟨k, ns, rfl, si.same sy, Nat.lt_of_le_of_lt (show ns.length + 1 ≤ 1001 by omega) (by decide), fun H5 off new => ?_⟩) (fun Hy es sy => ?_)
      · rw [hPv]
        have sy' := sm.trans sy
        refine ⟨fun b o e => by rw [off b (fun z => by rw [z, nD] at e; cases e)]; exact sy' b o e, _, new, fun k' => ?_⟩
        · have e : k' ∈ (if k ∈ ns then ns else ns ++ [k]) ↔ k' ∈ ns ∨ k' = k := by
            split
            · rename_i c
              exact ⟨.inl, fun h => h.elim id fun e => by rw [e]; exact c⟩
            · rw [List.mem_append, List.mem_singleton]
          rw [e, mem k']
          constructor
          · rintro (⟨j, hj, h⟩ | h)
            · exact ⟨j, by omega, h⟩
            · exact ⟨i, by omega, by rw [h]; exact es⟩
          · rintro ⟨j, hj, h⟩
            by_cases c : j = i
            · rw [c, es] at h
              exact .inr (Option.some.inj h).symm
            · exact .inl ⟨j, by omega, h⟩
      · rw [hPv]
        refine ⟨sm.trans sy, ns, si.same sy, fun k' => ?_⟩
        rw [mem k']
        constructor
        · rintro ⟨j, hj, h⟩
          exact ⟨j, by omega, h⟩
        · rintro ⟨j, hj, h⟩
          by_cases c : j = i
          · rw [c, es] at h
            cases h
          · exact ⟨j, by omega, h⟩
    · have e : i = xs.length := by omega
      subst e
      exact .inl ⟨⟨xs, sq, Nat.le_refl _⟩, q D ns Hx sm nD si nl mem⟩
theorem scIW {w : World} {wi : TI} {g : TG} {tt : TT} {te : TE} {vs : List Nat} {σ : L2.St} {H : Hp} {Q : VK} (h : wi σ H fun J H1 => tScI w (fun _ H R => R J H) g tt te vs σ H1 Q) : tScI w wi g tt te vs σ H Q := h

/-! ### sure_pairs -/
abbrev sSur : Stmt := topS 17
section
variable {P : Program} {w : World} {K : PySem.W.Frag} {mg : Str → Option Value} {base : Heap}
theorem scSur : FnScope ["house", "form", "pairs", "a", "b", "before", "_"] ["house", "form"] (defScope sSur) := ⟨rfl, rfl, rfl, by decide +kernel, rfl, by decide +kernel, by decide +kernel⟩
/-- the sure pairs: each called room, each room that the forced pairs lead to from it -/
def spSur (C : Addr) : Sp := fun vs H Q _ => ∃ (p : Addr) (v : V) (r : Nat) (D : List Pr) (own : List Addr) (L : List Cl), vs = [.ref p, v] ∧ HouseAt C H p r D own ∧ FormAt H 12 v (formF D r L) ∧ r ≤ 12 ∧
  ∀ ws E t H', Same H H' → H t = none → H' t = some (.lst ws) → PL H' ws E → Asc E → (∀ d : Pr, d ∈ E ↔ Lnk (pairsF D (formF D r L)) d.1 d.2) → Q (.ref t) H'
theorem ok_sur {f C f1 f2 : Addr} {fd fd1 fd2 : FuncData} (F : Fun K "sure_pairs" "sure_pairs" sSur f fd) (T : Bi mg) (d_forced_pairs : Df P w K mg base "forced_pairs" ["house", "form"] 18 (spFrp C) f1 fd1) (d_linked_rooms : Df P w K mg base "linked_rooms" ["pairs", "start"] 1 spLnk f2 fd2) : FnOk P w K mg base CX0 19 f fd ["house", "form"] (spSur C) := by
  refine F.ok scSur (fun vs H Q E h => ?_) (fun cdv A0 outer s H vs Q E hr h => ?_)
  · obtain ⟨p, v, r, D, own, L, rfl, _⟩ := h
    rfl
  · obtain ⟨p, v, r, D, own, L, rfl, hh, hv, r12, ret⟩ := h
    refine ⟨_, (pss_cons (ps_set (i := 2) scSur.nd rfl (Or.inr rfl) (pe_call d_forced_pairs.ok (hr.mono (by decide)) (by rfl) d_forced_pairs.at_ d_forced_pairs.kp d_forced_pairs.b .nil pass0 (pa_cons (pv 0) (pa_cons (pv 1) pa_nil))))
      (pss_one (ps_ret (pe_lc2 (own := [("a", 3), ("b", 4)]) (vs1 := [4]) (wi1 := iList K (tCall spLnk [] E0 (tCons (tVar 2) (tCons (tVar 3) tNil)))) (te := tTup (tCons (tVar 3) (tCons (tVar 4) tNil))) (by rfl) scSur.nd (pi_list (pe_callB (cr_sortedSet rfl) (by rfl) T.sorted (by decide +kernel) (pa_cons (pe_scI (own := [("before", 5), ("_", 6)]) (te := (tVar 5)) (g := gTup K 2 (gCons (gName 5) (gCons (gName 6) gNil))) (by rfl) scSur.nd (pi_list (pv 2)) (blkOk_by (N := ["house", "form", "pairs", "a", "b", "before", "_"]) (sc := defScope sSur) (by decide +kernel)) (fun _ _ _ _ _ => pg_tup rfl (pgs_cons (pg_name (i := 5) scSur.nd rfl (Or.inl rfl)) (pgs_cons (pg_name (i := 6) scSur.nd rfl (Or.inl rfl)) pgs_nil))) (fun _ _ _ _ _ => pts_nil) (fun _ _ _ _ _ => (pv 5))) pa_nil))) (blkOk_by (N := ["house", "form", "pairs", "a", "b", "before", "_"]) (sc := defScope sSur) (by decide +kernel)) (by decide) (fun _ _ _ _ _ => pg_name (i := 3) scSur.nd rfl (Or.inl rfl)) (fun _ _ _ _ _ => pts_nil) (fun _ _ _ _ _ => (pi_list (pe_call d_linked_rooms.ok (hr.mono (by decide)) (by rfl) d_linked_rooms.at_ d_linked_rooms.kp d_linked_rooms.b .nil pass0 (pa_cons (pv 2) (pa_cons (pv 3) pa_nil))))) (fun _ _ _ _ _ => pg_name (i := 4) scSur.nd rfl (Or.inl rfl)) (fun _ _ _ _ _ => pts_nil) (fun _ _ _ _ _ => (pe_tup (pa_cons (pv 3) (pa_cons (pv 4) pa_nil)))))))), ?_⟩
    walk_at "rd"
    refine ⟨p, v, r, D, own, L, rfl, hh, hv, fun us E t0 H1 s1 n1 h1 pl pm ord => ?_⟩
    have inr : ∀ d ∈ E, (0 ≤ d.1 ∧ d.1 < (r : Int)) ∧ 0 ≤ d.2 ∧ d.2 < (r : Int) := fun d hd => by
      have := pair_called r12 (pm.mem_iff.mp hd)
      exact ⟨rg_mem (cld_mem.mp this.1).1, rg_mem (cld_mem.mp this.2).1⟩
    refine lc2W ?_
    walk_at "rd"
    refine scIW ?_
    walk_at "rd"
    refine ⟨⟨_, SqL.of h1⟩, sc_listG (fun j => E[j]?.map (·.1)) (N := r) h1 (by omega) (fun j k _ h => ?_) (fun j x Hx A B gx sx hA hB => ?_) fun o ns H2 s2 n2 si nl mem => ?_⟩
    · cases e : E[j]? with
      | none => rw [e] at h; cases h
      | some d =>
        rw [e] at h
        rw [← (Option.some.inj h : d.1 = k)]
        exact (inr d (List.mem_of_getElem? e)).1
    · obtain ⟨d, gd, td, rfl, htd⟩ := pget pl gx
      simp only [wipe]
      refine ⟨td, _, rfl, SqT.of (sx _ _ htd), rfl, _, _, rfl, _, _, rfl, rfl, rfl, iteT (B := True) ⟨_, rfl, hA _ _ ?_ (Same.refl _)⟩⟩
      show E[j]?.map (·.1) = some d.1
      rw [gd]
      rfl
    · obtain ⟨S, hD, nd, mS⟩ := si
      have memA : ∀ k, k ∈ ns ↔ ∃ d ∈ E, d.1 = k := fun k => by
        rw [mem k]
        constructor
        · rintro ⟨j, _, h⟩
          cases e : E[j]? with
          | none => rw [e] at h; cases h
          | some d =>
            rw [e] at h
            exact ⟨d, List.mem_of_getElem? e, Option.some.inj h⟩
        · rintro ⟨d, hd, rfl⟩
          obtain ⟨j, hj⟩ := List.mem_iff_getElem?.mp hd
          exact ⟨j, by rw [pl.len]; exact (List.getElem?_eq_some_iff.mp hj).1, by rw [hj]; rfl⟩
      refine ⟨o, S, _, rfl, hD, by omega, fun as pa asc ma la npa => ⟨pa, rfl, ⟨_, SqL.of upd_same⟩, ?_⟩⟩
      have s3 : Same H1 (upd H2 pa (HO.lst (as.map V.int))) := s2.trans (same_upd npa)
      have hpa := upd_same (H := H2) (a := pa) (o := HO.lst (as.map V.int))
      generalize upd H2 pa (HO.lst (as.map V.int)) = H3 at s3 hpa ⊢
      have memA2 : ∀ k, k ∈ as ↔ ∃ d ∈ E, d.1 = k := fun k => by rw [ma k, mS k, memA k]
      have asr : ∀ x ∈ as, 0 ≤ x ∧ x < (r : Int) := fun x hx => by
        obtain ⟨d, hd, rfl⟩ := (memA2 x).mp hx
        exact (inr d hd).1
      intro De nD
      refine ⟨fun i m Hx => m = as.length - i ∧ i ≤ as.length ∧ Same H3 Hx ∧ ∃ ws Pq, Hx De = some (.lst ws) ∧ PL Hx ws Pq ∧ Asc Pq ∧ Pq.length ≤ 12 * i ∧ ∀ d : Pr, d ∈ Pq ↔ d.1 ∈ as.take i ∧ Lnk E d.1 d.2, ⟨_, rfl, Nat.zero_le _, same_upd nD, [], [], upd_same, .nil, List.Pairwise.nil, Nat.le_refl _, fun d => by simp⟩, ?_⟩
      rintro i m Hx ⟨rfl, hi, sx, ws, Pq, hDe, pq, aq, lq, mq⟩
      by_cases lt : i < as.length
      · obtain ⟨x, gx⟩ : ∃ x, as[i]? = some x := ⟨as[i], List.getElem?_eq_getElem lt⟩
        have mx := List.mem_of_getElem? gx
        have tk : as.take (i + 1) = as.take i ++ [x] := by rw [List.take_add_one, gx]; rfl
        refine .inr ⟨⟨as.map V.int, .int x, SqL.of (sx _ _ hpa), by rw [List.getElem?_map, gx]; rfl⟩, fun H' => Same H3 H' ∧ ∃ ws Pq, H' De = some (.lst ws) ∧ PL H' ws Pq ∧ Asc Pq ∧ Pq.length ≤ 12 * (i + 1) ∧ ∀ d : Pr, d ∈ Pq ↔ d.1 ∈ as.take (i + 1) ∧ Lnk E d.1 d.2, fun H' q => ⟨_, by omega, rfl, lt, q.1, q.2⟩, ?_⟩
        rintro v' H' ⟨rfl, ev⟩
        have e2 := ev _ (SqL.of (sx _ _ hpa))
        rw [List.getElem?_map, gx] at e2
        obtain rfl := Option.some.inj e2
        refine ⟨rfl, iteT (B := True) ?_⟩
        rw [if_pos rfl]
        simp only [wipe]
        walk_at "rd"
        have s13 := s3.trans sx
        refine ⟨t0, us, E, x, r, rfl, s13 _ _ h1, pl.kt (KT.same s13), r12, fun d hd => (inr d hd).2, fun bs tb H4 s4 ntb htb up mb => ⟨tb, rfl, ⟨_, SqL.of htb⟩, ?_⟩⟩
        have bl : bs.length ≤ 12 := Nat.le_trans (ints_lenP (up.imp fun h => by omega) fun y hy => by
          obtain ⟨z, hz⟩ := ((mb y).mp hy).last
          exact (inr _ hz).2) r12
        have hDe4 := s4 _ _ hDe
        have pq4 := pq.kt (KT.same s4)
        have asc2 : ∀ y ∈ as.take i, y < x := fun y hy => by
          obtain ⟨n, hn⟩ := List.mem_iff_getElem?.mp hy
          have hni : n < i := by
            have := (List.getElem?_eq_some_iff.mp hn).1
            rw [List.length_take] at this
            omega
          rw [List.getElem?_take_of_lt hni] at hn
          obtain ⟨h1, e1⟩ := List.getElem?_eq_some_iff.mp hn
          obtain ⟨h2, e2⟩ := List.getElem?_eq_some_iff.mp gx
          have := List.pairwise_iff_getElem.mp asc n i h1 h2 hni
          rw [e1, e2] at this
          exact this
        refine ⟨fun k m Hy => m = bs.length - k ∧ k ≤ bs.length ∧ Same H3 Hy ∧ Hy tb = some (.lst (bs.map V.int)) ∧ ∃ ws, Hy De = some (.lst ws) ∧ ∃ Pq, PL Hy ws Pq ∧ Asc Pq ∧ Pq.length ≤ 12 * i + k ∧ ∀ d : Pr, d ∈ Pq ↔ (d.1 ∈ as.take i ∧ Lnk E d.1 d.2) ∨ (d.1 = x ∧ d.2 ∈ bs.take k), ⟨_, rfl, Nat.zero_le _, sx.trans s4, htb, ws, hDe4, Pq, pq4, aq, by omega, fun d => by rw [mq d]; simp⟩, ?_⟩
        rintro k mk Hy ⟨rfl, hk, sy, hty, ws2, hD2, Pq2, pq2, aq2, lq2, mq2⟩
        by_cases lk : k < bs.length
        · obtain ⟨y, gy⟩ : ∃ y, bs[k]? = some y := ⟨bs[k], List.getElem?_eq_getElem lk⟩
          refine .inr ⟨⟨_, .int y, SqL.of hty, by rw [List.getElem?_map, gy]; rfl⟩, fun H' => Same H3 H' ∧ H' tb = some (.lst (bs.map V.int)) ∧ ∃ ws, H' De = some (.lst ws) ∧ ∃ Pq, PL H' ws Pq ∧ Asc Pq ∧ Pq.length ≤ 12 * i + (k + 1) ∧ ∀ d : Pr, d ∈ Pq ↔ (d.1 ∈ as.take i ∧ Lnk E d.1 d.2) ∨ (d.1 = x ∧ d.2 ∈ bs.take (k + 1)), fun H' q => ⟨_, by omega, rfl, lk, q.1, q.2.1, q.2.2⟩, ?_⟩
          rintro u H' ⟨rfl, ev2⟩
          have e3 := ev2 _ (SqL.of hty)
          rw [List.getElem?_map, gy] at e3
          obtain rfl := Option.some.inj e3
          refine ⟨by decide, fun q nq => ?_⟩
          have sq := same_upd (o := HO.tup [V.int x, V.int y]) nq
          have hq := upd_same (H := H') (a := q) (o := HO.tup [V.int x, V.int y])
          generalize upd H' q (HO.tup [V.int x, V.int y]) = H5 at sq hq ⊢
          have hD5 := sq _ _ hD2
          have ntb' : tb ≠ De := fun z => by rw [z] at ntb; rw [hDe] at ntb; cases ntb
          have s5 := sy.trans sq
          have kt : KT H5 (upd H5 De (HO.lst (ws2 ++ [V.ref q]))) := KT.lst hD5
          have tkk : bs.take (k + 1) = bs.take k ++ [y] := by rw [List.take_add_one, gy]; rfl
          refine ⟨ws2, hD5, len_big (by rw [pq2.len]; omega), same_ch s5 nD, by rw [upd_ne ntb']; exact sq _ _ hty, _, upd_same, Pq2 ++ [(x, y)], Paired.snoc ((pq2.kt (KT.same sq)).kt kt) ⟨q, rfl, kt _ _ hq⟩, ?_, by rw [List.length_append, List.length_singleton]; omega, fun d => ?_⟩
          · unfold Asc
            rw [List.pairwise_append]
            refine ⟨aq2, List.pairwise_singleton _ _, fun d hd e he => ?_⟩
            rw [List.mem_singleton.mp he]
            rcases (mq2 d).mp hd with ⟨h, _⟩ | ⟨h, h2⟩
            · exact .inl (asc2 _ h)
            · refine .inr ⟨h, ?_⟩
              obtain ⟨n, hn⟩ := List.mem_iff_getElem?.mp h2
              have hnk : n < k := by
                have := (List.getElem?_eq_some_iff.mp hn).1
                rw [List.length_take] at this
                omega
              rw [List.getElem?_take_of_lt hnk] at hn
              obtain ⟨g1, e1⟩ := List.getElem?_eq_some_iff.mp hn
              obtain ⟨g2, e2⟩ := List.getElem?_eq_some_iff.mp gy
              have := List.pairwise_iff_getElem.mp up n k g1 g2 hnk
              rw [e1, e2] at this
              exact this
          · rw [List.mem_append, mq2 d, List.mem_singleton, tkk, List.mem_append, List.mem_singleton]
            constructor
            · rintro ((h | ⟨h, h2⟩) | h)
              · exact .inl h
              · exact .inr ⟨h, .inl h2⟩
              · rw [h]; exact .inr ⟨rfl, .inr rfl⟩
            · rintro (h | ⟨h, h2 | h2⟩)
              · exact .inl (.inl h)
              · exact .inl (.inr ⟨h, h2⟩)
              · exact .inr (Prod.ext h h2)
        · refine .inl ⟨⟨_, SqL.of hty, by rw [List.length_map]; omega⟩, sy, ws2, hD2, Pq2, pq2, aq2, by omega, fun d => ?_⟩
          have e : bs.take k = bs := List.take_of_length_le (by omega)
          rw [mq2 d, e, tk, List.mem_append, List.mem_singleton, mb]
          constructor
          · rintro (⟨h, h2⟩ | ⟨h, h2⟩)
            · exact ⟨.inl h, h2⟩
            · exact ⟨.inr h, by rw [h]; exact h2⟩
          · rintro ⟨h | h, h2⟩
            · exact .inl ⟨h, h2⟩
            · exact .inr ⟨h, by rw [← h]; exact h2⟩
      · refine .inl ⟨⟨_, SqL.of (sx _ _ hpa), by rw [List.length_map]; omega⟩, ?_⟩
        have e : as.take i = as := List.take_of_length_le (by omega)
        rw [e] at mq
        refine ret ws Pq De _ (s1.trans (s3.trans sx)) (sm_none (s1.trans s3) nD) hDe pq aq fun d => ?_
        rw [mq d]
        have lk : Lnk E d.1 d.2 ↔ Lnk (pairsF D (formF D r L)) d.1 d.2 := ⟨Lnk.congr fun d h => pm.mem_iff.mp h, Lnk.congr fun d h => pm.mem_iff.mpr h⟩
        rw [← lk]
        refine ⟨fun h => h.2, fun h => ⟨?_, h⟩⟩
        obtain ⟨z, hz⟩ := h.first
        exact (memA2 _).mpr ⟨_, hz, rfl⟩
end

/-! ### the forced pairs stand once each; what they lead to goes along the last calls -/
theorem nd_cross {α β γ : Type} {l : List α} {f : α → List β} {g : α → List γ} {key : β → γ} (nd : (l.flatMap g).Nodup) (one : ∀ a ∈ l, (f a).Nodup) (k : ∀ a ∈ l, ∀ b ∈ f a, key b ∈ g a) : (l.flatMap f).Nodup := by
  obtain ⟨_, h⟩ := List.pairwise_flatMap.mp nd
  exact List.pairwise_flatMap.mpr ⟨one, List.Pairwise.imp_of_mem (fun {a b} ma mb h x hx y hy e => h _ (k a ma x hx) _ (k b mb y hy) (by rw [e])) h⟩
theorem pre_nd {D : List Pr} {L : List Cl} : ∀ (m k : Nat) (R : List Int), ((preF m (blkF D L k R)).flatMap Blk.t).Nodup
  | 0, _, _ => List.nodup_nil
  | _ + 1, 0, _ => List.nodup_nil
  | m + 1, k + 1, R => by
    have hs := pcsF_spec D R
    have e1 : preF (m + 1) (blkF D L (k + 1) R) = (pcsF D R).flatMap fun P => blkP D L k P :: preF m (blkP D L k P).i := by
      rw [blkF_succ]
      show ((pcsF D R).map _).flatMap _ = _
      rw [List.flatMap_map]
    rw [e1, List.flatMap_assoc]
    have inP : ∀ P ∈ pcsF D R, ∀ x ∈ (blkP D L k P :: preF m (blkP D L k P).i).flatMap Blk.t, x ∈ P := fun P hP x hx => by
      cases e : wordP L P with
      | none =>
        rw [blkP_none e, show (Blk.mk none P []).i = [] from rfl, preF_nil, List.flatMap_cons, List.flatMap_nil, List.append_nil] at hx
        exact hx
      | some w =>
        rw [blkP_some e, List.flatMap_cons] at hx
        rcases List.mem_append.mp hx with h | h
        · exact keepL_sub 12 P x ((upF_mem _ _).mp h)
        · exact (List.mem_filter.mp (pre_sub m k _ x h)).1
    refine nd_cross (g := fun P => P) (key := id) ?_ (fun P hP => ?_) inP
    · refine List.pairwise_flatMap.mpr ⟨fun P hP => up_nd (hs.part hP).1, List.Pairwise.imp_of_mem (fun {a b} ma mb h x hx y hy e => ?_) hs.asc⟩
      subst e
      have := hs.apart ma mb hx hy
      rw [this] at h
      omega
    · cases e : wordP L P with
      | none =>
        rw [blkP_none e, show (Blk.mk none P []).i = [] from rfl, preF_nil, List.flatMap_cons, List.flatMap_nil, List.append_nil]
        exact up_nd (hs.part hP).1
      | some w =>
        rw [blkP_some e, List.flatMap_cons]
        refine List.nodup_append.mpr ⟨?_, pre_nd m k _, fun a ha b hb eab => ?_⟩
        · show (upF (keepL D L 12 P)).Nodup
          exact up_nd (upF_up _)
        · subst eab
          have h1 := (List.mem_filter.mp (pre_sub m k _ a hb)).2
          rw [decide_eq_true_iff] at h1
          exact h1 ((upF_mem _ _).mp ha)
theorem pairB_mem {D : List Pr} {bi bo : Blk} {d : Pr} (h : d ∈ pairB D bi bo) : d.1 ∈ bi.t ∧ d.2 ∈ bo.t := by
  unfold pairB at h
  cases e : bi.w with
  | none => rw [e] at h; cases h
  | some w =>
    rw [e] at h
    have h : d ∈ (if bo.w = some w then [] else bo.t.flatMap fun x => if besB D (rmsB bi) x = true then bi.t.map fun z => ((z, x) : Pr) else []) := h
    split at h
    · cases h
    · obtain ⟨x, hx, h2⟩ := List.mem_flatMap.mp h
      split at h2
      · obtain ⟨z, hz, rfl⟩ := List.mem_map.mp h2
        exact ⟨hz, hx⟩
      · cases h2
theorem pairB_nd {D : List Pr} {bi bo : Blk} (h1 : bi.t.Nodup) (h2 : bo.t.Nodup) : (pairB D bi bo).Nodup := by
  unfold pairB
  cases e : bi.w with
  | none => exact List.nodup_nil
  | some w =>
    show (if bo.w = some w then [] else bo.t.flatMap fun x => if besB D (rmsB bi) x = true then bi.t.map fun z => ((z, x) : Pr) else []).Nodup
    split
    · exact List.nodup_nil
    · refine nd_cross (g := fun x => [x]) (key := fun d : Pr => d.2) ?_ (fun x _ => ?_) fun x _ d hd => ?_
      · have e : (bo.t.flatMap fun x => [x]) = bo.t := by
          induction bo.t with
          | nil => rfl
          | cons a l ih => rw [List.flatMap_cons, ih]; rfl
        rw [e]
        exact h2
      · split
        · unfold List.Nodup
          rw [List.pairwise_map]
          exact List.Pairwise.imp (fun h e => h (Prod.mk.inj e).1) h1
        · exact List.nodup_nil
      · split at hd
        · obtain ⟨z, _, rfl⟩ := List.mem_map.mp hd
          exact List.mem_singleton.mpr rfl
        · cases hd
theorem pairsF_nd {D : List Pr} {L : List Cl} {r : Nat} : (pairsF D (formF D r L)).Nodup := by
  unfold pairsF formF
  have top := pre_nd (D := D) (L := L) 13 12 (rg r)
  refine nd_cross (g := Blk.t) (key := fun d : Pr => d.2) top (fun bo hbo => ?_) fun bo _ d hd => ?_
  · obtain ⟨k', P', rfl, nd, _⟩ := pre_of 13 _ _ bo hbo
    have bt : (blkP D L k' P').t.Nodup := (List.pairwise_flatMap.mp top).1 _ hbo
    have inner : ((preF 13 (blkP D L k' P').i).flatMap Blk.t).Nodup := by
      cases e : wordP L P' with
      | none =>
        rw [blkP_none e, show (Blk.mk none P' []).i = [] from rfl, preF_nil]
        exact List.nodup_nil
      | some w =>
        rw [blkP_some e]
        exact pre_nd 13 k' _
    exact nd_cross (g := Blk.t) (key := fun d : Pr => d.1) inner (fun bi hbi => pairB_nd ((List.pairwise_flatMap.mp inner).1 _ hbi) bt) fun bi _ d hd => (pairB_mem hd).1
  · obtain ⟨bi, _, h⟩ := List.mem_flatMap.mp hd
    exact (pairB_mem h).2

/-! ### set(xs), xs a list of pairs, up to 76 -/
section
variable {P : Program} {w : World} {A : Around} {E : Value → Shared → Prop} {s : Shared}
theorem PsR.stay {h h' : Heap} {a : Addr} {L : List (Addr × List Int)} {es : Array (Int × Value)} {ep : Nat} {t : SetTable} (R : PsR P w h a L es ep t) (ha : ∀ o, h.get? a = some o → h'.get? a = some o) (ht : ∀ p ∈ L, IsT P w h' p.2 p.1) : PsR P w h' a L es ep t := by
  obtain ⟨o, ho, r⟩ := R.obj
  exact ⟨⟨o, ha o ho, r⟩, R.rw_, R.tb, R.nod, ht, R.pln, R.ld, R.rm⟩
/-- the tuples taken so far, a set of them: what a turn knows -/
def Bag (ks : List (Addr × List Int)) (S : Addr) (P : Program) (w : World) (i : Nat) (h : Heap) : Prop := ∃ L es ep t, PsR P w h S L es ep t ∧ Got ks i L
theorem bag_loop {I : Addr} {fp wr : List Addr} {G : Array GenState → Array GenState → Prop} {n : Nat} {Pv : Nat → Value → Prop} {St : Nat → Shared → Prop} {R : Result → Shared → Prop}
    (W : WalksS P w A.in1 I fp wr G n Pv St) (S : Addr) (hSf : S ∉ fp) (ks : List (Addr × List Int)) (hn : n = ks.length) (few : ks.length ≤ 76) (hval : ∀ i v, Pv i v → ∃ p, ks[i]? = some p ∧ v = .ref p.1)
    (h0 : Heap) (hk : ∀ p ∈ ks, IsT P w h0 p.2 p.1) (hS0 : h0.get? S = none) (hw0 : ∀ b ∈ wr, h0.get? b = none) (hu : A.in1.units < cLine) (left : Nat) :
    ∀ (i : Nat) (s : Shared), n - i = left → i ≤ n → St i s → (∀ b o, h0.get? b = some o → s.heap.get? b = some o) → Bag ks S P w i s.heap →
      (∀ s', Moved (S :: wr) G s s' → Bag ks S P w n s'.heap → (∀ b o, h0.get? b = some o → s'.heap.get? b = some o) → R (.ok (.ret .none)) s') →
      codeAny (model P w) A (.builtin "set.update.loop" ⟨[.ref S, .ref I], []⟩) R s := by
  have away : ∀ {s s' : Shared}, Moved wr G s s' → (∀ b o, h0.get? b = some o → s.heap.get? b = some o) → ∀ b o, h0.get? b = some o → s'.heap.get? b = some o := fun m k b o e => m.heap b o (fun hb => by rw [hw0 b hb] at e; cases e) (k b o e)
  have wider : ∀ b ∈ wr, b ∈ S :: wr := fun b hb => List.mem_cons_of_mem _ hb
  have move : ∀ {i : Nat} {s s' : Shared}, Moved wr G s s' → (∀ b o, h0.get? b = some o → s'.heap.get? b = some o) → Bag ks S P w i s.heap → Bag ks S P w i s'.heap := fun m k' ⟨L, es, ep, t, hS, g⟩ =>
    ⟨L, es, ep, t, hS.stay (fun o e => m.heap S o (fun h => hSf (W.sub _ h)) e) fun p hp => isT_keep (hk p (List.mem_of_mem_take (g.sub p hp))) k', g⟩
  induction left with
  | zero =>
    intro i s e hi st k bag hR
    obtain rfl : i = n := by omega
    refine codeAny_builtin F.entry_set_update_loop ?_
    rw [Around.under_plainId F.plain_set_update_loop _]
    show wpAny _ A.in1 (pyNext (.ref I) >>= _) _ _ s
    refine wpAny_bind (W.done s _ _ st fun s' m => ?_)
    show wpAny _ A.in1 (ret Value.none) _ _ s'
    exact wpAny_pure (hR s' (m.mono wider) (move m (away m k) bag) (away m k))
  | succ left ih =>
    intro i s e hi st k bag hR
    have lt : i < n := by omega
    refine codeAny_builtin F.entry_set_update_loop ?_
    rw [Around.under_plainId F.plain_set_update_loop _]
    show wpAny _ A.in1 (pyNext (.ref I) >>= _) _ _ s
    refine wpAny_bind (W.item i s _ _ lt st fun v s' hP st' m => ?_)
    obtain ⟨p, hp, rfl⟩ := hval i v hP
    have k' := away m k
    obtain ⟨L, es, ep, t, hS, g⟩ := move m k' bag
    have hx : IsT P w s'.heap p.2 p.1 := isT_keep (hk p (List.mem_of_getElem? hp)) k'
    show wpAny _ A.in1 (holding [Value.ref p.1] (setAdd S (.ref p.1)) >>= _) _ _ s'
    refine wpAny_bind (wpAny_holding ?_)
    unfold setAdd
    refine wpAny_holding (wpAny_bind (wpAny_pyHash_tuple hu hx ?_))
    refine padd (s := { s' with toks := s'.toks + (p.2.length + 1) }) hS hx hu (by have := g.len; omega) fun b h' L' es' ep' t' sb hS2 c1 c2 => ?_
    have g' : Got ks (i + 1) L' := by
      by_cases c : p.2 ∈ L.map (·.2)
      · rw [c1 c]; exact g.same hp c
      · exact g.more hp (c2 c)
    have k2 : ∀ b o, h0.get? b = some o → h'.get? b = some o := fun b o e => (sb.2 b (fun z => by rw [z, hS0] at e; cases e)).trans (k' b o e)
    refine wpAny_pure ⟨plainId_quiet F.plain_set_update_loop _, ih (i + 1) _ (by omega) lt (W.frame _ s' _ _ st' (Nat.le_add_right _ _) fun b hb o e => ?_) k2 ⟨L', es', ep', t', hS2, g'⟩ fun s2 m2 bag2 k3 => hR s2 (Moved.trans W.gtrans ((m.mono wider).then_heap (Nat.le_add_right _ _) fun b o hb e => ?_) m2) bag2 k3⟩
    · rw [sb.2 b (fun h => hSf (by rw [← h]; exact hb))]; exact e
    · rw [sb.2 b (fun h => hb (by rw [h]; exact List.mem_cons_self))]; exact e
/-- the object that set() makes -/
abbrev newSetO (w : World) : Obj := { cls := .type "set", dict := none, data := .set #[] 0 (.fresh 0 0 (!w.params.followText "set-order")) }
set_option maxRecDepth 100000 in
set_option maxHeartbeats 3200000 in
theorem call_bag {l : Addr} {items : Array Value} (ks : List (Addr × List Int)) {Q : Value → Shared → Prop} (hh : A.handled = none) (hl : s.heap.IsList l items) (hit : items.toList = ks.map fun p => Value.ref p.1)
    (hk : ∀ p ∈ ks, IsT P w s.heap p.2 p.1) (few : ks.length ≤ 76) (hu : A.units + 3 < cLine)
    (h : ∀ (h' : Heap) (tk : Nat), Bag ks s.heap.objs.size P w ks.length h' → (∀ b o, s.heap.get? b = some o → h'.get? b = some o) → Q (.ref s.heap.objs.size) { s with heap := h', toks := tk }) :
    wpAny (model P w) A (call (.type "set") [.ref l]) Q E s := by
  have isz : items.size = ks.length := by
    have e := congrArg List.length hit
    rwa [Array.length_toList, List.length_map] at e
  obtain ⟨c, tl, hmro⟩ := F.called_set.mro
  have hmade := F.called_set.made
  have hsub := F.called_set.sub
  refine wpAny_call (codeAny_of_tree ?_)
  show wpAny _ _ (callAny (.type "set") _) _ _ _
  refine wpAny_pure ⟨Code.quiet_builtin _ (by decide +kernel), codeAny_builtin F.entry_type_call ?_⟩
  rw [Around.under_plain (weight_type_call_type "set" [.ref l] []) rfl]
  have h1 := F.called_set.notType
  have h2 := F.called_set.canCreate
  have hct := F.typeCall_set_1 (.ref l)
  repeat (any_goals (first | assumption | wp_step))
  refine codeAny_mono (code_set_led1 (.ref l) (E := E) (Q₁ := fun obj s₁ => obj = .ref s.heap.objs.size ∧ s₁ = { s with heap := s.heap.push (newSetO w) }) ⟨rfl, rfl⟩) fun r s₁ hr => ?_
  cases r with
  | error e => exact hr
  | ok fl =>
    cases fl with
    | ret obj =>
      obtain ⟨rfl, rfl⟩ := hr
      have hS : (s.heap.push (newSetO w)).get? s.heap.objs.size = some (newSetO w) := Heap.get?_push_size _ rfl
      have hT : Shared.TypeIs { s with heap := s.heap.push (newSetO w) } (.ref s.heap.objs.size) "set" := ⟨_, hS, rfl⟩
      have hli := F.called_set.init.lookup
      have hbi := F.called_set.init.bind (.ref s.heap.objs.size)
      repeat (any_goals (first | assumption | wp_step))
      refine codeAny_mono (codeAny_call_builtin (R := wants (fun r s₂ => r = .none ∧ ∃ h' tk, s₂ = { s with heap := h', toks := tk } ∧ Bag ks s.heap.objs.size P w ks.length h' ∧ (∀ b o, s.heap.get? b = some o → h'.get? b = some o)) E) F.called_set.init.plain F.entry_set_init (check_set_init_1 hT ?_)) fun r₂ s₂ hr₂ => ?_
      · obtain ⟨ol, hol, hcl, nl, hdl⟩ := hl
        obtain ⟨ocls, odict, odata, oslots⟩ := ol
        simp only at hcl hdl
        subst hcl; subst hdl
        have hol' : (s.heap.push (newSetO w)).get? l = some { cls := .type "list", dict := odict, data := .seq items nl, slots := oslots } := Heap.get?_push_of_some _ hol
        have hsls := F.sub_list_set
        have hslf := F.sub_list_frozenset
        have hne : (Value.type "list" == Value.type "dict") = false := by decide
        have hl1 : (s.heap.push (newSetO w)).IsList l items := ⟨_, hol', rfl, nl, rfl⟩
        unfold Builtin.«set.__init__» noKeywords Builtin.Frozenset.updateFrom
        generalize hPI : pyIter = PI
        wp_walk
        subst hPI
        refine wpAny_pyIter_list hl1 (wpAny_bind (wpAny_runValue ?_))
        have lS : l < s.heap.objs.size := Heap.lt_size hol
        have z1 : (s.heap.push (newSetO w)).objs.size = s.heap.objs.size + 1 := Heap.size_push ..
        have none_of : ∀ b, s.heap.objs.size ≤ b → s.heap.get? b = none := fun b hb => Heap.get?_none_of_le hb
        have val : ∀ (i : Nat) (v : Value), items[i]? = some v → ∃ p, ks[i]? = some p ∧ v = .ref p.1 := fun i v hv => by
          have e : (ks.map fun p => Value.ref p.1)[i]? = some v := by rw [← hit, Array.getElem?_toList]; exact hv
          rw [List.getElem?_map] at e
          obtain ⟨p, hp, rfl⟩ := Option.map_eq_some_iff.mp e
          exact ⟨p, hp, rfl⟩
        refine bag_loop ((Walks.list (show A.in1.in1.in1.handled = none by simp [hh]) _ l (by rw [z1]; exact Nat.ne_of_lt (Nat.lt_succ_of_lt lS)) items).toS) s.heap.objs.size (by
            rw [z1]
            intro z
            rcases List.mem_cons.mp z with e | e
            · exact absurd e (Nat.ne_of_lt (Nat.lt_succ_self _))
            · exact absurd (List.mem_singleton.mp e) (Nat.ne_of_gt lS)) ks isz few val s.heap hk (none_of _ (Nat.le_refl _)) (fun b hb => none_of b (by rw [List.mem_singleton.mp hb, z1]; exact Nat.le_succ _)) hu (items.size - 0) 0 _ (by omega) (Nat.zero_le _)
          ⟨⟨_, Heap.get?_push_size _ rfl, rfl, rfl⟩, (hl1.push _)⟩ (fun b o e => Heap.get?_push_of_some _ (Heap.get?_push_of_some _ e)) ⟨[], #[], 0, _, PsR.of (setTR_fresh (Heap.get?_push_of_some _ hS)), Got.zero ks⟩ fun s' m bag kp => ?_
        obtain ⟨h', g2, d', tk', os'⟩ := s'
        obtain rfl : g2 = s.gens := m.gens
        obtain rfl : d' = s.drawn := m.drawn
        obtain rfl : os' = s.os := m.os
        show wpAny _ _ _ _ _ _
        refine wpAny_pure ?_
        show wpAny _ _ (ret Value.none) _ _ _
        rw [isz] at bag
        exact wpAny_pure ⟨rfl, h', tk', rfl, bag, kp⟩
      · cases r₂ with
        | error e => exact hr₂
        | ok fl₂ =>
          cases fl₂ with
          | ret r =>
            obtain ⟨rfl, h', tk, rfl, bag, k'⟩ := hr₂
            repeat (any_goals (first | assumption | wp_step))
            exact h _ _ bag k'
          | _ => exact hr₂.elim
    | _ => exact hr.elim
end
section
variable {X : Cx}
def rPsOf (K : PySem.W.Frag) (P : Program) (w : World) : List V → Hp → VK → Prop := fun xs H Q => ∃ (l : Addr) (us : List V) (E : List Pr), xs = [V.ref l] ∧ SqL K H l us ∧ PL H us E ∧ E.length ≤ 76 ∧
  ∀ a L, H a = none → (∀ p ∈ L, ∃ d ∈ E, p.2 = [d.1, d.2] ∧ H p.1 = some (.tup [V.int d.1, V.int d.2])) → (∀ d ∈ E, [d.1, d.2] ∈ L.map (·.2)) → L.length ≤ E.length → Q (.ref a) (upd H a (PsO P w a L))
theorem cr_psOf (hc : X.calm = true) (hu : X.A.units + 64 < cLine) : CallR X (.type "set") (rPsOf X.K X.prog X.w) := by
  intro pins s σ H xs us0 Q I r h
  obtain ⟨l, us, E, rfl, hl, pl, few, q⟩ := h
  rw [Vals.ref1 r]
  obtain ⟨its, rv, li, hz⟩ := I.list hl
  obtain ⟨ks, eu, ek⟩ : ∃ ks : List (Addr × List Int), us = ks.map (fun p => V.ref p.1) ∧ Paired (fun p d => p.2 = [d.1, d.2] ∧ H p.1 = some (.tup [V.int d.1, V.int d.2])) ks E := by
    clear q rv hl few hz
    induction pl with
    | nil => exact ⟨[], rfl, .nil⟩
    | @cons v d us E hd _ ih =>
      obtain ⟨ks, rfl, ek⟩ := ih
      obtain ⟨t, rfl, ht⟩ := hd
      exact ⟨(t, [d.1, d.2]) :: ks, rfl, .cons ⟨rfl, ht⟩ ek⟩
  subst eu
  have at1 : ∀ p ∈ ks, ∃ d ∈ E, p.2 = [d.1, d.2] ∧ H p.1 = some (.tup [V.int d.1, V.int d.2]) := fun p hp => by
    obtain ⟨i, hi⟩ := List.mem_iff_getElem?.mp hp
    obtain ⟨d, gd, e, sq⟩ := pget ek hi
    exact ⟨d, List.mem_of_getElem? gd, e, sq⟩
  have hn : H s.heap.objs.size = none := I.hok.fresh (Nat.le_refl _)
  refine call_bag (P := X.prog) (w := X.w) ks (I.ok.hd hc) li.isList (by simpa using refs_of_vals rv) (fun p hp => by obtain ⟨d, _, e, ht⟩ := at1 p hp; rw [e]; exact I.isT (SqT.of ht)) (by rw [ek.length]; exact few) (by omega) fun h' tk bag k => ?_
  obtain ⟨L, es, ep, t, R, g⟩ := bag
  have sub : ∀ p ∈ L, p ∈ ks := fun p hp => List.mem_of_mem_take (g.sub p hp)
  refine ⟨.ref s.heap.objs.size, upd H s.heap.objs.size (PsO X.prog X.w s.heap.objs.size L), I.laid (t' := tk) k (Nat.le_refl _) (psO_new R.p0), rfl, q _ L hn (fun p hp => at1 p (sub p hp)) (fun d hd => ?_) (by rw [← ek.length]; exact g.len)⟩
  obtain ⟨i, hi⟩ := List.mem_iff_getElem?.mp hd
  have il : i < ks.length := by rw [ek.length]; exact (List.getElem?_eq_some_iff.mp hi).1
  obtain ⟨d', gd, e, _⟩ := pget ek (List.getElem?_eq_getElem il)
  rw [hi] at gd
  cases gd
  rw [← e]
  exact g.all _ (by rw [List.take_length]; exact List.getElem_mem il)
end

theorem Room.u65 {k : Nat} {A : Around} (r : Room k A) : A.units + 65 < cLine := by
  have := r.un
  omega
/-! ### lists of pairs as data -/
def pdP (d : Pr) : PyData := .tuple [.int d.1, .int d.2]
theorem pdP_eqv (d e : Pr) : PyData.eqv (pdP d) (pdP e) = decide (d = e) := by
  show (d.1 == e.1 && (d.2 == e.2 && true)) = decide (d = e)
  obtain ⟨a, b⟩ := d
  obtain ⟨c, f⟩ := e
  by_cases h1 : a = c
  · by_cases h2 : b = f
    · subst h1; subst h2; simp
    · have : ¬ ((a, b) : Pr) = (c, f) := fun z => h2 (Prod.mk.inj z).2
      simp [h1, h2]
  · have : ¬ ((a, b) : Pr) = (c, f) := fun z => h1 (Prod.mk.inj z).1
    simp [h1]
theorem any_eqv (d : Pr) (D : List Pr) : ((D.map pdP).any fun z => PyData.eqv z (pdP d)) = decide (d ∈ D) := by
  induction D with
  | nil => rfl
  | cons e D ih =>
    rw [List.map_cons, List.any_cons, ih, pdP_eqv]
    by_cases h : e = d
    · subst h
      simp
    · have h' : ¬ d = e := fun z => h z.symm
      simp [h, h']
theorem dep_all (D : List Pr) : PyData.depthAll (D.map pdP) ≤ 1 := by
  induction D with
  | nil => exact Nat.zero_le _
  | cons e D ih =>
    show max (PyData.depth (pdP e)) (PyData.depthAll (D.map pdP)) ≤ 1
    exact Nat.max_le.mpr ⟨Nat.le_refl _, ih⟩
theorem lay_all (D : List Pr) : PyData.canLayAll0 (D.map pdP) = true := by
  induction D with
  | nil => rfl
  | cons e D ih =>
    show (PyData.canLay0 (pdP e) && PyData.canLayAll0 (D.map pdP)) = true
    rw [ih]
    rfl
theorem shaped_list (D : List Pr) : SeqAt.shaped (.list (D.map pdP)) = true := by
  have h := dep_all D
  show (PyData.canLayAll0 (D.map pdP) && decide (PyData.depthAll (D.map pdP) + 1 ≤ 64)) = true
  rw [lay_all, Bool.true_and, decide_eq_true_eq]
  omega
theorem dp_pair {K : PySem.W.Frag} {H : Hp} {v : V} {d : Pr} (h : IsP H v d) : Dp K H v (pdP d) := by
  obtain ⟨t, rfl, e⟩ := h
  exact .tup (SqT.of e) (.cons (.int _) (.cons (.int _) .nil))
theorem dp_all {K : PySem.W.Frag} {H : Hp} : ∀ {vs : List V} {D : List Pr}, PL H vs D → DpAll K H vs (D.map pdP)
  | _, _, Paired.nil => .nil
  | _, _, Paired.cons r t => .cons (dp_pair r) (dp_all t)

/-! ### a comprehension over a list, any target -/
/-- comprehension over a list, any target -/
theorem gc_listG {β : Type} {K : PySem.W.Frag} {a : Addr} {xs : List V} {vs : List Nat} {g : TG} {tt : TT} {te : TE} {σ : L2.St} {H1 : Hp} {Q : VK} (rel : Addr → Hp → V → β → Prop) (up : ∀ D H H' v b, rel D H v b → (∀ t o, t ≠ D → H t = some o → H' t = some o) → rel D H' v b) (sel : Nat → Option β) (ha : H1 a = some (.lst xs)) (len : xs.length ≤ 100000)
    (step : ∀ (D : Addr) (j : Nat) (x : V) (Hx : Hp) (A : VK) (B : Hp → Prop), xs[j]? = some x → Same H1 Hx → (∃ o, Hx D = some o) → (∀ v b Hy, sel j = some b → Same Hx Hy → rel D Hy v b → A v Hy) → (∀ Hy, sel j = none → Same Hx Hy → B Hy) →
      g x (wipe σ vs) Hx fun σ2 H2 => wipe σ2 vs = wipe σ vs ∧ tt σ2 H2 fun c H3 => if c = true then te σ2 H3 A else B H3)
    (q : ∀ o ys H', Same H1 H' → H1 o = none → H' o = some (.lst ys) → Paired (rel o H') ys ((List.range xs.length).filterMap sel) → Q (.ref o) H') :
    tLc (fun _ H R => R (Itl K a) H) g tt te vs σ H1 Q := by
  intro D nD
  obtain ⟨Pv, hPv⟩ : ∃ Pv : Nat → Hp → Prop, Pv = (fun j Hx => ∃ ys, Same H1 Hx ∧ Hx D = some (.lst ys) ∧ Paired (rel D Hx) ys ((List.range j).filterMap sel)) := ⟨_, rfl⟩
  refine lc_list (K := K) (a := a) (xs := xs) Pv (by rw [hPv]; exact ⟨[], same_upd nD, upd_same, Paired.nil⟩) (fun j H' _ pv => by rw [hPv] at pv; obtain ⟨_, sm, _⟩ := pv; exact SqL.of (sm _ _ ha)) (fun j x H' gx pv => ?_) (fun H' pv => ?_)
  · rw [hPv] at pv
    obtain ⟨ys, sm, hD, pr⟩ := pv
    have jl := (List.getElem?_eq_some_iff.mp gx).1
    have yl : ys.length ≤ j := by rw [pr.length]; exact fm_len sel j
    refine step D j x H' _ _ gx sm ⟨_, hD⟩ (fun v b Hy es sy r => ?_) (fun Hy es sy => ?_)
    · have hD2 := sy _ _ hD
      refine ⟨ys, hD2, len_big (by omega), ?_⟩
      rw [hPv]
      refine ⟨ys ++ [v], same_ch (sm.trans sy) nD, upd_same, ?_⟩
      rw [fm_step, es]
      have keep : ∀ t o, t ≠ D → Hy t = some o → upd Hy D (HO.lst (ys ++ [v])) t = some o := fun t o ne e => by rw [upd_ne ne]; exact e
      exact Paired.snoc (Paired.mapP pr fun v b h => up _ _ _ _ _ (up _ _ _ _ _ h fun t o _ e => sy t o e) keep) (up _ _ _ _ _ r keep)
    · rw [hPv]
      refine ⟨ys, sm.trans sy, sy _ _ hD, ?_⟩
      rw [fm_step, es, List.append_nil]
      exact Paired.mapP pr fun v b h => up _ _ _ _ _ h fun t o _ e => sy t o e
  · rw [hPv] at pv
    obtain ⟨ys, sm, hD, pr⟩ := pv
    exact q D ys H' sm nD hD pr

/-! ### _law_chains -/
abbrev sLch : Stmt := topS 39
/-- what leads from a to c by rooms below b -/
inductive LkB (E : List Pr) (b : Int) : Int → Int → Prop
  | one {a c : Int} : (a, c) ∈ E → LkB E b a c
  | join {a m c : Int} : 0 ≤ m → m < b → LkB E b a m → LkB E b m c → LkB E b a c
theorem LkB.lnk {E : List Pr} {b a c : Int} (h : LkB E b a c) : Lnk E a c := by
  induction h with
  | one m => exact .one m
  | join _ _ _ _ h1 h2 => exact h1.trans h2
theorem LkB.of {E : List Pr} {r : Nat} (inr : ∀ d ∈ E, 0 ≤ d.1 ∧ d.1 < (r : Int)) {a c : Int} (h : Lnk E a c) : LkB E r a c := by
  induction h with
  | one m => exact .one m
  | snoc _ m ih => exact .join (inr _ m).1 (inr _ m).2 ih (.one m)
theorem LkB.up {E : List Pr} {b a c : Int} (h : LkB E b a c) : LkB E (b + 1) a c := by
  induction h with
  | one m => exact .one m
  | join h1 h2 _ _ i1 i2 => exact .join h1 (by omega) i1 i2
theorem LkB.zero {E : List Pr} {a c : Int} : LkB E 0 a c ↔ (a, c) ∈ E := by
  constructor
  · intro h
    cases h with
    | one m => exact m
    | join h1 h2 _ _ => omega
  · exact .one
theorem LkB.next {E : List Pr} {b : Int} (b0 : 0 ≤ b) {a c : Int} : LkB E (b + 1) a c ↔ LkB E b a c ∨ (LkB E b a b ∧ LkB E b b c) := by
  constructor
  · intro h
    induction h with
    | one m => exact .inl (.one m)
    | @join a m c h1 h2 _ _ i1 i2 =>
      by_cases e : m = b
      · subst e
        refine .inr ⟨i1.elim id (·.1), i2.elim id (·.2)⟩
      · have lt : m < b := by omega
        rcases i1 with i1 | ⟨i1, j1⟩
        · rcases i2 with i2 | ⟨i2, j2⟩
          · exact .inl (.join h1 lt i1 i2)
          · exact .inr ⟨.join h1 lt i1 i2, j2⟩
        · rcases i2 with i2 | ⟨i2, j2⟩
          · exact .inr ⟨i1, .join h1 lt j1 i2⟩
          · exact .inr ⟨i1, j2⟩
  · rintro (h | ⟨h, k⟩)
    · exact h.up
    · exact .join b0 (by omega) h.up k.up
/-- the pairs go forward along an order of at most twelve -/
structure Fwd (O : List Int) (E : List Pr) : Prop where
  nd : O.Nodup
  len : O.length ≤ 12
  ok : ∀ d ∈ E, d.1 ∈ O ∧ d.2 ∈ O ∧ O.idxOf d.1 < O.idxOf d.2
theorem Fwd.lnk {O : List Int} {E : List Pr} (h : Fwd O E) {a b : Int} (k : Lnk E a b) : a ∈ O ∧ b ∈ O ∧ O.idxOf a < O.idxOf b := by
  induction k with
  | one m => exact h.ok _ m
  | snoc _ m ih => exact ⟨ih.1, (h.ok _ m).2.1, Nat.lt_trans ih.2.2 (h.ok _ m).2.2⟩
theorem Fwd.len66 {O : List Int} {E M : List Pr} (h : Fwd O E) (nd : M.Nodup) (mM : ∀ d ∈ M, Lnk E d.1 d.2) : M.length ≤ 66 := by
  have e : (M.map fun d : Pr => (((O.idxOf d.1 : Nat) : Int), ((O.idxOf d.2 : Nat) : Int))).length ≤ 66 := by
    refine drs_len' (r := 12) (Nat.le_refl _) ?_ fun d hd => ?_
    · unfold List.Nodup
      rw [List.pairwise_map]
      refine List.Pairwise.imp_of_mem (fun {a b} ma mb ne e => ne ?_) nd
      obtain ⟨e1, e2⟩ := Prod.mk.inj e
      have ha := h.lnk (mM a ma)
      have hb := h.lnk (mM b mb)
      have inj : ∀ x y : Int, x ∈ O → y ∈ O → ((O.idxOf x : Nat) : Int) = ((O.idxOf y : Nat) : Int) → x = y := fun x y hx hy e => by
        have e : O.idxOf x = O.idxOf y := by omega
        have g1 := List.getElem_idxOf (List.idxOf_lt_length_of_mem hx)
        have g2 := List.getElem_idxOf (List.idxOf_lt_length_of_mem hy)
        rw [← g1, ← g2]
        congr 1
      exact Prod.ext (inj _ _ ha.1 hb.1 e1) (inj _ _ ha.2.1 hb.2.1 e2)
    · obtain ⟨c, hc, rfl⟩ := List.mem_map.mp hd
      have := h.lnk (mM c hc)
      have l := List.idxOf_lt_length_of_mem this.2.1
      have := h.len
      show (0 : Int) ≤ ((O.idxOf c.1 : Nat) : Int) ∧ ((O.idxOf c.1 : Nat) : Int) < ((O.idxOf c.2 : Nat) : Int) ∧ ((O.idxOf c.2 : Nat) : Int) < ((12 : Nat) : Int)
      omega
  rwa [List.length_map] at e
theorem Room.u64 {k : Nat} {A : Around} (r : Room k A) : A.units + 64 < cLine := by
  have := r.un
  omega
theorem fm_nd {α β : Type} {f : α → Option β} {l : List α} (nd : l.Nodup) (inj : ∀ a ∈ l, ∀ b ∈ l, ∀ y, f a = some y → f b = some y → a = b) : (l.filterMap f).Nodup := by
  unfold List.Nodup
  rw [List.pairwise_filterMap]
  exact List.Pairwise.imp_of_mem (fun {a b} ma mb ne y hy z hz e => ne (inj a ma b mb y hy (by rw [e]; exact hz))) nd
def frF (M : List Pr) (b : Int) : List Int := M.filterMap fun d => if d.2 = b then some d.1 else none
def toF (M : List Pr) (b : Int) : List Int := M.filterMap fun d => if d.1 = b then some d.2 else none
theorem frF_mem {M : List Pr} {b x : Int} : x ∈ frF M b ↔ (x, b) ∈ M := by
  unfold frF
  rw [List.mem_filterMap]
  constructor
  · rintro ⟨d, hd, h⟩
    split at h
    · rename_i e
      rw [← e, ← Option.some.inj h]
      exact hd
    · cases h
  · intro h
    exact ⟨_, h, if_pos rfl⟩
theorem toF_mem {M : List Pr} {b x : Int} : x ∈ toF M b ↔ (b, x) ∈ M := by
  unfold toF
  rw [List.mem_filterMap]
  constructor
  · rintro ⟨d, hd, h⟩
    split at h
    · rename_i e
      rw [← e, ← Option.some.inj h]
      exact hd
    · cases h
  · intro h
    exact ⟨_, h, if_pos rfl⟩
theorem toF_nd {M : List Pr} {b : Int} (nd : M.Nodup) : (toF M b).Nodup := fm_nd nd fun d _ e _ y h1 h2 => by
  split at h1
  · split at h2
    · rename_i a1 a2
      exact Prod.ext (a1.trans a2.symm) ((Option.some.inj h1).trans (Option.some.inj h2).symm)
    · cases h2
  · cases h1
theorem len_fm {α β : Type} (f : α → Option β) (l : List α) : (l.filterMap f).length ≤ l.length := List.length_filterMap_le f l
section
variable {P : Program} {w : World} {K : PySem.W.Frag} {mg : Str → Option Value} {base : Heap}
theorem scLch : FnScope ["pairs", "rooms", "linked", "b", "firsts", "lasts", "a", "p", "c"] ["pairs", "rooms"] (defScope sLch) := ⟨rfl, rfl, rfl, by decide +kernel, rfl, by decide +kernel, by decide +kernel⟩
def spLch : Sp := fun vs H Q _ => ∃ (l : Addr) (us : List V) (E : List Pr) (r : Nat) (O : List Int), vs = [.ref l, .int r] ∧ H l = some (.lst us) ∧ PL H us E ∧ E.Nodup ∧ r ≤ 12 ∧ (∀ d ∈ E, (0 ≤ d.1 ∧ d.1 < (r : Int)) ∧ 0 ≤ d.2 ∧ d.2 < (r : Int)) ∧ Fwd O E ∧
  ∀ ws S t H', Same H H' → H t = none → H' t = some (.lst ws) → PL H' ws S → Asc S → (∀ d : Pr, d ∈ S ↔ Lnk E d.1 d.2) → Q (.ref t) H'
theorem ok_lch {f : Addr} {fd : FuncData} (F : Fun K "_law_chains" "_law_chains" sLch f fd) (T : Bi mg) : FnOk P w K mg base CX0 1 f fd ["pairs", "rooms"] spLch := by
  refine F.ok scLch (fun vs H Q E h => ?_) (fun cdv A0 outer s H vs Q E hr h => ?_)
  · obtain ⟨l, us, E, r, O, rfl, _⟩ := h
    rfl
  · obtain ⟨l, us, E, r, O, rfl, hl, pl, nd, r12, inr, fwd, ret⟩ := h
    refine ⟨_, (pss_cons (ps_set (i := 2) scLch.nd rfl (Or.inr rfl) (pe_callTy call_list_of (by rfl) T.list (by decide +kernel) (pa_cons (pv 0) pa_nil)))
      (pss_cons (ps_for PassesOwn.never rfl (pi_range1 (by rfl) T.range (pa_cons (pv 1) pa_nil)) (pg_name (i := 3) scLch.nd rfl (Or.inr rfl))
      (pss_cons (ps_setLc (i := 4) (own := [("p", 7)]) (te := (tOp (rIxT K) (tVar 7) (tC (V.int 0)))) (tt := (tTest (tOp (rI0 fun i j => V.bl (decide (i = j))) (tOp (rIxT K) (tVar 7) (tC (V.int 1))) (tVar 3)))) (by rfl) scLch.nd rfl rfl (sw_true rfl rfl rfl (by decide +kernel)) (pi_list (pv 2)) (blkOk_by (N := ["pairs", "rooms", "linked", "b", "firsts", "lasts", "a", "p", "c"]) (sc := defScope sLch) (by decide +kernel)) (fun _ _ _ _ _ => pg_name (i := 7) scLch.nd rfl (Or.inl rfl)) (fun _ _ _ _ _ => (pts_one (pt_cmpR op_eqI (pe_ix ix_tup (pv 7) pe_int (fun _ _ => rfl)) (pv 3) (nomark _)))) (fun _ _ _ _ _ => (pe_ix ix_tup (pv 7) pe_int (fun _ _ => rfl))))
        (pss_cons (ps_setLc (i := 5) (own := [("p", 7)]) (te := (tOp (rIxT K) (tVar 7) (tC (V.int 1)))) (tt := (tTest (tOp (rI0 fun i j => V.bl (decide (i = j))) (tOp (rIxT K) (tVar 7) (tC (V.int 0))) (tVar 3)))) (by rfl) scLch.nd rfl rfl (sw_true rfl rfl rfl (by decide +kernel)) (pi_list (pv 2)) (blkOk_by (N := ["pairs", "rooms", "linked", "b", "firsts", "lasts", "a", "p", "c"]) (sc := defScope sLch) (by decide +kernel)) (fun _ _ _ _ _ => pg_name (i := 7) scLch.nd rfl (Or.inl rfl)) (fun _ _ _ _ _ => (pts_one (pt_cmpR op_eqI (pe_ix ix_tup (pv 7) pe_int (fun _ _ => rfl)) (pv 3) (nomark _)))) (fun _ _ _ _ _ => (pe_ix ix_tup (pv 7) pe_int (fun _ _ => rfl))))
        (pss_one (ps_for PassesOwn.never rfl (pi_list (pv 4)) (pg_name (i := 6) scLch.nd rfl (Or.inr rfl))
        (pss_one (ps_expr (pe_bm PySem.F.plainAttrs_list PySem.F.slot_list_extend PySem.F.type_list_extend mt_extend (pv 2) (pa_cons (pe_lc (own := [("c", 8)]) (tt := tTest (tOp (rNotInD K) (tTup (tCons (tVar 6) (tCons (tVar 8) tNil))) (tVar 2))) (te := tTup (tCons (tVar 6) (tCons (tVar 8) tNil))) (by rfl) scLch.nd (pi_list (pv 5)) (blkOk_by (N := ["pairs", "rooms", "linked", "b", "firsts", "lasts", "a", "p", "c"]) (sc := defScope sLch) (by decide +kernel)) (fun _ _ _ _ _ => pg_name (i := 8) scLch.nd rfl (Or.inl rfl)) (fun _ _ _ _ _ => (pts_one (pt_cmpR (op_notInD (Room.u65 hr)) (pe_tup (pa_cons (pv 6) (pa_cons (pv 8) pa_nil))) (pv 2) (by rfl)))) (fun _ _ _ _ _ => (pe_tup (pa_cons (pv 6) (pa_cons (pv 8) pa_nil))))) pa_nil)))))))))
      (pss_one (ps_ret (pe_callB (cr_psSort rfl) (by rfl) T.sorted (by decide +kernel) (pa_cons (pe_callTy (cr_psOf rfl (Room.u64 hr)) (by rfl) T.set (by decide +kernel) (pa_cons (pv 2) pa_nil)) pa_nil)))))), ?_⟩
    walk_at "rd"
    refine ⟨us, .inl (SqL.of hl), fun lk nlk => ?_⟩
    have s0 := same_upd (o := HO.lst us) nlk
    have hlk0 := upd_same (H := H) (a := lk) (o := HO.lst us)
    generalize upd H lk (HO.lst us) = H0 at s0 hlk0 ⊢
    refine for_iterW ?_
    walk_at "rd"
    obtain ⟨Pv, hPv⟩ : ∃ Pv : Nat → L2.St → Hp → Prop, Pv = (fun (i : Nat) σ H' => ∃ (ws : List V) (M : List Pr) (v3 v4 v5 v6 : Option V), σ = [some (.ref l), some (.int r), some (.ref lk), v3, v4, v5, v6, none, none] ∧ Same H H' ∧ H' lk = some (.lst ws) ∧ PL H' ws M ∧ M.Nodup ∧ ∀ d : Pr, d ∈ M ↔ LkB E (i : Int) d.1 d.2) := ⟨_, rfl⟩
    refine ⟨by omega, by omega, for_range (lo := 0) (n := (r : Int).toNat) Pv (by rw [hPv]; exact ⟨us, E, none, none, none, none, rfl, s0, hlk0, pl.kt (KT.same s0), nd, fun d => LkB.zero.symm⟩) (fun i σ H1 hi pv => ?_) (fun σ H1 pv => ?_)⟩
    · rw [hPv] at pv
      obtain ⟨ws, M, v3, v4, v5, v6, rfl, sm, hlk, pm, ndM, mM⟩ := pv
      have l66 : M.length ≤ 66 := fwd.len66 ndM fun d hd => ((mM d).mp hd).lnk
      rw [Int.zero_add]
      have ul := pm.len
      walk_at "rd"
      refine lcW ?_
      walk_at "rd"
      refine ⟨⟨_, SqL.of hlk⟩, gc_listG (fun _ _ v (k : Int) => v = V.int k) (fun _ _ _ _ _ h _ => h) (fun j => M[j]?.bind fun d => if d.2 = (i : Int) then some d.1 else none) hlk (by omega) (fun Dx j x Hx A B gx sx hD hA hB => ?_) fun fo ys H2 s2 n2 hfo pf => ?_⟩
      · obtain ⟨d, gd, td, rfl, htd⟩ := pget pm gx
        rw [gd, Option.bind_some] at hA hB
        have ht := sx _ _ htd
        simp only [wipe]
        walk_at "rd"
        refine ⟨_, SqT.of ht, _, rfl, d.2, rfl, ?_⟩
        by_cases c : d.2 = (i : Int)
        · rw [if_pos c]
          exact ⟨_, SqT.of ht, _, rfl, hA _ d.1 _ (if_pos c) (Same.refl _) rfl⟩
        · rw [if_neg c]
          exact hB _ (if_neg c) (Same.refl _)
      have ef : ys = (frF M i).map V.int := by
        have := paired_map pf
        rw [ul, fm_range (L := M) (fun d => if d.2 = (i : Int) then some d.1 else none)] at this
        exact this
      subst ef
      refine lcW ?_
      walk_at "rd"
      have hlk2 := s2 _ _ hlk
      have pm2 := pm.kt (KT.same s2)
      refine ⟨⟨_, SqL.of hlk2⟩, gc_listG (fun _ _ v (k : Int) => v = V.int k) (fun _ _ _ _ _ h _ => h) (fun j => M[j]?.bind fun d => if d.1 = (i : Int) then some d.2 else none) hlk2 (by omega) (fun Dx j x Hx A B gx sx hD hA hB => ?_) fun to ys H3 s3 n3 hto pt => ?_⟩
      · obtain ⟨d, gd, td, rfl, htd⟩ := pget pm2 gx
        rw [gd, Option.bind_some] at hA hB
        have ht := sx _ _ htd
        simp only [wipe]
        walk_at "rd"
        refine ⟨_, SqT.of ht, _, rfl, d.1, rfl, ?_⟩
        by_cases c : d.1 = (i : Int)
        · rw [if_pos c]
          exact ⟨_, SqT.of ht, _, rfl, hA _ d.2 _ (if_pos c) (Same.refl _) rfl⟩
        · rw [if_neg c]
          exact hB _ (if_neg c) (Same.refl _)
      have et : ys = (toF M i).map V.int := by
        have := paired_map pt
        rw [ul, fm_range (L := M) (fun d => if d.1 = (i : Int) then some d.2 else none)] at this
        exact this
      subst et
      have hfo3 := s3 _ _ hfo
      have s13 := s2.trans s3
      have flk : fo ≠ lk := fun z => by rw [z, hlk] at n2; cases n2
      have tlk : to ≠ lk := fun z => by rw [z, hlk2] at n3; cases n3
      refine for_iterW ?_
      walk_at "rd"
      obtain ⟨Pw, hPw⟩ : ∃ Pw : Nat → L2.St → Hp → Prop, Pw = (fun (k : Nat) σ H' => ∃ (ws : List V) (M' : List Pr) (v6 : Option V), σ = [some (.ref l), some (.int r), some (.ref lk), some (.int (i : Int)), some (.ref fo), some (.ref to), v6, none, none] ∧ Same H H' ∧ H' lk = some (.lst ws) ∧ H' fo = some (.lst ((frF M i).map V.int)) ∧ H' to = some (.lst ((toF M i).map V.int)) ∧ PL H' ws M' ∧ M'.Nodup ∧ ∀ d : Pr, d ∈ M' ↔ d ∈ M ∨ (d.1 ∈ (frF M i).take k ∧ d.2 ∈ toF M i)) := ⟨_, rfl⟩
      refine ⟨⟨_, SqL.of hfo3⟩, for_list (K := K) (a := fo) (xs := (frF M i).map V.int) Pw (by rw [hPw]; exact ⟨ws, M, _, rfl, sm.trans s13, s13 _ _ hlk, hfo3, hto, pm.kt (KT.same s13), ndM, fun d => by simp⟩) (fun k σ H' _ pv => by rw [hPw] at pv; obtain ⟨_, _, _, _, _, _, h, _⟩ := pv; exact SqL.of h) (fun k v σ H4 gv pv => ?_) (fun σ H4 pv => ?_)⟩
      · rw [hPw] at pv
        obtain ⟨ws', M', v6', rfl, sm', hlk', hfo', hto', pm', ndM', mM'⟩ := pv
        rw [List.getElem?_map] at gv
        obtain ⟨x, gx, rfl⟩ := Option.map_eq_some_iff.mp gv
        have mx : (x, (i : Int)) ∈ M := frF_mem.mp (List.mem_of_getElem? gx)
        have tk : (frF M i).take (k + 1) = (frF M i).take k ++ [x] := by rw [List.take_add_one, gx]; rfl
        have lnk' : ∀ d ∈ M', Lnk E d.1 d.2 := fun d hd => by
          rcases (mM' d).mp hd with h | ⟨h, h2⟩
          · exact ((mM d).mp h).lnk
          · have a1 := frF_mem.mp (List.mem_of_mem_take h)
            have a2 := toF_mem.mp h2
            exact ((mM _).mp a1).lnk.trans ((mM _).mp a2).lnk
        have l66' : M'.length ≤ 66 := fwd.len66 ndM' lnk'
        have toLen : (toF M i).length ≤ 66 := Nat.le_trans (len_fm _ _) l66
        walk_at "rd"
        refine ⟨.inl ⟨rfl, _, SqL.of hlk'⟩, ?_⟩
        refine lcW ?_
        walk_at "rd"
        refine ⟨⟨_, SqL.of hto'⟩, gc_listG (fun Dx H v (d : Pr) => ∃ t, v = V.ref t ∧ t ≠ Dx ∧ H t = some (.tup [.int d.1, .int d.2])) (fun Dx H H' v d h k => by obtain ⟨t, e, ne, h⟩ := h; exact ⟨t, e, ne, k _ _ ne h⟩) (fun j => (toF M i)[j]?.bind fun c => if ((x, c) : Pr) ∈ M' then none else some ((x, c) : Pr)) hto' (by rw [List.length_map]; omega) (fun Dx j v Hx A B gv sx hD hA hB => ?_) fun o ys H5 s5 n5 ho p5 => ?_⟩
        · rw [List.getElem?_map] at gv
          obtain ⟨c, gc, rfl⟩ := Option.map_eq_some_iff.mp gv
          rw [gc, Option.bind_some] at hA hB
          simp only [wipe]
          walk_at "rd"
          refine ⟨by decide, fun q nq => ?_⟩
          have sq := same_upd (o := HO.tup [V.int x, V.int c]) nq
          refine ⟨_, M'.map pdP, dp_pair (d := (x, c)) ⟨q, rfl, upd_same⟩, .lst (SqL.of (sq _ _ (sx _ _ hlk'))) (dp_all ((pm'.kt (KT.same sx)).kt (KT.same sq))), rfl, shaped_list _, ?_⟩
          rw [any_eqv]
          refine ⟨_, rfl, ?_⟩
          by_cases cm : ((x, c) : Pr) ∈ M'
          · rw [decide_eq_true cm, if_neg (by decide)]
            exact hB _ (if_pos cm) sq
          · rw [decide_eq_false cm, if_pos (by rfl)]
            refine ⟨by decide, fun q2 nq2 => hA _ (x, c) _ (if_neg cm) (sq.trans (same_upd nq2)) ⟨q2, rfl, fun z => ?_, upd_same⟩⟩
            obtain ⟨od, hod⟩ := hD
            have := sq _ _ hod
            rw [← z, nq2] at this
            cases this
        · rw [List.length_map, fm_range (L := toF M i) (fun c => if ((x, c) : Pr) ∈ M' then none else some ((x, c) : Pr))] at p5
          have py : PL H5 ys ((toF M i).filterMap fun c => if ((x, c) : Pr) ∈ M' then none else some ((x, c) : Pr)) := Paired.mapP p5 fun v d h => by obtain ⟨t, e, _, h⟩ := h; exact ⟨t, e, h⟩
          have memN : ∀ d : Pr, d ∈ ((toF M i).filterMap fun c => if ((x, c) : Pr) ∈ M' then none else some ((x, c) : Pr)) ↔ d ∉ M' ∧ d.1 = x ∧ d.2 ∈ toF M i := fun d => by
            rw [List.mem_filterMap]
            constructor
            · rintro ⟨c, hc, h⟩
              split at h
              · cases h
              · rename_i nm
                obtain rfl := Option.some.inj h
                exact ⟨nm, rfl, hc⟩
            · rintro ⟨nm, e, hc⟩
              have e2 : ((x, d.2) : Pr) = d := Prod.ext e.symm rfl
              exact ⟨d.2, hc, by rw [e2]; exact if_neg nm⟩
          have ndN : ((toF M i).filterMap fun c => if ((x, c) : Pr) ∈ M' then none else some ((x, c) : Pr)).Nodup := fm_nd (toF_nd ndM) fun a _ b _ y h1 h2 => by
            split at h1
            · cases h1
            · split at h2
              · cases h2
              · have e := (Option.some.inj h1).trans (Option.some.inj h2).symm
                exact (Prod.mk.inj e).2
          have lenN := len_fm (fun c => if ((x, c) : Pr) ∈ M' then none else some ((x, c) : Pr)) (toF M i)
          generalize ((toF M i).filterMap fun c => if ((x, c) : Pr) ∈ M' then none else some ((x, c) : Pr)) = N at py memN ndN lenN
          have hlk5 := s5 _ _ hlk'
          have pm5 := pm'.kt (KT.same s5)
          refine ⟨o, rfl, _, hlk5, _, ho, Nat.le_of_lt (len_big (by rw [pm5.len, py.len]; omega)), ?_⟩
          have kt : KT H5 (upd H5 lk (HO.lst (ws' ++ ys))) := KT.lst hlk5
          rw [hPw]
          refine ⟨_, M' ++ N, _, rfl, same_ch (sm'.trans s5) nlk, upd_same, by rw [upd_ne flk]; exact s5 _ _ hfo', by rw [upd_ne tlk]; exact s5 _ _ hto', ?_, ?_, fun d => ?_⟩
          · exact paired_append (pm5.kt kt) (py.kt kt)
          · rw [List.nodup_append]
            exact ⟨ndM', ndN, fun a ha b hb e => ((memN b).mp hb).1 (by rw [← e]; exact ha)⟩
          · rw [List.mem_append, memN, tk, List.mem_append, List.mem_singleton]
            constructor
            · rintro (h | ⟨_, h, h2⟩)
              · rcases (mM' d).mp h with h | ⟨h, h2⟩
                · exact .inl h
                · exact .inr ⟨.inl h, h2⟩
              · exact .inr ⟨.inr h, h2⟩
            · intro h
              by_cases c : d ∈ M'
              · exact .inl c
              · rcases h with h | ⟨h | h, h2⟩
                · exact absurd ((mM' d).mpr (.inl h)) c
                · exact absurd ((mM' d).mpr (.inr ⟨h, h2⟩)) c
                · exact .inr ⟨c, h, h2⟩
      · rw [hPw] at pv
        obtain ⟨ws', M', v6', rfl, sm', hlk', hfo', hto', pm', ndM', mM'⟩ := pv
        rw [List.length_map, List.take_length] at mM'
        show Pv (i + 1) _ H4
        rw [hPv]
        refine ⟨ws', M', _, _, _, _, rfl, sm', hlk', pm', ndM', fun d => ?_⟩
        rw [mM' d, show (((i + 1 : Nat) : Int)) = (i : Int) + 1 by omega, LkB.next (by omega), mM d, frF_mem, toF_mem, mM, mM]
    · rw [hPv] at pv
      obtain ⟨ws, M, v3, v4, v5, v6, rfl, sm, hlk, pm, ndM, mM⟩ := pv
      rw [Int.toNat_natCast] at mM
      have mM2 : ∀ d : Pr, d ∈ M ↔ Lnk E d.1 d.2 := fun d => (mM d).trans ⟨LkB.lnk, LkB.of fun d hd => (inr d hd).1⟩
      have l66 : M.length ≤ 66 := fwd.len66 ndM fun d hd => (mM2 d).mp hd
      walk_at "rd"
      refine ⟨lk, ws, M, rfl, SqL.of hlk, pm, by omega, fun a L na at1 all len => ?_⟩
      have sa := same_upd (o := PsO P w a L) na
      refine ⟨a, L, rfl, upd_same, fun q hq => ?_, fun q hq => ?_, by omega, fun L' p pmL ndL pw np => ?_⟩
      · obtain ⟨d, _, e, ht⟩ := at1 q hq
        rw [e]
        exact SqT.of (sa _ _ ht)
      · obtain ⟨d, _, e, _⟩ := at1 q hq
        exact ⟨_, _, e⟩
      · have sp := same_upd (o := HO.lst (L'.map fun q => V.ref q.1)) np
        have at2 : ∀ q ∈ L', ∃ d ∈ M, q.2 = [d.1, d.2] ∧ H1 q.1 = some (.tup [V.int d.1, V.int d.2]) := fun q hq => at1 q (pmL.mem_iff.mp hq)
        refine ret _ (L'.map fun q => pr2 q.2) p _ (sm.trans (sa.trans sp)) (sm_none (sm.trans sa) np) upd_same ?_ ?_ fun d => ?_
        · have go : ∀ Z : List (Addr × List Int), (∀ q ∈ Z, ∃ d ∈ M, q.2 = [d.1, d.2] ∧ H1 q.1 = some (.tup [V.int d.1, V.int d.2])) → PL (upd (upd H1 a (PsO P w a L)) p (HO.lst (L'.map fun q => V.ref q.1))) (Z.map fun q => V.ref q.1) (Z.map fun q => pr2 q.2) := fun Z => by
            induction Z with
            | nil => intro _; exact .nil
            | cons q Z ih =>
              intro h
              obtain ⟨d, _, e, ht⟩ := h q List.mem_cons_self
              refine .cons ⟨q.1, rfl, ?_⟩ (ih fun q hq => h q (List.mem_cons_of_mem _ hq))
              show _ = some (HO.tup [V.int (pr2 q.2).1, V.int (pr2 q.2).2])
              rw [e]
              exact (sa.trans sp) _ _ ht
          exact go L' at2
        · unfold Asc
          rw [List.pairwise_map]
          unfold List.Nodup at ndL
          rw [List.pairwise_map] at ndL
          refine List.Pairwise.imp_of_mem (fun {q q'} mq mq' h => ?_) (ndL.and pw)
          obtain ⟨d, _, e, _⟩ := at2 q mq
          obtain ⟨d', _, e', _⟩ := at2 q' mq'
          obtain ⟨ne, nl⟩ := h
          rw [e, e'] at ne nl ⊢
          show lt2 (d.1, d.2) (d'.1, d'.2)
          have nl : ¬ lt2 (d'.1, d'.2) (d.1, d.2) := nl
          unfold lt2 at nl ⊢
          simp only at nl ⊢
          by_cases c1 : d.1 = d'.1
          · by_cases c2 : d.2 = d'.2
            · exact absurd (by rw [c1, c2]) ne
            · omega
          · omega
        · rw [List.mem_map, ← mM2 d]
          constructor
          · rintro ⟨q, hq, rfl⟩
            obtain ⟨d', hd', e, _⟩ := at2 q hq
            rw [e]
            exact hd'
          · intro hd
            obtain ⟨q, hq, e⟩ := List.mem_map.mp (all d hd)
            exact ⟨q, pmL.mem_iff.mpr hq, by rw [e]; rfl⟩
end

/-! ### a pair stands in every order that keeps the form exactly if forced pairs lead along it -/
theorem sub_idx {O : List Int} (nd : O.Nodup) {a b : Int} (h : [a, b].Sublist O) : O.idxOf a < O.idxOf b := by
  obtain ⟨r1, r2, rfl, ha, h2⟩ := List.cons_sublist_iff.mp h
  have hb : b ∈ r2 := List.singleton_sublist.mp h2
  have nb : b ∉ r1 := fun z => (List.nodup_append.mp nd).2.2 b z b hb rfl
  rw [List.idxOf_append, List.idxOf_append, if_pos ha, if_neg nb]
  have := List.idxOf_lt_length_of_mem ha
  omega
theorem idx_sub {O : List Int} {a b : Int} (hb : b ∈ O) (h : O.idxOf a < O.idxOf b) : [a, b].Sublist O := by
  have lb := List.idxOf_lt_length_of_mem hb
  have e : O = O.take (O.idxOf b) ++ O.drop (O.idxOf b) := (List.take_append_drop _ _).symm
  have g1 : O[O.idxOf a]? = some a := by rw [List.getElem?_eq_getElem (by omega), List.getElem_idxOf (by omega)]
  have m1 : a ∈ O.take (O.idxOf b) := List.mem_of_getElem? (i := O.idxOf a) (by rw [List.getElem?_take_of_lt h]; exact g1)
  have m2 : b ∈ O.drop (O.idxOf b) := List.mem_of_getElem? (i := 0) (by rw [List.getElem?_drop, Nat.add_zero, List.getElem?_eq_getElem lb, List.getElem_idxOf lb])
  rw [e]
  exact (List.singleton_sublist.mpr m1).append (List.singleton_sublist.mpr m2)
theorem obB_iff {O : List Int} {E : List Pr} : obB O E = true ↔ ∀ p ∈ E, O.idxOf p.1 < O.idxOf p.2 := by
  unfold obB
  rw [List.all_eq_true]
  exact ⟨fun h p hp => of_decide_eq_true (h p hp), fun h p hp => decide_eq_true (h p hp)⟩
theorem ob_lnk {O : List Int} {E : List Pr} (h : obB O E = true) {a b : Int} (k : Lnk E a b) : O.idxOf a < O.idxOf b := by
  have h := obB_iff.mp h
  induction k with
  | one m => exact h _ m
  | snoc _ m ih => exact Nat.lt_trans ih (h _ m)
/-- an order that keeps the pairs and holds b before a, unless they lead from a to b -/
theorem turn_order {O : List Int} {E : List Pr} (fw : Fwd O E) {a b : Int} (ha : a ∈ O) (hb : b ∈ O) (ne : a ≠ b) (no : ¬ Lnk E a b) : ∃ O', O'.Perm O ∧ obB O' E = true ∧ O'.idxOf b < O'.idxOf a := by
  classical
  obtain ⟨S, hS⟩ : ∃ S : Int → Bool, S = fun x => decide (x = b ∨ Lnk E x b) := ⟨_, rfl⟩
  have hS : ∀ x, S x = true ↔ x = b ∨ Lnk E x b := fun x => by rw [hS]; exact decide_eq_true_iff
  have pm : (O.filter S ++ O.filter fun x => !S x).Perm O := List.filter_append_perm S O
  have nd := pm.nodup_iff.mpr fw.nd
  refine ⟨_, pm, obB_iff.mpr fun p hp => sub_idx nd ?_, sub_idx nd ?_⟩
  · obtain ⟨h1, h2, lt⟩ := fw.ok p hp
    have s2 := idx_sub h2 lt
    by_cases c2 : S p.2 = true
    · have c1 : S p.1 = true := (hS _).mpr (.inr (by
        rcases (hS _).mp c2 with e | e
        · rw [← e]; exact .one hp
        · exact (Lnk.one hp).trans e))
      have := s2.filter S
      rw [List.filter_cons_of_pos c1, List.filter_cons_of_pos c2, List.filter_nil] at this
      exact this.trans (List.sublist_append_left _ _)
    · have m2 : p.2 ∈ O.filter fun x => !S x := List.mem_filter.mpr ⟨h2, by simp [c2]⟩
      by_cases c1 : S p.1 = true
      · exact (List.singleton_sublist.mpr (List.mem_filter.mpr ⟨h1, c1⟩)).append (List.singleton_sublist.mpr m2)
      · have := s2.filter fun x => !S x
        rw [List.filter_cons_of_pos (by simp [c1]), List.filter_cons_of_pos (by simp [c2]), List.filter_nil] at this
        exact this.trans (List.sublist_append_right _ _)
  · have nS : ¬ S a = true := fun z => by
      rcases (hS _).mp z with e | e
      · exact ne e
      · exact no e
    exact (List.singleton_sublist.mpr (List.mem_filter.mpr ⟨hb, (hS b).mpr (.inl rfl)⟩)).append (List.singleton_sublist.mpr (List.mem_filter.mpr ⟨ha, by simp [nS]⟩))
theorem always_iff {O : List Int} {E : List Pr} (fw : Fwd O E) {a b : Int} (ha : a ∈ O) (hb : b ∈ O) (ne : a ≠ b) : (∀ O', O'.Perm O → obB O' E = true → O'.idxOf a ≤ O'.idxOf b) ↔ Lnk E a b := by
  constructor
  · intro h
    by_cases c : Lnk E a b
    · exact c
    · obtain ⟨O', pm, ob, lt⟩ := turn_order fw ha hb ne c
      have := h O' pm ob
      omega
  · intro k O' _ ob
    exact Nat.le_of_lt (ob_lnk ob k)

/-! ### _law_orders, with every order -/
abbrev sLor : Stmt := topS 34
/-- v is a tuple of these ints -/
def IsO (H : Hp) (v : V) (O : List Int) : Prop := ∃ t, v = .ref t ∧ TF H t (O.map V.int)
theorem IsO.same {H H' : Hp} {v : V} {O : List Int} (h : IsO H v O) (s : Same H H') : IsO H' v O := by
  obtain ⟨t, e, h⟩ := h
  exact ⟨t, e, h.same s⟩
theorem isos_same {H H' : Hp} (s : Same H H') {ws : List V} {Os : List (List Int)} (h : Paired (IsO H) ws Os) : Paired (IsO H') ws Os := Paired.mapP h fun _ _ q => q.same s
def fc : Nat → Nat
  | 0 => 1
  | n + 1 => (n + 1) * fc n
theorem fc_pos : ∀ n, 1 ≤ fc n
  | 0 => Nat.le_refl _
  | n + 1 => Nat.mul_pos (Nat.succ_pos _) (fc_pos n)
theorem fc_mono : ∀ {m n : Nat}, m ≤ n → fc m ≤ fc n := fun {m n} h => by
  induction n with
  | zero => rw [Nat.le_zero.mp h]; exact Nat.le_refl _
  | succ n ih =>
    rcases Nat.lt_or_ge m (n + 1) with c | c
    · exact Nat.le_trans (ih (by omega)) (Nat.le_mul_of_pos_left _ (Nat.succ_pos _))
    · rw [show m = n + 1 by omega]; exact Nat.le_refl _
theorem perm_out {R U : List Int} {z : Int} (nd : R.Nodup) (zm : z ∈ R) (p : U.Perm (R.filter fun y => decide (y ≠ z))) : (z :: U).Perm R := by
  have ndU : U.Nodup := p.nodup_iff.mpr (nd.filter _)
  refine (List.perm_ext_iff_of_nodup (List.nodup_cons.mpr ⟨fun h => ?_, ndU⟩) nd).mpr fun x => ?_
  · have := (List.mem_filter.mp (p.mem_iff.mp h)).2
    simp at this
  · rw [List.mem_cons, p.mem_iff, List.mem_filter]
    by_cases c : x = z
    · subst c
      exact ⟨fun _ => zm, fun _ => .inl rfl⟩
    · simp [c]
theorem perm_in {R U : List Int} {z : Int} (nd : R.Nodup) (p : (z :: U).Perm R) : U.Perm (R.filter fun y => decide (y ≠ z)) := by
  have nd2 := List.nodup_cons.mp (p.nodup_iff.mpr nd)
  refine (List.perm_ext_iff_of_nodup nd2.2 (nd.filter _)).mpr fun x => ?_
  rw [List.mem_filter, ← p.mem_iff, List.mem_cons, decide_eq_true_iff]
  constructor
  · intro h
    exact ⟨.inr h, fun e => nd2.1 (by rw [← e]; exact h)⟩
  · rintro ⟨h | h, ne⟩
    · exact absurd h ne
    · exact h
section
variable {P : Program} {w : World} {K : PySem.W.Frag} {mg : Str → Option Value} {base : Heap}
theorem scLor : FnScope ["rooms", "found", "room", "rest", "r"] ["rooms"] (defScope sLor) := ⟨rfl, rfl, rfl, by decide +kernel, rfl, by decide +kernel, by decide +kernel⟩
def spLorC (n : Nat) : Sp := fun vs H Q _ => ∃ (l : Addr) (R : List Int), vs = [.ref l] ∧ H l = some (.lst (R.map V.int)) ∧ R.Nodup ∧ R.length ≤ n ∧ n ≤ 6 ∧
  ∀ ws Os t H', Same H H' → H t = none → H' t = some (.lst ws) → Paired (IsO H') ws Os → Os ≠ [] → (∀ O ∈ Os, O.Perm R) → (∀ O, O.Perm R → O ∈ Os) → Os.length ≤ fc n → Q (.ref t) H'
theorem ok_lorC {f : Addr} {fd : FuncData} (F : Fun K "_law_orders" "_law_orders" sLor f fd) (T : Bi mg) (bd : Binds K fd ["rooms"] []) (hmg : mg "_law_orders" = some (.ref f)) : ∀ n, FnOk P w K mg base CX0 (n + 1) f fd ["rooms"] (spLorC n) := by
  intro n
  induction n with
  | zero =>
    refine F.ok scLor (fun vs H Q E h => ?_) (fun cdv A0 outer s H vs Q E hr h => ?_)
    · obtain ⟨l, R, rfl, _⟩ := h
      rfl
    · obtain ⟨l, R, rfl, hl, nd, rl, n6, ret⟩ := h
      refine ⟨_, (pss_cons (ps_if (pt_cmpR op_eqI (pe_callB call_len_seq (by rfl) T.len (by decide +kernel) (pa_cons (pv 0) pa_nil)) pe_int (nomark _))
      (pss_one (ps_ret (pe_lst (pa_cons (pe_tupF pa_nil) pa_nil))))
      pss_nil)
      (pss_cons (ps_set (i := 1) scLor.nd rfl (Or.inl rfl) (pe_lst pa_nil))
      (pss_cons (ps_never)
      (pss_one (ps_ret (pv 1)))))), ?_⟩
      walk_at "rd"
      have eR : R = [] := List.length_eq_zero_iff.mp (Nat.le_zero.mp rl)
      subst eR
      refine ⟨_, .inl (SqL.of hl), ?_⟩
      rw [if_pos (by simp)]
      unfold tTupF
      walk_at "rd"
      refine ⟨by decide, fun p0 o0 n0 d0 => ⟨by decide, fun t1 n1 => ?_⟩⟩
      have s0 := same_upd (o := HO.frz o0 (.tup [])) n0
      have s1 := s0.trans (same_upd (o := HO.lst [V.ref p0]) n1)
      refine ret _ [[]] t1 _ s1 (sm_none s0 n1) upd_same (.cons ⟨p0, rfl, ?_⟩ .nil) (by simp) (fun O hO => by rw [List.mem_singleton.mp hO]) (fun O hO => by rw [List.perm_nil.mp hO]; exact List.mem_singleton.mpr rfl) (by simp [fc])
      exact (TF.new d0).same (same_upd n1)
  | succ n ih =>
    refine F.ok scLor (fun vs H Q E h => ?_) (fun cdv A0 outer s H vs Q E hr h => ?_)
    · obtain ⟨l, R, rfl, _⟩ := h
      rfl
    · obtain ⟨l, R, rfl, hl, nd, rl, n6, ret⟩ := h
      refine ⟨_, (pss_cons (ps_if (pt_cmpR op_eqI (pe_callB call_len_seq (by rfl) T.len (by decide +kernel) (pa_cons (pv 0) pa_nil)) pe_int (nomark _))
      (pss_one (ps_ret (pe_lst (pa_cons (pe_tupF pa_nil) pa_nil))))
      pss_nil)
      (pss_cons (ps_set (i := 1) scLor.nd rfl (Or.inl rfl) (pe_lst pa_nil))
      (pss_cons (ps_for PassesOwn.never rfl (pi_list (pv 0)) (pg_name (i := 2) scLor.nd rfl (Or.inr rfl))
      (pss_one (ps_for PassesOwn.never rfl (pi_list (pe_call ih hr (by rfl) hmg F.kp bd .nil pass0 (pa_cons (pe_lc (own := [("r", 4)]) (by rfl) scLor.nd (pi_list (pv 0)) (blkOk_by (N := ["rooms", "found", "room", "rest", "r"]) (sc := defScope sLor) (by decide +kernel)) (fun _ _ _ _ _ => pg_name (i := 4) scLor.nd rfl (Or.inl rfl)) (fun _ _ _ _ _ => (pts_one (pt_cmpR op_neI (pv 4) (pv 2) (nomark _)))) (fun _ _ _ _ _ => (pv 4))) pa_nil))) (pg_name (i := 3) scLor.nd rfl (Or.inl rfl))
        (pss_one (ps_expr (pe_bm PySem.F.plainAttrs_list PySem.F.slot_list_append PySem.F.type_list_append mt_append (pv 1) (pa_cons (pe_op op_catF (pe_tupF (pa_cons (pv 2) pa_nil)) (pv 3)) pa_nil)))))))
      (pss_one (ps_ret (pv 1)))))), ?_⟩
      walk_at "rd"
      refine ⟨_, .inl (SqL.of hl), ?_⟩
      by_cases e0 : R = []
      · subst e0
        rw [if_pos (by simp)]
        unfold tTupF
        walk_at "rd"
        refine ⟨by decide, fun p0 o0 n0 d0 => ⟨by decide, fun t1 n1 => ?_⟩⟩
        have s0 := same_upd (o := HO.frz o0 (.tup [])) n0
        have s1 := s0.trans (same_upd (o := HO.lst [V.ref p0]) n1)
        refine ret _ [[]] t1 _ s1 (sm_none s0 n1) upd_same (.cons ⟨p0, rfl, ?_⟩ .nil) (by simp) (fun O hO => by rw [List.mem_singleton.mp hO]) (fun O hO => by rw [List.perm_nil.mp hO]; exact List.mem_singleton.mpr rfl) (fc_pos (n + 1))
        exact (TF.new d0).same (same_upd n1)
      · rw [if_neg (by rw [List.length_map]; intro z; exact e0 (List.length_eq_zero_iff.mp (by omega)))]
        refine ⟨by decide, fun c nc => ?_⟩
        have hc0 := upd_same (H := H) (a := c) (o := HO.lst [])
        have sc0 := same_upd (o := HO.lst []) nc
        refine for_iterW ?_
        walk_at "rd"
        obtain ⟨Pv, hPv⟩ : ∃ Pv : Nat → L2.St → Hp → Prop, Pv = (fun (i : Nat) σ H' => ∃ (v2 v3 : Option V) (ws : List V) (Os : List (List Int)), σ = [some (.ref l), some (.ref c), v2, v3, none] ∧ Same H H' ∧ H' c = some (.lst ws) ∧ Paired (IsO H') ws Os ∧ (1 ≤ i → Os ≠ []) ∧ (∀ O ∈ Os, O.Perm R) ∧ Os.length ≤ i * fc n ∧ ∀ z U, z ∈ R.take i → (z :: U).Perm R → z :: U ∈ Os) := ⟨_, rfl⟩
        refine ⟨⟨_, SqL.of (sc0 _ _ hl)⟩, for_list (xs := R.map V.int) Pv (by rw [hPv]; exact ⟨none, none, [], [], rfl, sc0, hc0, .nil, (fun z => absurd z (by decide)), (fun O hO => nomatch hO), Nat.zero_le _, fun z U h => by cases h⟩) (fun i σ H' _ pv => by rw [hPv] at pv; obtain ⟨_, _, _, _, _, sm, _⟩ := pv; exact SqL.of (sm _ _ hl)) (fun i x σ H' gx pv => ?_) (fun σ H' pv => ?_)⟩
        · rw [hPv] at pv
          obtain ⟨v2, v3, ws, Os, rfl, sm, hc, po, ne, pm, ol, full⟩ := pv
          obtain ⟨z, gz, rfl⟩ : ∃ z, R[i]? = some z ∧ V.int z = x := by
            rw [List.getElem?_map] at gx
            cases e : R[i]? with
            | none => rw [e] at gx; cases gx
            | some z => rw [e] at gx; exact ⟨z, rfl, Option.some.inj gx⟩
          walk_at "rd"
          refine for_iterW ?_
          walk_at "rd"
          refine lcW ?_
          walk_at "rd"
          have zm : z ∈ R := List.mem_of_getElem? gz
          refine ⟨⟨_, SqL.of (sm _ _ hl)⟩, lc_filtL (p := fun y => decide (y ≠ z)) (sm _ _ hl) (by omega) (by simp) (fun y Hy B ym sy hB => ?_) fun q2 H2 s2 n2 h2 => ?_⟩
          · walk_at "rd"
            by_cases cy : y = z
            · subst cy
              simpa using hB
            · simpa [cy] using hB
          have rl2 : (R.filter fun y => decide (y ≠ z)).length ≤ n := by
            have := filter_lt (p := fun y => decide (y ≠ z)) zm (by simp)
            omega
          refine ⟨q2, _, rfl, h2, nd.filter _, rl2, by omega, fun vs Us u H3 s3 n3 h3 pu une upm uall ulen => ?_⟩
          have s23 := s2.trans s3
          have sm3 := sm.trans s23
          have hc3 := s23 _ _ hc
          have po3 := isos_same s23 po
          have ul : vs.length = Us.length := pu.length
          have b720 : fc n ≤ 720 := fc_mono (show n ≤ 6 by omega)
          have il : i < R.length := (List.getElem?_eq_some_iff.mp gz).1
          have wl : ws.length = Os.length := po.length
          have b1 : i * fc n ≤ 6 * 720 := Nat.mul_le_mul (by omega) b720
          obtain ⟨Pw, hPw⟩ : ∃ Pw : Nat → L2.St → Hp → Prop, Pw = (fun (k : Nat) σ H' => ∃ (v3 : Option V) (xs : List V) (Xs : List (List Int)), σ = [some (.ref l), some (.ref c), some (.int z), v3, none] ∧ Same H H' ∧ H' u = some (.lst vs) ∧ Paired (IsO H') vs Us ∧ H' c = some (.lst xs) ∧ Paired (IsO H') xs Xs ∧ (∀ O ∈ Xs, O.Perm R) ∧ Xs.length = Os.length + k ∧ (∀ O ∈ Os, O ∈ Xs) ∧ ∀ U ∈ Us.take k, z :: U ∈ Xs) := ⟨_, rfl⟩
          have ncu : c ≠ u := ne_of_none (s2 _ _ hc) n3
          refine ⟨u, rfl, ⟨_, SqL.of h3⟩, for_list (xs := vs) Pw (by rw [hPw]; exact ⟨v3, ws, Os, rfl, sm3, h3, pu, hc3, po3, pm, rfl, fun O h => h, fun U h => by cases h⟩) (fun k σ H' _ pw => by rw [hPw] at pw; obtain ⟨_, _, _, _, _, hu, _⟩ := pw; exact SqL.of hu) (fun k y σ H' gy pw => ?_) (fun σ H' pw => ?_)⟩
          · rw [hPw] at pw
            obtain ⟨v3', xs, Xs, rfl, sm4, hu4, pu4, hc4, px4, pmx, xl, keepO, newO⟩ := pw
            obtain ⟨U, gU, tu, rfl, hU⟩ := pget pu4 gy
            have kl : k < vs.length := (List.getElem?_eq_some_iff.mp gy).1
            walk_at "rd"
            refine ⟨.inl ⟨rfl, _, SqL.of hc4⟩, ?_⟩
            unfold tTupF
            walk_at "rd"
            refine ⟨by decide, fun p0 o0 n0 d0 => ?_⟩
            have t0 := same_upd (o := HO.frz o0 (.tup [V.int z])) n0
            have h0 : TF (upd H' p0 (.frz o0 (.tup [V.int z]))) p0 [V.int z] := TF.new d0
            have ncp : c ≠ p0 := ne_of_none hc4 n0
            generalize upd H' p0 (.frz o0 (.tup [V.int z])) = H4 at t0 h0 ⊢
            have hU4 := hU.same t0
            have xl2 : xs.length = Xs.length := px4.length
            have pmU := upm U (List.mem_of_getElem? gU)
            have ulen2 := pmU.length_eq
            have done : ∀ (H5 : Hp) (q5 : Addr), Same H4 H5 → TF H5 q5 ((z :: U).map V.int) → ∃ x_1, H5 c = some (HO.lst x_1) ∧ x_1.length < sizeLine ∧ Pw (k + 1) [some (V.ref l), some (V.ref c), some (V.int z), some (V.ref tu), none] (upd H5 c (HO.lst (x_1 ++ [V.ref q5]))) := fun H5 q5 s5 h5 => by
              have s05 := t0.trans s5
              have hc5 := s05 _ _ hc4
              refine ⟨xs, hc5, len_big (by omega), ?_⟩
              rw [hPw]
              have nq : q5 ≠ c := fun e => by
                obtain ⟨ob, _, e2⟩ := h5
                rw [e, hc5] at e2
                cases e2
              have smc := sm4.trans s05
              have chg : ∀ {v : V} {O : List Int}, IsO H5 v O → IsO (upd H5 c (HO.lst (xs ++ [V.ref q5]))) v O := fun {v O} h => by
                obtain ⟨t, e, ob, d, e2⟩ := h
                refine ⟨t, e, ob, d, ?_⟩
                rw [upd_ne (fun e3 => by rw [e3, hc5] at e2; cases e2)]
                exact e2
              refine ⟨_, xs ++ [V.ref q5], Xs ++ [z :: U], rfl, same_ch smc nc, ?_, ?_, upd_same, ?_, ?_, ?_, fun O h => List.mem_append_left _ (keepO O h), fun U' h => ?_⟩
              · rw [upd_ne (fun e => ncu e.symm)]
                exact s05 _ _ hu4
              · exact Paired.mapP (isos_same s05 pu4) fun _ _ h => chg h
              · exact Paired.snoc (Paired.mapP (isos_same s05 px4) fun _ _ h => chg h) (chg ⟨q5, rfl, h5⟩)
              · intro O hO
                rcases List.mem_append.mp hO with e | e
                · exact pmx O e
                · rw [List.mem_singleton.mp e]
                  exact perm_out nd zm pmU
              · rw [List.length_append, xl]
                rfl
              · rw [List.take_add_one, gU] at h
                rcases List.mem_append.mp h with h | h
                · exact List.mem_append_left _ (newO U' h)
                · rw [List.mem_singleton.mp (show U' ∈ [U] from h)]
                  exact List.mem_append_right _ (List.mem_singleton.mpr rfl)
            refine ⟨p0, tu, _, _, rfl, rfl, h0.sq, hU4.sq, (by rw [List.length_map]; exact Nat.le_of_lt (len_big (by simp; omega))), (fun e => by cases e), fun _ e => ?_, fun _ _ q5 o5 n5 d5 => ?_⟩
            · have eU : U = [] := List.map_eq_nil_iff.mp e
              subst eU
              exact done _ _ (fun _ _ e => e) h0
            · exact done _ _ (same_upd n5) (TF.new d5)
          · rw [hPw] at pw
            obtain ⟨v3', xs, Xs, rfl, sm4, hu4, pu4, hc4, px4, pmx, xl, keepO, newO⟩ := pw
            rw [hPv]
            refine ⟨_, _, xs, Xs, rfl, sm4, hc4, px4, fun _ z => ?_, pmx, ?_, fun z' U hz pU => ?_⟩
            · rw [z] at xl
              have := List.length_pos_iff.mpr une
              simp at xl
              omega
            · rw [Nat.add_mul, Nat.one_mul]
              omega
            · rw [List.take_add_one, gz] at hz
              rcases List.mem_append.mp hz with h | h
              · exact keepO _ (full z' U h pU)
              · have ez : z' = z := List.mem_singleton.mp (show z' ∈ [z] from h)
                subst ez
                rw [ul, List.take_length] at newO
                exact newO U (uall U (perm_in nd pU))
        · rw [hPv] at pv
          obtain ⟨v2, v3, ws, Os, rfl, sm, hc, po, ne, pm, ol, full⟩ := pv
          walk_at "rd"
          rw [List.length_map] at ne ol
          refine ret ws Os c _ sm nc hc po (ne (List.length_pos_iff.mpr e0)) pm (fun O hO => ?_) (Nat.le_trans ol ?_)
          · cases O with
            | nil => exact absurd (List.nil_perm.mp hO) e0
            | cons z U =>
              refine full z U ?_ hO
              rw [List.length_map, List.take_length]
              exact hO.mem_iff.mp List.mem_cons_self
          · exact Nat.mul_le_mul_right _ rl
end

/-! ### _law_order_log, _law_same_words, _law_never_after -/
abbrev sOlg : Stmt := topS 40
abbrev sLsw : Stmt := topS 42
abbrev sLna : Stmt := topS 43
section
variable {P : Program} {w : World} {K : PySem.W.Frag} {mg : Str → Option Value} {base : Heap}
theorem scOlg : FnScope ["words", "order", "room"] ["words", "order"] (defScope sOlg) := ⟨rfl, rfl, rfl, by decide +kernel, rfl, by decide +kernel, by decide +kernel⟩
def spOlg : Sp := fun vs H Q _ => ∃ (c o : Addr) (r : Nat) (L : List Cl) (O : List Int), vs = [.ref c, .ref o] ∧ H c = some (.lst ((rg r).map fun x => optS (wordP L [x]))) ∧ TF H o (O.map V.int) ∧ O.length ≤ 60 ∧ (∀ x ∈ O, x ∈ cldF r L) ∧
  ∀ g gs H', Same H H' → H g = none → H' g = some (.lst gs) → LG H' gs (ordL L O) → Q (.ref g) H'
theorem ok_olg {f : Addr} {fd : FuncData} (F : Fun K "_law_order_log" "_law_order_log" sOlg f fd) (T : Bi mg) : FnOk P w K mg base CX0 1 f fd ["words", "order"] spOlg := by
  refine F.ok scOlg (fun vs H Q E h => ?_) (fun cdv A0 outer s H vs Q E hr h => ?_)
  · obtain ⟨c, o, r, L, O, rfl, _⟩ := h
    rfl
  · obtain ⟨c, o, r, L, O, rfl, hc, ho, ol, inO, ret⟩ := h
    refine ⟨_, (pss_one (ps_ret (pe_lc (own := [("room", 2)]) (te := tTup (tCons (tVar 2) (tCons (tOp (rIxL K) (tVar 0) (tVar 2)) tNil))) (by rfl) scOlg.nd (pi_tup (pv 1)) (blkOk_by (N := ["words", "order", "room"]) (sc := defScope sOlg) (by decide +kernel)) (fun _ _ _ _ _ => pg_name (i := 2) scOlg.nd rfl (Or.inl rfl)) (fun _ _ _ _ _ => pts_nil) (fun _ _ _ _ _ => (pe_tup (pa_cons (pv 2) (pa_cons (pe_ix ix_list (pv 0) (pv 2) (fun _ _ => rfl)) pa_nil))))))), ?_⟩
    walk_at "rd"
    have at_ : ∀ x ∈ rg r, ∃ j : Nat, x = (j : Int) ∧ ((rg r).map fun x => optS (wordP L [x]))[j]? = some (optS (wordP L [x])) := fun x hx => by
      obtain ⟨j, hj, rfl⟩ := List.mem_map.mp hx
      refine ⟨j, rfl, ?_⟩
      unfold rg
      rw [List.getElem?_map, List.getElem?_map, List.getElem?_range (List.mem_range.mp hj)]
      rfl
    have wd : ∀ x ∈ O, ∃ z, wordP L [x] = some z ∧ x ∈ rg r := fun x hx => by
      have := cld_mem.mp (inO x hx)
      cases e : wordP L [x] with
      | none => exact absurd e this.2
      | some z => exact ⟨z, rfl, this.1⟩
    refine lcW ?_
    walk_at "rd"
    refine ⟨_, rfl, o, rfl, ⟨_, ho.sq⟩, gc_tupS IsC (fun H H' v b h k => by obtain ⟨t, e, h⟩ := h; exact ⟨t, e, k _ _ h⟩) (fun j => O[j]?.bind fun x => some (x, (wordP L [x]).getD (Str.ofString ""))) (fun H' sm => (ho.same sm).sq) (by rw [List.length_map]; omega) (fun j x Hy A B gx sy hA hB => ?_) fun g gs H3 s3 n3 h3 pg => ?_⟩
    · rw [List.getElem?_map] at gx
      cases e : O[j]? with
      | none => rw [e] at gx; cases gx
      | some z =>
        rw [e] at gx hA
        have ex : x = V.int z := (Option.some.inj gx).symm
        subst ex
        obtain ⟨wz, ew, zr⟩ := wd z (List.mem_of_getElem? e)
        obtain ⟨i, rfl, hi⟩ := at_ z zr
        walk_at "rd"
        rw [if_pos trivial]
        refine ⟨_, SqL.of (sy _ _ hc), _, atI_nat hi, by decide, fun p0 np0 => hA _ _ _ rfl (same_upd np0) ⟨p0, rfl, ?_⟩⟩
        rw [upd_same, ew]
        rfl
    · have e3 : (List.range (O.map V.int).length).filterMap (fun j => O[j]?.bind fun x => some ((x, (wordP L [x]).getD (Str.ofString "")) : Cl)) = ordL L O := by
        rw [List.length_map, fm_range (L := O) (fun x => some ((x, (wordP L [x]).getD (Str.ofString "")) : Cl))]
        unfold ordL
        show List.filterMap (some ∘ fun x => ((x, (wordP L [x]).getD (Str.ofString "")) : Cl)) O = _
        rw [List.filterMap_eq_map]
      rw [e3] at pg
      exact ret g gs H3 s3 n3 h3 pg
theorem scLsw : FnScope ["parts", "log", "calls", "part"] ["parts", "log", "calls"] (defScope sLsw) := ⟨rfl, rfl, rfl, by decide +kernel, rfl, by decide +kernel, by decide +kernel⟩
def spLsw : Sp := fun vs H Q _ => ∃ (a b c : Addr) (us ls ms : List V) (Ps : List (List Int)) (L M : List Cl), vs = [.ref a, .ref b, .ref c] ∧ H a = some (.lst us) ∧ RL H us Ps ∧ H b = some (.lst ls) ∧ LG H ls L ∧ H c = some (.lst ms) ∧ LG H ms M ∧
  ∀ k : Bool, (k = true ↔ ∀ P ∈ Ps, wordP L P = wordP M P) → Q (.bl k) H
theorem ok_lsw {f f1 : Addr} {fd fd1 : FuncData} (F : Fun K "_law_same_words" "_law_same_words" sLsw f fd) (d__law_word_of : Df P w K mg base "_law_word_of" ["log", "rooms"] 1 (spTopR K optW) f1 fd1) : FnOk P w K mg base CX0 2 f fd ["parts", "log", "calls"] spLsw := by
  refine F.ok scLsw (fun vs H Q E h => ?_) (fun cdv A0 outer s H vs Q E hr h => ?_)
  · obtain ⟨a, b, c, us, ls, ms, Ps, L, M, rfl, _⟩ := h
    rfl
  · obtain ⟨a, b, c, us, ls, ms, Ps, L, M, rfl, ha, rl, hb, lb, hc, lc, ret⟩ := h
    refine ⟨_, (pss_cons (ps_for PassesOwn.never rfl (pi_list (pv 0)) (pg_name (i := 3) scLsw.nd rfl (Or.inl rfl))
      (pss_one (ps_if (pt_cmpR op_ne (pe_call d__law_word_of.ok (hr.mono (by decide)) (by rfl) d__law_word_of.at_ d__law_word_of.kp d__law_word_of.b .nil pass0 (pa_cons (pv 1) (pa_cons (pv 3) pa_nil))) (pe_call d__law_word_of.ok (hr.mono (by decide)) (by rfl) d__law_word_of.at_ d__law_word_of.kp d__law_word_of.b .nil pass0 (pa_cons (pv 2) (pa_cons (pv 3) pa_nil))) (nomark _))
        (pss_one (ps_ret pe_bl))
        pss_nil)))
      (pss_one (ps_ret pe_bl))), ?_⟩
    walk_at "rd"
    obtain ⟨Pv, hPv⟩ : ∃ Pv : Nat → L2.St → Hp → Prop, Pv = (fun (i : Nat) σ H' => ∃ v3 : Option V, σ = [some (.ref a), some (.ref b), some (.ref c), v3] ∧ H = H' ∧ ∀ P ∈ Ps.take i, wordP L P = wordP M P) := ⟨_, rfl⟩
    refine for_iterW ?_
    walk_at "rd"
    refine ⟨⟨_, SqL.of ha⟩, for_list (xs := us) Pv (by rw [hPv]; exact ⟨none, rfl, rfl, fun P h => by cases h⟩) (fun i σ H' _ pv => by rw [hPv] at pv; obtain ⟨_, _, rfl, _⟩ := pv; exact SqL.of ha) (fun i x σ H' gx pv => ?_) (fun σ H' pv => ?_)⟩
    · rw [hPv] at pv
      obtain ⟨v3, rfl, rfl, ok⟩ := pv
      obtain ⟨Q0, gP, tp, rfl, htp⟩ := pget rl gx
      walk_at "rd"
      refine ⟨b, tp, ls, L, Q0, rfl, hb, lb, .inr (SqT.of htp), ?_⟩
      refine ⟨c, tp, ms, M, Q0, rfl, hc, lc, .inr (SqT.of htp), ?_⟩
      show rNe (optW (lastIn Q0 L)) (optW (lastIn Q0 M)) H _
      rw [optW_S, optW_S]
      refine (show rNe _ _ H _ from ⟨optS_scal _ _, _, rfl, ?_⟩)
      have mP := List.mem_of_getElem? gP
      by_cases e : wordP L Q0 = wordP M Q0
      · rw [e, decide_eq_true rfl, if_neg (by decide), hPv]
        refine ⟨_, rfl, rfl, fun P' h => ?_⟩
        rw [List.take_add_one, gP] at h
        rcases List.mem_append.mp h with h | h
        · exact ok P' h
        · rw [List.mem_singleton.mp (show P' ∈ [Q0] from h)]
          exact e
      · rw [decide_eq_false (fun z => e (optS_inj z)), if_pos (by rfl)]
        exact ret false ⟨fun z => (nomatch z), fun h => absurd (h Q0 mP) e⟩
    · rw [hPv] at pv
      obtain ⟨v3, rfl, rfl, ok⟩ := pv
      rw [rl.length, List.take_length] at ok
      walk_at "rd"
      exact ret true ⟨fun _ => ok, fun _ => rfl⟩
theorem scLna : FnScope ["orders", "a", "b", "order"] ["orders", "a", "b"] (defScope sLna) := ⟨rfl, rfl, rfl, by decide +kernel, rfl, by decide +kernel, by decide +kernel⟩
def spLna : Sp := fun vs H Q _ => ∃ (l : Addr) (a b : Int) (ws : List V) (Os : List (List Int)), vs = [.ref l, .int a, .int b] ∧ H l = some (.lst ws) ∧ Paired (IsO H) ws Os ∧ (∀ O ∈ Os, a ∈ O ∧ b ∈ O) ∧
  ∀ k : Bool, (k = true ↔ ∀ O ∈ Os, O.idxOf a ≤ O.idxOf b) → Q (.bl k) H
theorem ok_lna {f : Addr} {fd : FuncData} (F : Fun K "_law_never_after" "_law_never_after" sLna f fd) : FnOk P w K mg base CX0 1 f fd ["orders", "a", "b"] spLna := by
  refine F.ok scLna (fun vs H Q E h => ?_) (fun cdv A0 outer s H vs Q E hr h => ?_)
  · obtain ⟨l, a, b, ws, Os, rfl, _⟩ := h
    rfl
  · obtain ⟨l, a, b, ws, Os, rfl, hl, po, hm, ret⟩ := h
    refine ⟨_, (pss_cons (ps_for PassesOwn.never rfl (pi_list (pv 0)) (pg_name (i := 3) scLna.nd rfl (Or.inl rfl))
      (pss_one (ps_if (pt_cmpR op_gt (pe_idxF (pv 3) (pa_cons (pv 1) pa_nil)) (pe_idxF (pv 3) (pa_cons (pv 2) pa_nil)) (nomark _))
        (pss_one (ps_ret pe_bl))
        pss_nil)))
      (pss_one (ps_ret pe_bl))), ?_⟩
    walk_at "rd"
    obtain ⟨Pv, hPv⟩ : ∃ Pv : Nat → L2.St → Hp → Prop, Pv = (fun (i : Nat) σ H' => ∃ v3 : Option V, σ = [some (.ref l), some (.int a), some (.int b), v3] ∧ H = H' ∧ ∀ O ∈ Os.take i, O.idxOf a ≤ O.idxOf b) := ⟨_, rfl⟩
    refine for_iterW ?_
    walk_at "rd"
    refine ⟨⟨_, SqL.of hl⟩, for_list (xs := ws) Pv (by rw [hPv]; exact ⟨none, rfl, rfl, fun P h => by cases h⟩) (fun i σ H' _ pv => by rw [hPv] at pv; obtain ⟨_, _, rfl, _⟩ := pv; exact SqL.of hl) (fun i x σ H' gx pv => ?_) (fun σ H' pv => ?_)⟩
    · rw [hPv] at pv
      obtain ⟨v3, rfl, rfl, ok⟩ := pv
      obtain ⟨O, gO, t, rfl, ho⟩ := pget po gx
      have hin := hm O (List.mem_of_getElem? gO)
      walk_at "rd"
      unfold tIdxF
      walk_at "rd"
      refine ⟨⟨_, ho⟩, t, O, a, rfl, rfl, ho, hin.1, ⟨_, ho⟩, t, O, b, rfl, rfl, ho, hin.2, _, rfl, _, rfl, ?_⟩
      by_cases c : ((O.idxOf b : Nat) : Int) < ((O.idxOf a : Nat) : Int)
      · rw [if_pos c]
        exact ret false ⟨fun z => (nomatch z), fun h => by have := h O (List.mem_of_getElem? gO); omega⟩
      · rw [if_neg c, hPv]
        refine ⟨_, rfl, rfl, fun O' h => ?_⟩
        rw [List.take_add_one, gO] at h
        rcases List.mem_append.mp h with h | h
        · exact ok O' h
        · rw [List.mem_singleton.mp (show O' ∈ [O] from h)]
          omega
    · rw [hPv] at pv
      obtain ⟨v3, rfl, rfl, ok⟩ := pv
      rw [po.length, List.take_length] at ok
      walk_at "rd"
      exact ret true ⟨fun _ => ok, fun _ => rfl⟩
end

/-! ### _law_always -/
abbrev sLal : Stmt := topS 44
/-- the rooms in the order of their last calls -/
def lastO (L : List Cl) : List Int := (lastF L).map (·.1)
theorem lastF_memK : ∀ (L : List Cl) (x : Int), x ∈ (lastF L).map (·.1) ↔ x ∈ L.map (·.1)
  | [], x => Iff.rfl
  | d :: L, x => by
    by_cases m : d.1 ∈ L.map (·.1)
    · have e : lastF (d :: L) = lastF L := if_pos m
      rw [e, lastF_memK L x, List.map_cons, List.mem_cons]
      exact ⟨.inr, fun h => h.elim (fun z => by rw [z]; exact m) id⟩
    · have e : lastF (d :: L) = d :: lastF L := if_neg m
      rw [e, List.map_cons, List.map_cons, List.mem_cons, List.mem_cons, lastF_memK L x]
theorem called_iff {L : List Cl} {x : Int} : wordP L [x] ≠ none ↔ x ∈ L.map (·.1) := by
  constructor
  · intro h
    unfold wordP lastIn at h
    cases e : L.reverse.find? fun c => decide (c.1 ∈ [x]) with
    | none => rw [e] at h; exact absurd rfl h
    | some c =>
      have hc := List.mem_of_find?_eq_some e
      have hp := List.find?_some e
      have := List.mem_singleton.mp (of_decide_eq_true hp)
      exact List.mem_map.mpr ⟨c, List.mem_reverse.mp hc, this⟩
  · intro h z
    obtain ⟨c, hc, rfl⟩ := List.mem_map.mp h
    exact wordP_none z c hc (List.mem_singleton.mpr rfl)
theorem last_perm {r : Nat} {L : List Cl} (inr : InR r L) : (lastO L).Perm (cldF r L) := by
  refine (List.perm_ext_iff_of_nodup (lastF_ndK L) (up_nd (cld_up r L))).mpr fun x => ?_
  rw [lastF_memK, cld_mem, called_iff]
  refine ⟨fun h => ⟨?_, h⟩, fun h => h.2⟩
  obtain ⟨c, hc, rfl⟩ := List.mem_map.mp h
  exact mem_rg (inr c hc).1 (inr c hc).2
theorem last_fwd {D : List Pr} {L : List Cl} {r : Nat} (r12 : r ≤ 12) (inr : InR r L) : Fwd (lastO L) (pairsF D (formF D r L)) where
  nd := lastF_ndK L
  len := by
    have := ints_lenP (lastF_ndK L) fun x hx => by
      obtain ⟨c, hc, rfl⟩ := List.mem_map.mp hx
      exact inr c (lastF_subK L c hc)
    exact Nat.le_trans this r12
  ok := fun d hd => by
    obtain ⟨A, B, c, e, cx, hz⟩ := forced_last (z := d.1) (x := d.2) r12 hd
    have eO : lastO L = A.map (·.1) ++ d.2 :: B.map (·.1) := by
      unfold lastO
      rw [e, List.map_append, List.map_cons, cx]
    have nd := lastF_ndK L
    have sub : [d.1, d.2].Sublist (lastO L) := by
      rw [eO]
      exact (List.singleton_sublist.mpr hz).append (List.singleton_sublist.mpr List.mem_cons_self)
    refine ⟨by rw [eO]; exact List.mem_append_left _ hz, by rw [eO]; exact List.mem_append_right _ List.mem_cons_self, sub_idx nd sub⟩
theorem up_take {C : List Int} (u : Up C) {i : Nat} {x y : Int} (gx : C[i]? = some x) (hy : y ∈ C.take i) : y < x := by
  obtain ⟨n, hn⟩ := List.mem_iff_getElem?.mp hy
  have hni : n < i := by
    have := (List.getElem?_eq_some_iff.mp hn).1
    rw [List.length_take] at this
    omega
  rw [List.getElem?_take_of_lt hni] at hn
  obtain ⟨h1, e1⟩ := List.getElem?_eq_some_iff.mp hn
  obtain ⟨h2, e2⟩ := List.getElem?_eq_some_iff.mp gx
  have := List.pairwise_iff_getElem.mp u n i h1 h2 hni
  rw [e1, e2] at this
  exact this
section
variable {P : Program} {w : World} {K : PySem.W.Frag} {mg : Str → Option Value} {base : Heap}
theorem scLal : FnScope ["doors", "rooms", "log", "own", "called", "parts", "kept", "order", "always", "a", "b", "r"] ["doors", "rooms", "log"] (defScope sLal) := ⟨rfl, rfl, rfl, by decide +kernel, rfl, by decide +kernel, by decide +kernel⟩
def spLal : Sp := fun vs H Q _ => ∃ (l g : Addr) (us gs : List V) (D : List Pr) (L : List Cl) (r : Nat), vs = [.ref l, .int r, .ref g] ∧ H l = some (.lst us) ∧ PL H us D ∧ Drs r D ∧ H g = some (.lst gs) ∧ LG H gs L ∧ InR r L ∧ r ≤ 5 ∧
  ∀ ws S t H', Same H H' → H t = none → H' t = some (.lst ws) → PL H' ws S → Asc S → (∀ d : Pr, d ∈ S ↔ Lnk (pairsF D (formF D r L)) d.1 d.2) → Q (.ref t) H'
theorem ok_lal {f f1 f2 f3 f4 f5 f6 : Addr} {fd fd1 fd2 fd3 fd4 fd5 fd6 : FuncData} (F : Fun K "_law_always" "_law_always" sLal f fd) (T : Bi mg) (d__law_word_of : Df P w K mg base "_law_word_of" ["log", "rooms"] 1 (spTopR K optW) f1 fd1) (d__law_parts : Df P w K mg base "_law_parts" ["doors", "rooms"] 2 spLpr f2 fd2) (d__law_orders : Df P w K mg base "_law_orders" ["rooms"] 6 (spLorC 5) f3 fd3)
    (d__law_same_words : Df P w K mg base "_law_same_words" ["parts", "log", "calls"] 2 spLsw f4 fd4) (d__law_order_log : Df P w K mg base "_law_order_log" ["words", "order"] 1 spOlg f5 fd5) (d__law_never_after : Df P w K mg base "_law_never_after" ["orders", "a", "b"] 1 spLna f6 fd6) : FnOk P w K mg base CX0 7 f fd ["doors", "rooms", "log"] spLal := by
  refine F.ok scLal (fun vs H Q E h => ?_) (fun cdv A0 outer s H vs Q E hr h => ?_)
  · obtain ⟨l, g, us, gs, D, L, r, rfl, _⟩ := h
    rfl
  · obtain ⟨l, g, us, gs, D, L, r, rfl, hl, pl, drs, hg, lg, inr, r5, ret⟩ := h
    refine ⟨_, (pss_cons (ps_set (i := 3) scLal.nd rfl (Or.inr rfl) (pe_lc (own := [("r", 11)]) (te := tCall (spTopR K optW) [] E0 (tCons (tVar 2) (tCons (tLst (tCons (tVar 11) tNil)) tNil))) (by rfl) scLal.nd (pi_range1 (by rfl) T.range (pa_cons (pv 1) pa_nil)) (blkOk_by (N := ["doors", "rooms", "log", "own", "called", "parts", "kept", "order", "always", "a", "b", "r"]) (sc := defScope sLal) (by decide +kernel)) (fun _ _ _ _ _ => pg_name (i := 11) scLal.nd rfl (Or.inl rfl)) (fun _ _ _ _ _ => pts_nil) (fun _ _ _ _ _ => (pe_call d__law_word_of.ok (hr.mono (by decide)) (by rfl) d__law_word_of.at_ d__law_word_of.kp d__law_word_of.b .nil pass0 (pa_cons (pv 2) (pa_cons (pe_lst (pa_cons (pv 11) pa_nil)) pa_nil))))))
      (pss_cons (ps_setLc (i := 4) (own := [("r", 11)]) (tt := tTest (tOp (fun x y H Q => y = V.non ∧ Q (V.bl !decide (x = V.non)) H) (tOp (rIxL K) (tVar 3) (tVar 11)) (tC V.non))) (by rfl) scLal.nd rfl rfl (sw_true rfl rfl rfl (by decide +kernel)) (pi_range1 (by rfl) T.range (pa_cons (pv 1) pa_nil)) (blkOk_by (N := ["doors", "rooms", "log", "own", "called", "parts", "kept", "order", "always", "a", "b", "r"]) (sc := defScope sLal) (by decide +kernel)) (fun _ _ _ _ _ => pg_name (i := 11) scLal.nd rfl (Or.inl rfl)) (fun _ _ _ _ _ => (pts_one (pt_cmpR op_notN (pe_ix ix_list (pv 3) (pv 11) (fun _ _ => rfl)) pe_non (nomark _)))) (fun _ _ _ _ _ => (pv 11)))
      (pss_cons (ps_set (i := 5) scLal.nd rfl (Or.inl rfl) (pe_call d__law_parts.ok (hr.mono (by decide)) (by rfl) d__law_parts.at_ d__law_parts.kp d__law_parts.b .nil pass0 (pa_cons (pv 0) (pa_cons (pv 1) pa_nil))))
      (pss_cons (ps_set (i := 6) scLal.nd rfl (Or.inl rfl) (pe_lst pa_nil))
      (pss_cons (ps_for PassesOwn.never rfl (pi_list (pe_call d__law_orders.ok (hr.mono (by decide)) (by rfl) d__law_orders.at_ d__law_orders.kp d__law_orders.b .nil pass0 (pa_cons (pv 4) pa_nil))) (pg_name (i := 7) scLal.nd rfl (Or.inl rfl))
      (pss_one (ps_if (pt_truth (pe_call d__law_same_words.ok (hr.mono (by decide)) (by rfl) d__law_same_words.at_ d__law_same_words.kp d__law_same_words.b .nil pass0 (pa_cons (pv 5) (pa_cons (pv 2) (pa_cons (pe_call d__law_order_log.ok (hr.mono (by decide)) (by rfl) d__law_order_log.at_ d__law_order_log.kp d__law_order_log.b .nil pass0 (pa_cons (pv 3) (pa_cons (pv 7) pa_nil))) pa_nil)))) (by intro _; rfl))
        (pss_one (ps_expr (pe_bm PySem.F.plainAttrs_list PySem.F.slot_list_append PySem.F.type_list_append mt_append (pv 6) (pa_cons (pv 7) pa_nil))))
        pss_nil)))
      (pss_cons (ps_set (i := 8) scLal.nd rfl (Or.inl rfl) (pe_lst pa_nil))
      (pss_cons (ps_for PassesOwn.never rfl (pi_list (pv 4)) (pg_name (i := 9) scLal.nd rfl (Or.inl rfl))
      (pss_one (ps_for PassesOwn.never rfl (pi_list (pv 4)) (pg_name (i := 10) scLal.nd rfl (Or.inl rfl))
        (pss_one (ps_if (PW.pt (pw_and (pt_cmpR op_neI (pv 9) (pv 10) (nomark _)) (pw_and1 (pt_truth (pe_call d__law_never_after.ok (hr.mono (by decide)) (by rfl) d__law_never_after.at_ d__law_never_after.kp d__law_never_after.b .nil pass0 (pa_cons (pv 6) (pa_cons (pv 9) (pa_cons (pv 10) pa_nil)))) (by intro _; rfl)))))
          (pss_one (ps_expr (pe_bm PySem.F.plainAttrs_list PySem.F.slot_list_append PySem.F.type_list_append mt_append (pv 8) (pa_cons (pe_tup (pa_cons (pv 9) (pa_cons (pv 10) pa_nil))) pa_nil))))
          pss_nil)))))
      (pss_one (ps_ret (pv 8)))))))))), ?_⟩
    refine sq3 fun N hN => ?_
    walk_at "rd"
    refine lcW ?_
    walk_at "rd"
    refine ⟨by omega, by omega, ?_⟩
    rw [Int.toNat_natCast]
    refine gc_range (fun _ v b => v = optS b) (fun _ _ _ _ h _ => h) (fun j => some (wordP L [(j : Int)])) (by omega) (fun j Hy A B jl sy hA hB => ?_) fun ow ys H1 s1 n1 h1 p1 => ?_
    · rw [Int.zero_add]
      walk_at "rd"
      rw [if_pos trivial]
      refine ⟨by decide, fun q nq => ?_⟩
      have sq := same_upd (o := HO.lst [V.int (j : Int)]) nq
      refine ⟨g, q, gs, L, [(j : Int)], rfl, (sy.trans sq) _ _ hg, lg.kt (KT.same (sy.trans sq)), .inl (SqL.of upd_same), ?_⟩
      rw [optW_S]
      exact hA _ _ _ rfl sq rfl
    have ey : ys = (rg r).map fun x => optS (wordP L [x]) := by
      have := paired_map p1
      rw [this]
      unfold rg
      rw [List.map_map, List.filterMap_eq_map', List.map_map]
      rfl
    rw [ey] at h1
    clear p1 ey
    refine lcW ?_
    walk_at "rd"
    refine ⟨by omega, by omega, ?_⟩
    rw [Int.toNat_natCast]
    have at_ : ∀ x ∈ rg r, ∃ j : Nat, x = (j : Int) ∧ ((rg r).map fun x => optS (wordP L [x]))[j]? = some (optS (wordP L [x])) := fun x hx => by
      obtain ⟨j, hj, rfl⟩ := List.mem_map.mp hx
      refine ⟨j, rfl, ?_⟩
      unfold rg
      rw [List.getElem?_map, List.getElem?_map, List.getElem?_range (List.mem_range.mp hj)]
      rfl
    refine lc_filtR (p := fun x => (wordP L [x]).isSome) (by omega) (by simp) (fun x Hx B xm sx hB => ?_) fun ca H2 s2 n2 h2 => ?_
    · obtain ⟨j, rfl, hj⟩ := at_ x xm
      walk_at "rd"
      refine ⟨_, SqL.of (sx _ _ h1), _, atI_nat hj, ?_⟩
      have e : (!decide (optS (wordP L [(j : Int)]) = V.non)) = (wordP L [(j : Int)]).isSome := by cases wordP L [(j : Int)] <;> rfl
      rw [e]
      exact hB
    rw [show (rg r).filter (fun x => (wordP L [x]).isSome) = cldF r L from rfl] at h2
    have s02 := s1.trans s2
    refine ⟨l, us, D, r, rfl, s02 _ _ hl, pl.kt (KT.same s02), by omega, fun Ps ps pp H3 hP pl63 s3 n3 h3 rl => hN _ _ ?_⟩
    clear hN N
    have s03 := s02.trans s3
    have how := (s2.trans s3) _ _ h1
    have h3' := h3
    have hca := s3 _ _ h2
    have hg3 := s03 _ _ hg
    have lg3 := lg.kt (KT.same s03)
    have r12 : r ≤ 12 := by omega
    have dok : ∀ d ∈ D, d.1 < d.2 := fun d hd => (drs.ok d hd).2.1
    have fw := last_fwd (D := D) r12 inr
    have lp := last_perm (r := r) inr
    have kiff : ∀ O, keepB D r L O = true ↔ O.Perm (cldF r L) ∧ ∀ P ∈ Ps, wordP (ordL L O) P = wordP L P := fun O => keep_iff r12 dok hP
    have cl5 : (cldF r L).length ≤ 5 := by
      have := ints_lenP (up_nd (cld_up r L)) fun x hx => rg_mem (cld_mem.mp hx).1
      omega
    clear h1 h2 h3 hl pl hg lg s1 s2 s3 s02 n1 n2 hP
    refine sq2 fun N hN => ?_
    walk_at "rd"
    refine ⟨by decide, fun kp nkp => ?_⟩
    have s4 := same_upd (o := HO.lst []) nkp
    have hkp4 := upd_same (H := H3) (a := kp) (o := HO.lst [])
    generalize upd H3 kp (HO.lst []) = H4 at s4 hkp4 ⊢
    refine for_iterW ?_
    walk_at "rd"
    refine ⟨ca, cldF r L, rfl, s4 _ _ hca, up_nd (cld_up r L), cl5, by decide, fun os Os ot H5 s5 n5 h5 po neO pmO allO lenO => ?_⟩
    have s35 := s4.trans s5
    have l120 : os.length ≤ 120 := by rw [po.length]; exact lenO
    have kpot : kp ≠ ot := fun z => by rw [← z, hkp4] at n5; cases n5
    have chg : ∀ {H' : Hp} {t : Addr} {xs ys : List V} {v : V} {O : List Int}, H' t = some (.lst xs) → IsO H' v O → IsO (upd H' t (HO.lst ys)) v O := fun {H' t xs ys v O} ht h => by
      obtain ⟨q, e, ob, d, e2⟩ := h
      refine ⟨q, e, ob, d, ?_⟩
      rw [upd_ne (fun e3 => by rw [e3, ht] at e2; cases e2)]
      exact e2
    obtain ⟨Pv, hPv⟩ : ∃ Pv : Nat → L2.St → Hp → Prop, Pv = (fun (i : Nat) σ H' => ∃ (v7 : Option V) (ws : List V) (Ks : List (List Int)), σ = [some (.ref l), some (.int r), some (.ref g), some (.ref ow), some (.ref ca), some (.ref pp), some (.ref kp), v7, none, none, none, none] ∧ Same H3 H' ∧ H' ot = some (.lst os) ∧ Paired (IsO H') os Os ∧ H' kp = some (.lst ws) ∧ Paired (IsO H') ws Ks ∧ Ks.length ≤ i ∧ ∀ O, O ∈ Ks ↔ O ∈ Os.take i ∧ keepB D r L O = true) := ⟨_, rfl⟩
    refine ⟨ot, rfl, ⟨_, SqL.of h5⟩, for_list (K := K) (a := ot) (xs := os) Pv (by rw [hPv]; exact ⟨none, [], [], rfl, s35, h5, po, s5 _ _ hkp4, .nil, Nat.le_refl _, fun O => by simp⟩) (fun i σ H' _ pv => by rw [hPv] at pv; obtain ⟨_, _, _, _, _, h, _⟩ := pv; exact SqL.of h) (fun i x σ H6 gx pv => ?_) (fun σ H6 pv => ?_)⟩
    · rw [hPv] at pv
      obtain ⟨v7, ws, Ks, rfl, sm, hot, po6, hkp, pk, kl, mK⟩ := pv
      obtain ⟨O, gO, to, rfl, hO⟩ := pget po6 gx
      have mO := List.mem_of_getElem? gO
      have pO := pmO O mO
      have il : i < os.length := (List.getElem?_eq_some_iff.mp gx).1
      have tk : Os.take (i + 1) = Os.take i ++ [O] := by rw [List.take_add_one, gO]; rfl
      walk_at "rd"
      refine ⟨ow, to, r, L, O, rfl, sm _ _ how, hO, by rw [pO.length_eq]; omega, fun x hx => pO.mem_iff.mp hx, fun og gs' H7 s7 n7 hog lgo => ?_⟩
      have sm7 := sm.trans s7
      refine ⟨pp, g, og, ps, gs, gs', Ps, L, ordL L O, rfl, sm7 _ _ h3', rl.kt (KT.same sm7), sm7 _ _ hg3, lg3.kt (KT.same sm7), hog, lgo, fun k hk => ⟨k, rfl, ?_⟩⟩
      have kO : k = true ↔ keepB D r L O = true := by
        rw [hk, kiff O]
        exact ⟨fun h => ⟨pO, fun P hP => (h P hP).symm⟩, fun h P hP => (h.2 P hP).symm⟩
      have po7 := isos_same s7 po6
      have pk7 := isos_same s7 pk
      have hkp7 := s7 _ _ hkp
      cases k with
      | false =>
        rw [if_neg (by decide), hPv]
        refine ⟨_, ws, Ks, rfl, sm7, s7 _ _ hot, po7, hkp7, pk7, by omega, fun O' => ?_⟩
        rw [mK O', tk, List.mem_append, List.mem_singleton]
        constructor
        · rintro ⟨h, h2⟩
          exact ⟨.inl h, h2⟩
        · rintro ⟨h | h, h2⟩
          · exact ⟨h, h2⟩
          · rw [h] at h2
            exact absurd (kO.mpr h2) (by decide)
      | true =>
        rw [if_pos rfl]
        refine ⟨.inl ⟨rfl, _, SqL.of hkp7⟩, _, hkp7, len_big (by rw [pk7.length]; omega), ?_⟩
        rw [hPv]
        refine ⟨_, _, Ks ++ [O], rfl, same_ch sm7 nkp, by rw [upd_ne kpot.symm]; exact s7 _ _ hot, Paired.mapP po7 fun _ _ h => chg hkp7 h, upd_same, Paired.snoc (Paired.mapP pk7 fun _ _ h => chg hkp7 h) (chg hkp7 ⟨to, rfl, hO.same s7⟩), by rw [List.length_append, List.length_singleton]; omega, fun O' => ?_⟩
        rw [List.mem_append, mK O', tk, List.mem_append, List.mem_singleton]
        constructor
        · rintro (⟨h, h2⟩ | h)
          · exact ⟨.inl h, h2⟩
          · exact ⟨.inr h, by rw [h]; exact kO.mp rfl⟩
        · rintro ⟨h | h, h2⟩
          · exact .inl ⟨h, h2⟩
          · exact .inr h
    · rw [hPv] at pv
      obtain ⟨v7, ws, Ks, rfl, sm, hot, po6, hkp, pk, kl, mK⟩ := pv
      rw [po.length, List.take_length] at mK
      have alw : ∀ a b : Int, a ∈ cldF r L → b ∈ cldF r L → a ≠ b → ((∀ O ∈ Ks, O.idxOf a ≤ O.idxOf b) ↔ Lnk (pairsF D (formF D r L)) a b) := fun a b ha hb ne => by
        rw [← always_iff fw (lp.mem_iff.mpr ha) (lp.mem_iff.mpr hb) ne]
        have kb : ∀ O, keepB D r L O = true ↔ O.Perm (lastO L) ∧ obB O (pairsF D (formF D r L)) = true := fun O => by
          unfold keepB
          rw [Bool.and_eq_true, decide_eq_true_iff]
          exact ⟨fun h => ⟨h.1.trans lp.symm, h.2⟩, fun h => ⟨h.1.trans lp, h.2⟩⟩
        constructor
        · intro h O' pm' ob
          exact h O' ((mK O').mpr ⟨allO O' (pm'.trans lp), (kb O').mpr ⟨pm', ob⟩⟩)
        · intro h O' hO'
          have := (kb O').mp ((mK O').mp hO').2
          exact h O' this.1 this.2
      have pmK : ∀ O ∈ Ks, O.Perm (cldF r L) := fun O hO => pmO O ((mK O).mp hO).1
      refine hN _ _ ?_
      clear hN N hPv Pv hot po6 po h5 s5 hkp4 kiff fw lp mK
      walk_at "rd"
      refine ⟨by decide, fun al nal => ?_⟩
      have s8 := same_upd (o := HO.lst []) nal
      have hal := upd_same (H := H6) (a := al) (o := HO.lst [])
      generalize upd H6 al (HO.lst []) = H8 at s8 hal ⊢
      have hca6 := sm _ _ hca
      have upC : Up (cldF r L) := cld_up r L
      generalize hC : cldF r L = C at hca6 upC cl5 alw pmK
      have inC : ∀ {a b : Int}, Lnk (pairsF D (formF D r L)) a b → a ∈ C ∧ b ∈ C ∧ a ≠ b := fun {a b} h => by
        rw [← hC]
        obtain ⟨z, hz⟩ := h.first
        obtain ⟨y, hy⟩ := h.last
        refine ⟨(pair_called r12 hz).1, (pair_called r12 hy).2, fun e => ?_⟩
        have := ((last_fwd (D := D) r12 inr).lnk h).2.2
        rw [e] at this
        exact Nat.lt_irrefl _ this
      obtain ⟨Pv, hPv⟩ : ∃ Pv : Nat → L2.St → Hp → Prop, Pv = (fun (i : Nat) σ H' => ∃ (v9 v10 : Option V) (zs : List V) (S : List Pr), σ = [some (.ref l), some (.int r), some (.ref g), some (.ref ow), some (.ref ca), some (.ref pp), some (.ref kp), v7, some (.ref al), v9, v10, none] ∧ Same H6 H' ∧ H' al = some (.lst zs) ∧ PL H' zs S ∧ Asc S ∧ S.length ≤ 5 * i ∧ ∀ d : Pr, d ∈ S ↔ d.1 ∈ C.take i ∧ Lnk (pairsF D (formF D r L)) d.1 d.2) := ⟨_, rfl⟩
      refine for_iterW ?_
      walk_at "rd"
      refine ⟨⟨_, SqL.of (s8 _ _ hca6)⟩, for_list (K := K) (a := ca) (xs := C.map V.int) Pv (by rw [hPv]; exact ⟨none, none, [], [], rfl, s8, hal, .nil, List.Pairwise.nil, Nat.le_refl _, fun d => by simp⟩) (fun i σ H' _ pv => by rw [hPv] at pv; obtain ⟨_, _, _, _, _, h, _⟩ := pv; exact SqL.of (h _ _ hca6)) (fun i v σ H9 gx pv => ?_) (fun σ H9 pv => ?_)⟩
      · rw [hPv] at pv
        obtain ⟨v9, v10, zs, S, rfl, s9, hal9, pz, aS, lS, mS⟩ := pv
        rw [List.getElem?_map] at gx
        obtain ⟨x, gx', rfl⟩ := Option.map_eq_some_iff.mp gx
        clear gx
        have gx := gx'
        have mx := List.mem_of_getElem? gx
        have il : i < C.length := (List.getElem?_eq_some_iff.mp gx).1
        have tk : C.take (i + 1) = C.take i ++ [x] := by rw [List.take_add_one, gx]; rfl
        walk_at "rd"
        obtain ⟨Pw, hPw⟩ : ∃ Pw : Nat → L2.St → Hp → Prop, Pw = (fun (k : Nat) σ H' => ∃ (v10 : Option V) (zs : List V) (S : List Pr), σ = [some (.ref l), some (.int r), some (.ref g), some (.ref ow), some (.ref ca), some (.ref pp), some (.ref kp), v7, some (.ref al), some (.int x), v10, none] ∧ Same H6 H' ∧ H' al = some (.lst zs) ∧ PL H' zs S ∧ Asc S ∧ S.length ≤ 5 * i + k ∧ ∀ d : Pr, d ∈ S ↔ (d.1 ∈ C.take i ∧ Lnk (pairsF D (formF D r L)) d.1 d.2) ∨ (d.1 = x ∧ d.2 ∈ C.take k ∧ Lnk (pairsF D (formF D r L)) d.1 d.2)) := ⟨_, rfl⟩
        refine for_iterW ?_
        walk_at "rd"
        refine ⟨⟨_, SqL.of (s9 _ _ hca6)⟩, for_list (K := K) (a := ca) (xs := C.map V.int) Pw (by rw [hPw]; exact ⟨_, zs, S, rfl, s9, hal9, pz, aS, by omega, fun d => by rw [mS d]; simp⟩) (fun k σ H' _ pv => by rw [hPw] at pv; obtain ⟨_, _, _, _, h, _⟩ := pv; exact SqL.of (h _ _ hca6)) (fun k v σ H10 gy pv => ?_) (fun σ H10 pv => ?_)⟩
        · rw [hPw] at pv
          obtain ⟨v10', zs', S', rfl, s10, hal10, pz', aS', lS', mS'⟩ := pv
          rw [List.getElem?_map] at gy
          obtain ⟨y, gy', rfl⟩ := Option.map_eq_some_iff.mp gy
          clear gy
          have gy := gy'
          have my := List.mem_of_getElem? gy
          have kl' : k < C.length := (List.getElem?_eq_some_iff.mp gy).1
          have tk2 : C.take (k + 1) = C.take k ++ [y] := by rw [List.take_add_one, gy]; rfl
          have skip : ∀ σ10 : Option V, ¬ Lnk (pairsF D (formF D r L)) x y → Pw (k + 1) [some (.ref l), some (.int r), some (.ref g), some (.ref ow), some (.ref ca), some (.ref pp), some (.ref kp), v7, some (.ref al), some (.int x), σ10, none] H10 := fun σ10 no => by
            rw [hPw]
            refine ⟨σ10, zs', S', rfl, s10, hal10, pz', aS', by omega, fun d => ?_⟩
            rw [mS' d, tk2, List.mem_append, List.mem_singleton]
            constructor
            · rintro (h | ⟨h, h2, h3⟩)
              · exact .inl h
              · exact .inr ⟨h, .inl h2, h3⟩
            · rintro (h | ⟨h, h2 | h2, h3⟩)
              · exact .inl h
              · exact .inr ⟨h, h2, h3⟩
              · rw [h, h2] at h3
                exact absurd h3 no
          walk_at "rd"
          by_cases ne : x = y
          · rw [if_neg (by rw [decide_eq_true ne]; decide), if_neg (fun z => z)]
            exact skip _ fun h => (inC h).2.2 ne
          · rw [if_pos (by rw [decide_eq_false ne]; rfl)]
            refine ⟨kp, x, y, ws, Ks, rfl, s10 _ _ hkp, isos_same s10 pk, fun O hO => ⟨(pmK O hO).mem_iff.mpr mx, (pmK O hO).mem_iff.mpr my⟩, fun k2 hk2 => ⟨k2, rfl, ?_⟩⟩
            rw [alw x y mx my ne] at hk2
            cases k2 with
            | false =>
              rw [if_neg (by decide)]
              exact skip _ fun h => absurd (hk2.mpr h) (by decide)
            | true =>
              have lxy := hk2.mp rfl
              rw [if_pos rfl]
              refine ⟨.inl ⟨rfl, _, SqL.of hal10⟩, by decide, fun q nq => ?_⟩
              have sq := same_upd (o := HO.tup [V.int x, V.int y]) nq
              have hq := upd_same (H := H10) (a := q) (o := HO.tup [V.int x, V.int y])
              generalize upd H10 q (HO.tup [V.int x, V.int y]) = H11 at sq hq ⊢
              have hal11 := sq _ _ hal10
              have kt : KT H11 (upd H11 al (HO.lst (zs' ++ [V.ref q]))) := KT.lst hal11
              refine ⟨zs', hal11, len_big (by rw [pz'.len]; omega), ?_⟩
              rw [hPw]
              refine ⟨_, _, S' ++ [(x, y)], rfl, same_ch (s10.trans sq) nal, upd_same, Paired.snoc ((pz'.kt (KT.same sq)).kt kt) ⟨q, rfl, kt _ _ hq⟩, ?_, by rw [List.length_append, List.length_singleton]; omega, fun d => ?_⟩
              · unfold Asc
                rw [List.pairwise_append]
                refine ⟨aS', List.pairwise_singleton _ _, fun d hd e he => ?_⟩
                rw [List.mem_singleton.mp he]
                rcases (mS' d).mp hd with ⟨h, _⟩ | ⟨h, h2, _⟩
                · exact .inl (up_take upC gx h)
                · exact .inr ⟨h, up_take upC gy h2⟩
              · rw [List.mem_append, mS' d, List.mem_singleton, tk2, List.mem_append, List.mem_singleton]
                constructor
                · rintro ((h | ⟨h, h2, h3⟩) | h)
                  · exact .inl h
                  · exact .inr ⟨h, .inl h2, h3⟩
                  · rw [h]; exact .inr ⟨rfl, .inr rfl, lxy⟩
                · rintro (h | ⟨h, h2 | h2, h3⟩)
                  · exact .inl (.inl h)
                  · exact .inl (.inr ⟨h, h2, h3⟩)
                  · exact .inr (Prod.ext h h2)
        · rw [hPw] at pv
          obtain ⟨v10', zs', S', rfl, s10, hal10, pz', aS', lS', mS'⟩ := pv
          rw [List.length_map] at lS' mS'
          rw [List.take_length] at mS'
          show Pv (i + 1) _ H10
          rw [hPv]
          refine ⟨_, _, zs', S', rfl, s10, hal10, pz', aS', by omega, fun d => ?_⟩
          rw [mS' d, tk, List.mem_append, List.mem_singleton]
          constructor
          · rintro (⟨h, h2⟩ | ⟨h, _, h2⟩)
            · exact ⟨.inl h, h2⟩
            · exact ⟨.inr h, h2⟩
          · rintro ⟨h | h, h2⟩
            · exact .inl ⟨h, h2⟩
            · exact .inr ⟨h, (inC h2).2.1, h2⟩
      · rw [hPv] at pv
        obtain ⟨v9, v10, zs, S, rfl, s9, hal9, pz, aS, lS, mS⟩ := pv
        rw [List.length_map, List.take_length] at mS
        walk_at "rd"
        exact ret zs S al _ (s03.trans (sm.trans s9)) (sm_none (s03.trans sm) nal) hal9 pz aS fun d => by rw [mS d]; exact ⟨fun h => h.2, fun h => ⟨(inC h).1, h⟩⟩
end

/-! ### k36: the law -/
abbrev sLaw : Stmt := topS 45
theorem cut_takeK (xs : List V) (k : Nat) : cutV xs none (some ((k : Nat) : Int)) = xs.take k := by
  unfold cutV
  rw [show HT.sIx xs.length xs.length (some ((k : Nat) : Int)) = min k xs.length from HT.sIx_nat xs.length xs.length k, HT.sIx_none, List.drop_zero, Nat.sub_zero]
  by_cases h : k ≤ xs.length
  · rw [Nat.min_eq_left h]
  · rw [Nat.min_eq_right (by omega), List.take_length, List.take_of_length_le (by omega)]
theorem asc_eq {S T : List Pr} (h : Asc S) (k : Asc T) (e : ∀ d, d ∈ S ↔ d ∈ T) : S = T := by
  have asy : ∀ p q : Pr, lt2 p q → lt2 q p → False := fun p q h k => by
    unfold lt2 at h k
    omega
  have pm : S.Perm T := (List.perm_ext_iff_of_nodup h.nodup k.nodup).mpr e
  exact List.Perm.eq_of_pairwise (fun a b _ _ h1 h2 => (asy a b h1 h2).elim) h k pm
theorem pd_refl : ∀ S : List Pr, PyData.eqvAll (S.map pdP) (S.map pdP) = true
  | [] => rfl
  | d :: S => by
    show (PyData.eqv (pdP d) (pdP d) && PyData.eqvAll (S.map pdP) (S.map pdP)) = true
    rw [pdP_eqv, pd_refl S, decide_eq_true rfl]
    rfl
theorem pairs_eqD {K : PySem.W.Frag} {H : Hp} {a b : Addr} {us vs : List V} {S : List Pr} {Q : VK} (ha : H a = some (.lst us)) (hb : H b = some (.lst vs)) (pa : PL H us S) (pb : PL H vs S) (q : Q (.bl true) H) : rEqD K (.ref a) (.ref b) H Q := by
  refine ⟨.list (S.map pdP), .list (S.map pdP), .lst (SqL.of ha) (dp_all pa), .lst (SqL.of hb) (dp_all pb), shaped_list _, shaped_list _, ?_⟩
  rw [show PyData.eqv (.list (S.map pdP)) (.list (S.map pdP)) = true from pd_refl S]
  exact q
section
variable {P : Program} {w : World} {K : PySem.W.Frag} {mg : Str → Option Value} {base : Heap}
theorem scLaw : FnScope ["script", "n", "rooms", "doors", "m", "words", "log", "p", "other", "form", "other_form", "due", "other_due", "house", "got"] ["script"] (defScope sLaw) := ⟨rfl, rfl, rfl, by decide +kernel, rfl, by decide +kernel, by decide +kernel⟩
def spLaw (K : PySem.W.Frag) : Sp := fun vs H Q _ => ∃ (a : Addr) (ns : List Int), vs = [.ref a] ∧ SqL K H a (ns.map V.int) ∧ ns.length ≤ 63 ∧ ∀ H', Q (.bl true) H'
set_option maxHeartbeats 4000000 in
theorem ok_law {f C fi fo f1 f2 f3 f4 f5 f6 f7 f8 f9 f10 f11 f12 : Addr} {fd fdi fdo fd1 fd2 fd3 fd4 fd5 fd6 fd7 fd8 fd9 fd10 fd11 fd12 : FuncData} (F : Fun K "law" "law" sLaw f fd) (T : Bi mg) (U : Hs K mg C) (M : Mk K C fi) (Gi : FnOk P w K mg base CX0 2 fi fdi ["self", "rooms", "doors"] (spHinit C)) (bi : Binds K fdi ["self", "rooms", "doors"] [])
    (m_doors : Md P w K mg base C "doors" ["self"] 1 (spHdoors C) fo fdo)
    (d__law_cell : Df P w K mg base "_law_cell" ["script", "k"] 1 (spCell K) f1 fd1) (d__law_numbers : Df P w K mg base "_law_numbers" ["cell", "count"] 1 (spNum K) f2 fd2) (d__law_doors : Df P w K mg base "_law_doors" ["numbers", "rooms"] 2 (spDrs K) f3 fd3) (d__law_words : Df P w K mg base "_law_words" ["numbers", "at", "many"] 2 (spLws K) f4 fd4)
    (d__law_log : Df P w K mg base "_law_log" ["numbers", "at", "many", "rooms", "words"] 1 (spLlg K) f5 fd5) (d__law_calls : Df P w K mg base "_law_calls" ["script", "at", "rooms", "words", "most"] 2 (spLcs K) f6 fd6) (d__law_form : Df P w K mg base "_law_form" ["doors", "log", "rooms"] 29 (spLf 12) f7 fd7)
    (d__law_forced : Df P w K mg base "_law_forced" ["doors", "form"] 16 spLfc f8 fd8) (d__law_chains : Df P w K mg base "_law_chains" ["pairs", "rooms"] 1 spLch f9 fd9) (d_sure_pairs : Df P w K mg base "sure_pairs" ["house", "form"] 19 (spSur C) f10 fd10) (d__law_same : Df P w K mg base "_law_same" ["got", "due"] 4 (spSame 3) f11 fd11) (d__law_always : Df P w K mg base "_law_always" ["doors", "rooms", "log"] 7 spLal f12 fd12) : FnOk P w K mg base CX0 31 f fd ["script"] (spLaw K) := by
  refine F.ok scLaw (fun vs H Q E h => ?_) (fun cdv A0 outer s H vs Q E hr h => ?_)
  · obtain ⟨a, ns, rfl, _⟩ := h
    rfl
  · obtain ⟨a, ss, rfl, hS, s63, q⟩ := h
    refine ⟨_, (pss_cons (ps_set (i := 1) scLaw.nd rfl (Or.inl rfl) (pe_call d__law_numbers.ok (hr.mono (by decide)) (by rfl) d__law_numbers.at_ d__law_numbers.kp d__law_numbers.b .nil pass0 (pa_cons (pe_call d__law_cell.ok (hr.mono (by decide)) (by rfl) d__law_cell.at_ d__law_cell.kp d__law_cell.b .nil pass0 (pa_cons (pv 0) (pa_cons pe_int pa_nil))) (pa_cons pe_int pa_nil))))
      (pss_cons (ps_set (i := 2) scLaw.nd rfl (Or.inl rfl) (pe_op op_add pe_int (pe_op op_mod (pe_callTy cr_intI (by rfl) T.int (by decide +kernel) (pa_cons (pe_ix ix_list (pv 1) pe_int (fun _ _ => rfl)) pa_nil)) pe_int)))
      (pss_cons (ps_set (i := 3) scLaw.nd rfl (Or.inl rfl) (pe_call d__law_doors.ok (hr.mono (by decide)) (by rfl) d__law_doors.at_ d__law_doors.kp d__law_doors.b .nil pass0 (pa_cons (pv 1) (pa_cons (pv 2) pa_nil))))
      (pss_cons (ps_set (i := 4) scLaw.nd rfl (Or.inl rfl) (pe_call d__law_numbers.ok (hr.mono (by decide)) (by rfl) d__law_numbers.at_ d__law_numbers.kp d__law_numbers.b .nil pass0 (pa_cons (pe_call d__law_cell.ok (hr.mono (by decide)) (by rfl) d__law_cell.at_ d__law_cell.kp d__law_cell.b .nil pass0 (pa_cons (pv 0) (pa_cons pe_int pa_nil))) (pa_cons pe_int pa_nil))))
      (pss_cons (ps_set (i := 5) scLaw.nd rfl (Or.inl rfl) (pe_slice sl_list (pe_call d__law_words.ok (hr.mono (by decide)) (by rfl) d__law_words.at_ d__law_words.kp d__law_words.b .nil pass0 (pa_cons (pv 4) (pa_cons pe_int (pa_cons pe_int pa_nil)))) po_none (po_some (pe_ix ix_list (pe_lst (pa_cons pe_int (pa_cons pe_int (pa_cons pe_int (pa_cons pe_int (pa_cons pe_int (pa_cons pe_int (pa_cons pe_int (pa_cons pe_int pa_nil))))))))) (pe_op op_mod (pe_callTy cr_intI (by rfl) T.int (by decide +kernel) (pa_cons (pe_ix ix_list (pv 4) pe_int (fun _ _ => rfl)) pa_nil)) pe_int) (fun _ _ => rfl)))))
      (pss_cons (ps_set (i := 6) scLaw.nd rfl (Or.inl rfl) (pe_op op_cat (pe_call d__law_log.ok (hr.mono (by decide)) (by rfl) d__law_log.at_ d__law_log.kp d__law_log.b .nil pass0 (pa_cons (pv 4) (pa_cons pe_int (pa_cons (pe_op op_mod (pe_callTy cr_intI (by rfl) T.int (by decide +kernel) (pa_cons (pe_ix ix_list (pv 4) pe_int (fun _ _ => rfl)) pa_nil)) pe_int) (pa_cons (pv 2) (pa_cons (pv 5) pa_nil)))))) (pe_call d__law_calls.ok (hr.mono (by decide)) (by rfl) d__law_calls.at_ d__law_calls.kp d__law_calls.b .nil pass0 (pa_cons (pv 0) (pa_cons pe_int (pa_cons (pv 2) (pa_cons (pv 5) (pa_cons pe_int pa_nil))))))))
      (pss_cons (ps_set (i := 7) scLaw.nd rfl (Or.inl rfl) (pe_call d__law_numbers.ok (hr.mono (by decide)) (by rfl) d__law_numbers.at_ d__law_numbers.kp d__law_numbers.b .nil pass0 (pa_cons (pe_call d__law_cell.ok (hr.mono (by decide)) (by rfl) d__law_cell.at_ d__law_cell.kp d__law_cell.b .nil pass0 (pa_cons (pv 0) (pa_cons pe_int pa_nil))) (pa_cons pe_int pa_nil))))
      (pss_cons (ps_set (i := 8) scLaw.nd rfl (Or.inl rfl) (pe_call d__law_log.ok (hr.mono (by decide)) (by rfl) d__law_log.at_ d__law_log.kp d__law_log.b .nil pass0 (pa_cons (pv 7) (pa_cons pe_int (pa_cons (pe_op op_mod (pe_callTy cr_intI (by rfl) T.int (by decide +kernel) (pa_cons (pe_ix ix_list (pv 7) pe_int (fun _ _ => rfl)) pa_nil)) pe_int) (pa_cons (pv 2) (pa_cons (pv 5) pa_nil)))))))
      (pss_cons (ps_set (i := 9) scLaw.nd rfl (Or.inl rfl) (pe_call d__law_form.ok (hr.mono (by decide)) (by rfl) d__law_form.at_ d__law_form.kp d__law_form.b .nil pass0 (pa_cons (pv 3) (pa_cons (pv 6) (pa_cons (pe_listRg rfl (by rfl) T.list (prg_1 (by rfl) T.range (pv 2))) pa_nil)))))
      (pss_cons (ps_set (i := 10) scLaw.nd rfl (Or.inl rfl) (pe_call d__law_form.ok (hr.mono (by decide)) (by rfl) d__law_form.at_ d__law_form.kp d__law_form.b .nil pass0 (pa_cons (pv 3) (pa_cons (pv 8) (pa_cons (pe_listRg rfl (by rfl) T.list (prg_1 (by rfl) T.range (pv 2))) pa_nil)))))
      (pss_cons (ps_set (i := 11) scLaw.nd rfl (Or.inl rfl) (pe_call d__law_chains.ok (hr.mono (by decide)) (by rfl) d__law_chains.at_ d__law_chains.kp d__law_chains.b .nil pass0 (pa_cons (pe_call d__law_forced.ok (hr.mono (by decide)) (by rfl) d__law_forced.at_ d__law_forced.kp d__law_forced.b .nil pass0 (pa_cons (pv 3) (pa_cons (pv 9) pa_nil))) (pa_cons (pv 2) pa_nil))))
      (pss_cons (ps_set (i := 12) scLaw.nd rfl (Or.inl rfl) (pe_call d__law_chains.ok (hr.mono (by decide)) (by rfl) d__law_chains.at_ d__law_chains.kp d__law_chains.b .nil pass0 (pa_cons (pe_call d__law_forced.ok (hr.mono (by decide)) (by rfl) d__law_forced.at_ d__law_forced.kp d__law_forced.b .nil pass0 (pa_cons (pv 3) (pa_cons (pv 10) pa_nil))) (pa_cons (pv 2) pa_nil))))
      (pss_cons (ps_set (i := 13) scLaw.nd rfl (Or.inl rfl) (pe_make M Gi (hr.mono (by decide)) (by rfl) U.mgC bi .nil pass0 (pa_cons (pv 2) (pa_cons (pe_callTy call_list_of (by rfl) T.list (by decide +kernel) (pa_cons (pv 3) pa_nil)) pa_nil))))
      (pss_cons (ps_set (i := 14) scLaw.nd rfl (Or.inl rfl) (pe_call d_sure_pairs.ok (hr.mono (by decide)) (by rfl) d_sure_pairs.at_ d_sure_pairs.kp d_sure_pairs.b .nil pass0 (pa_cons (pv 13) (pa_cons (pv 9) pa_nil))))
      (pss_cons (ps_if (PW.pt (pw_or (pt_not (pt_val (pe_call d__law_same.ok (hr.mono (by decide)) (by rfl) d__law_same.at_ d__law_same.kp d__law_same.b .nil pass0 (pa_cons (pv 14) (pa_cons (pv 11) pa_nil))))) (pw_or1 (pt_not (pt_val (pe_call d__law_same.ok (hr.mono (by decide)) (by rfl) d__law_same.at_ d__law_same.kp d__law_same.b .nil pass0 (pa_cons (pe_call d_sure_pairs.ok (hr.mono (by decide)) (by rfl) d_sure_pairs.at_ d_sure_pairs.kp d_sure_pairs.b .nil pass0 (pa_cons (pv 13) (pa_cons (pv 10) pa_nil))) (pa_cons (pv 12) pa_nil))))))))
      (pss_one (ps_ret pe_bl))
      pss_nil)
      (pss_cons (ps_expr (pe_bm PySem.F.plainAttrs_list PySem.F.slot_list_append PySem.F.type_list_append mt_append (pv 14) (pa_cons (pe_tup (pa_cons pe_int (pa_cons pe_int pa_nil))) pa_nil)))
      (pss_cons (ps_if (PW.pt (pw_or (pt_not (pt_val (pe_call d__law_same.ok (hr.mono (by decide)) (by rfl) d__law_same.at_ d__law_same.kp d__law_same.b .nil pass0 (pa_cons (pe_call d_sure_pairs.ok (hr.mono (by decide)) (by rfl) d_sure_pairs.at_ d_sure_pairs.kp d_sure_pairs.b .nil pass0 (pa_cons (pv 13) (pa_cons (pv 9) pa_nil))) (pa_cons (pv 11) pa_nil))))) (pw_or1 (pt_not (pt_val (pe_call d__law_same.ok (hr.mono (by decide)) (by rfl) d__law_same.at_ d__law_same.kp d__law_same.b .nil pass0 (pa_cons (pe_meth0 (pv 13) U.cl m_doors.m m_doors.ok (hr.mono (by decide)) m_doors.b .nil pass0) (pa_cons (pv 3) pa_nil))))))))
      (pss_one (ps_ret pe_bl))
      pss_nil)
      (pss_cons (ps_if (pt_cmpR op_gt (pv 2) pe_int (nomark _))
      (pss_one (ps_ret pe_bl))
      pss_nil)
      (pss_one (ps_ret (pe_and (pe_cmpR (op_eqD hr.units) (pe_call d__law_always.ok (hr.mono (by decide)) (by rfl) d__law_always.at_ d__law_always.kp d__law_always.b .nil pass0 (pa_cons (pv 3) (pa_cons (pv 2) (pa_cons (pv 6) pa_nil)))) (pv 11) (nomark _)) (pe_one (pe_cmpR (op_eqD hr.units) (pe_call d__law_always.ok (hr.mono (by decide)) (by rfl) d__law_always.at_ d__law_always.kp d__law_always.b .nil pass0 (pa_cons (pv 3) (pa_cons (pv 2) (pa_cons (pv 8) pa_nil)))) (pv 12) (nomark _)))))))))))))))))))))))), ?_⟩
    refine sq5 fun N hN => ?_
    walk_at "rd"
    refine ⟨a, ss, 0, rfl, hS, fun c0 _ => ⟨c0, 80, rfl, by decide, fun nl ln H1 N1 s1 fn1 hln => ?_⟩⟩
    obtain ⟨n79, g79⟩ : ∃ x, (nl.map V.int)[79]? = some (.int x) := ⟨nl[79]'(by rw [N1.1]; decide), by rw [List.getElem?_map, List.getElem?_eq_getElem (by rw [N1.1]; decide)]; rfl⟩
    refine ⟨ln, rfl, _, SqL.of hln, .int n79, at_of (j := 79) rfl g79, n79, rfl, by decide, ?_⟩
    obtain ⟨r, er, hr1, hr12⟩ : ∃ r : Nat, 1 + n79 % 12 = (r : Int) ∧ 1 ≤ r ∧ r ≤ 12 := ⟨(1 + n79 % 12).toNat, by omega, by omega, by omega⟩
    rw [er]
    clear er
    refine ⟨ln, nl, r, rfl, SqL.of hln, by rw [N1.1]; omega, hr1, hr12, fun D us ld H2 drs s2 nld hld pD => ?_⟩
    have s02 := s1.trans s2
    refine ⟨a, ss, 1, rfl, s02.seq hS, fun c1 _ => ⟨c1, 50, rfl, by decide, fun ml lm H3 N3 s3 fm3 hlm => ?_⟩⟩
    have s03 := s02.trans s3
    refine ⟨lm, ml, 0, 12, rfl, SqL.of hlm, by rw [N3.1]; decide, by decide, by decide, fun Z0 zp0 H4 wz s4 nzp0 hzp0 => ⟨by decide, fun p8 np8 => ?_⟩⟩
    have s4b := same_upd (o := HO.lst [V.int 1, V.int 2, V.int 2, V.int 3, V.int 3, V.int 4, V.int 6, V.int 12]) np8
    have hp8 := upd_same (H := H4) (a := p8) (o := HO.lst [V.int 1, V.int 2, V.int 2, V.int 3, V.int 3, V.int 4, V.int 6, V.int 12])
    generalize upd H4 p8 (HO.lst [V.int 1, V.int 2, V.int 2, V.int 3, V.int 3, V.int 4, V.int 6, V.int 12]) = H4b at s4b hp8 ⊢
    have hlm4 := (s4.trans s4b) _ _ hlm
    obtain ⟨m24, g24⟩ : ∃ x, (ml.map V.int)[24]? = some (.int x) := ⟨ml[24]'(by rw [N3.1]; decide), by rw [List.getElem?_map, List.getElem?_eq_getElem (by rw [N3.1]; decide)]; rfl⟩
    obtain ⟨m25, g25⟩ : ∃ x, (ml.map V.int)[25]? = some (.int x) := ⟨ml[25]'(by rw [N3.1]; decide), by rw [List.getElem?_map, List.getElem?_eq_getElem (by rw [N3.1]; decide)]; rfl⟩
    obtain ⟨qn, eq, hq1, hq2⟩ : ∃ qn : Nat, atI [V.int 1, V.int 2, V.int 2, V.int 3, V.int 3, V.int 4, V.int 6, V.int 12] (m24 % 8) = some (V.int (qn : Int)) ∧ 1 ≤ qn ∧ qn ≤ 12 := by
      have y0 := Int.emod_nonneg m24 (show (8 : Int) ≠ 0 by decide)
      have y9 := Int.emod_lt_of_pos m24 (show (0 : Int) < 8 by decide)
      generalize m24 % 8 = y at y0 y9 ⊢
      have : y = 0 ∨ y = 1 ∨ y = 2 ∨ y = 3 ∨ y = 4 ∨ y = 5 ∨ y = 6 ∨ y = 7 := by omega
      rcases this with rfl | rfl | rfl | rfl | rfl | rfl | rfl | rfl
      · exact ⟨1, rfl, by decide, by decide⟩
      · exact ⟨2, rfl, by decide, by decide⟩
      · exact ⟨2, rfl, by decide, by decide⟩
      · exact ⟨3, rfl, by decide, by decide⟩
      · exact ⟨3, rfl, by decide, by decide⟩
      · exact ⟨4, rfl, by decide, by decide⟩
      · exact ⟨6, rfl, by decide, by decide⟩
      · exact ⟨12, rfl, by decide, by decide⟩
    refine ⟨lm, rfl, _, SqL.of hlm4, .int m24, at_of (j := 24) rfl g24, m24, rfl, by decide, _, SqL.of hp8, _, eq, qn, rfl, ?_⟩
    have hzp4 := s4b _ _ hzp0
    refine ⟨zp0, rfl, _, SqL.of hzp4, fun zp nzp => hN _ _ ?_⟩
    clear hN N
    rw [cut_takeK, ← List.map_take]
    have s4c := same_upd (o := HO.lst ((Z0.take qn).map V.str)) nzp
    have hzp := upd_same (H := H4b) (a := zp) (o := HO.lst ((Z0.take qn).map V.str))
    generalize upd H4b zp (HO.lst ((Z0.take qn).map V.str)) = H5 at s4c hzp ⊢
    have z1 : 1 ≤ (Z0.take qn).length := by rw [List.length_take, wz.1]; omega
    have zw : ∀ z ∈ Z0.take qn, wk 17 z := fun z hz => wz.2 z (List.mem_of_mem_take hz)
    generalize Z0.take qn = Z at hzp z1 zw s4c ⊢
    have s05 := s03.trans (s4.trans (s4b.trans s4c))
    have hlm5 := s4c _ _ hlm4
    have hld5 := (s3.trans (s4.trans (s4b.trans s4c))) _ _ hld
    have pD5 := pD.kt (KT.same (s3.trans (s4.trans (s4b.trans s4c))))
    have hS5 := s05.seq hS
    clear s05 s4c s4b s4 s3 s03 s02 s2 s1 hlm4 hzp4 hp8 np8 nzp nzp0 hzp0 wz eq g24 g79 hld pD nld hlm hln fn1 fm3 hS N1
    refine sq4 fun N hN => ?_
    walk_at "rd"
    refine ⟨_, SqL.of hlm5, .int m25, at_of (j := 25) rfl g25, m25, rfl, by decide, ?_⟩
    obtain ⟨mm, em⟩ : ∃ mm : Nat, m25 % 13 = mm := ⟨(m25 % 13).toNat, by omega⟩
    have u1 := Int.emod_lt_of_pos m25 (show (0 : Int) < 13 by decide)
    rw [em] at u1 ⊢
    refine ⟨lm, zp, ml, 26, mm, r, Z, rfl, SqL.of hlm5, by rw [N3.1]; omega, by omega, hr1, hzp, z1, zw, fun L1 w1 g1 H6 l1 inr1 wk1 t1 ng1 hg1 lg1 => ?_⟩
    refine ⟨a, zp, ss, 3, 8, r, 17, Z, rfl, t1.seq hS5, s63, by decide, by decide, hr1, t1 _ _ hzp, z1, zw, fun L2 w2 g2 H7 l2 inr2 wk2 _ t2 ng2 hg2 lg2 => ?_⟩
    have wl1 := lg1.len
    have wl2 := lg2.len
    refine ⟨g1, g2, w1, w2, rfl, rfl, t2 _ _ hg1, hg2, Nat.le_of_lt (len_big (by omega)), fun lc nlc => ?_⟩
    have t3 := same_upd (o := HO.lst (w1 ++ w2)) nlc
    have hlc := upd_same (H := H7) (a := lc) (o := HO.lst (w1 ++ w2))
    have lgc : LG (upd H7 lc (HO.lst (w1 ++ w2))) (w1 ++ w2) (L1 ++ L2) := paired_append (lg1.kt (KT.same (t2.trans t3))) (lg2.kt (KT.same t3))
    have inrc : InR r (L1 ++ L2) := fun c hc => (List.mem_append.mp hc).elim (inr1 c) (inr2 c)
    generalize upd H7 lc (HO.lst (w1 ++ w2)) = H8 at t3 hlc lgc ⊢
    generalize w1 ++ w2 = gs at hlc lgc
    generalize L1 ++ L2 = L at lgc inrc
    have t13 := t1.trans (t2.trans t3)
    refine ⟨a, ss, 2, rfl, t13.seq hS5, fun c2 _ => ⟨c2, 25, rfl, by decide, fun pl lp H9 N9 t4 fp hlp => ?_⟩⟩
    obtain ⟨p0, gp0⟩ : ∃ x, (pl.map V.int)[0]? = some (.int x) := ⟨pl[0]'(by rw [N9.1]; decide), by rw [List.getElem?_map, List.getElem?_eq_getElem (by rw [N9.1]; decide)]; rfl⟩
    refine ⟨lp, rfl, _, SqL.of hlp, .int p0, at_of (j := 0) rfl gp0, p0, rfl, by decide, ?_⟩
    obtain ⟨mp, ep⟩ : ∃ mp : Nat, p0 % 13 = mp := ⟨(p0 % 13).toNat, by omega⟩
    have v1 := Int.emod_lt_of_pos p0 (show (0 : Int) < 13 by decide)
    rw [ep] at v1 ⊢
    refine ⟨lp, zp, pl, 1, mp, r, Z, rfl, SqL.of hlp, by rw [N9.1]; omega, by omega, hr1, (t13.trans t4) _ _ hzp, z1, zw, fun Lo wo lo HA lO inro wko t5 nlo hlo lgo => ?_⟩
    refine ⟨RgOk.of_le (by omega) (by omega) (by omega) (by omega), fun e1 ne1 => ?_⟩
    rw [rgV_rg]
    have t6 := same_upd (o := HO.lst ((rg r).map V.int)) ne1
    have he1 := upd_same (H := HA) (a := e1) (o := HO.lst ((rg r).map V.int))
    generalize upd HA e1 (HO.lst ((rg r).map V.int)) = HB at t6 he1 ⊢
    have t46 := t4.trans (t5.trans t6)
    have t16 := t13.trans t46
    have pos : ∀ x ∈ rg r, 0 ≤ x := fun x hx => (rg_mem hx).1
    refine ⟨ld, lc, e1, us, gs, D, L, rg r, rfl, t16 _ _ hld5, pD5.kt (KT.same t16), t46 _ _ hlc, lgc.kt (KT.same t46), he1, by rw [rg_len]; exact hr12, by decide, pos, fun v HC t7 fm => hN _ _ ?_⟩
    clear hN N
    have t17 := t16.trans t7
    have hldC := t17 _ _ hld5
    have pDC := pD5.kt (KT.same t17)
    have hlcC := (t46.trans t7) _ _ hlc
    have lgcC := lgc.kt (KT.same (t46.trans t7))
    have hloC := (t6.trans t7) _ _ hlo
    have lgoC := lgo.kt (KT.same (t6.trans t7))
    have fm : FormAt HC 12 v (formF D r L) := fm
    clear t17 t16 t46 t13 t1 t2 t3 t4 t5 t6 t7 hld5 pD5 hlc lgc hlo lgo he1 ne1 hlp fp N9 gp0 ep v1 em u1 hg1 hg2 lg1 lg2 wl1 wl2 hlm5 g25 N3 hzp z1 zw hS5 nlc ng1 ng2 nlo wk1 wk2 wko l1 l2 lO
    have dl := drs.len hr12
    have ul := pDC.len
    refine sq5 fun N hN => ?_
    walk_at "rd"
    refine ⟨RgOk.of_le (by omega) (by omega) (by omega) (by omega), fun e2 ne2 => ?_⟩
    rw [rgV_rg]
    have t1 := same_upd (o := HO.lst ((rg r).map V.int)) ne2
    have he2 := upd_same (H := HC) (a := e2) (o := HO.lst ((rg r).map V.int))
    generalize upd HC e2 (HO.lst ((rg r).map V.int)) = HD at t1 he2 ⊢
    refine ⟨ld, lo, e2, us, wo, D, Lo, rg r, rfl, t1 _ _ hldC, pDC.kt (KT.same t1), t1 _ _ hloC, lgoC.kt (KT.same t1), he2, by rw [rg_len]; exact hr12, by decide, pos, fun vo HE t2 fmo => ?_⟩
    have fmo : FormAt HE 12 vo (formF D r Lo) := fmo
    have t12 := t1.trans t2
    have inE : ∀ {L : List Cl} {E : List Pr}, E.Perm (pairsF D (formF D r L)) → ∀ d ∈ E, (0 ≤ d.1 ∧ d.1 < (r : Int)) ∧ 0 ≤ d.2 ∧ d.2 < (r : Int) := fun {L E} pm d hd => by
      have := pair_called hr12 (pm.mem_iff.mp hd)
      exact ⟨rg_mem (cld_mem.mp this.1).1, rg_mem (cld_mem.mp this.2).1⟩
    have fwE : ∀ {L : List Cl} {E : List Pr}, InR r L → E.Perm (pairsF D (formF D r L)) → Fwd (lastO L) E := fun {L E} il pm => by
      have h := last_fwd (D := D) hr12 il
      exact ⟨h.nd, h.len, fun d hd => h.ok d (pm.mem_iff.mp hd)⟩
    have lkE : ∀ {L : List Cl} {E : List Pr} {a b : Int}, E.Perm (pairsF D (formF D r L)) → (Lnk E a b ↔ Lnk (pairsF D (formF D r L)) a b) := fun {L E a b} pm => ⟨Lnk.congr fun d h => pm.mem_iff.mp h, Lnk.congr fun d h => pm.mem_iff.mpr h⟩
    refine ⟨ld, v, us, D, L, r, rfl, t12 _ _ hldC, pDC.kt (KT.same t12), by omega, hr12, fm.kt (KT.same t12), fun w1 E1 a1 HF t3 n3 ha1 pE1 pm1 _ => ?_⟩
    refine ⟨a1, w1, E1, r, lastO L, rfl, ha1, pE1, pm1.nodup_iff.mpr pairsF_nd, hr12, inE pm1, fwE inrc pm1, fun z1 S1 b1 HG t4 n4 hb1 pS1 as1 mS1 => ?_⟩
    have t14 := t12.trans (t3.trans t4)
    refine ⟨ld, vo, us, D, Lo, r, rfl, t14 _ _ hldC, pDC.kt (KT.same t14), by omega, hr12, fmo.kt (KT.same (t3.trans t4)), fun w2 E2 a2 HH t5 n5 ha2 pE2 pm2 _ => ?_⟩
    refine ⟨a2, w2, E2, r, lastO Lo, rfl, ha2, pE2, pm2.nodup_iff.mpr pairsF_nd, hr12, inE pm2, fwE inro pm2, fun z2 S2 b2 HI t6 n6 hb2 pS2 as2 mS2 => ?_⟩
    have t56 := t5.trans t6
    have t16 := t14.trans t56
    refine ⟨us, .inl (SqL.of (t16 _ _ hldC)), fun ol nol => fun y dx ny ndx ney => ?_⟩
    have t7 := same_upd (o := HO.lst us) nol
    refine use_init ny ndx upd_same ((pDC.kt (KT.same t16)).kt (KT.same t7)) (by rw [mm2_same drs]) drs hr1 hr12 fun own HJ hh t8 _ => ⟨rfl, ?_⟩
    have t78 := t7.trans t8
    have t18 := t16.trans t78
    have fmJ := fm.kt (KT.same t18)
    refine ⟨y, v, r, D, own, L, rfl, hh, fmJ, hr12, fun zg Sg gt HK t9 ng hgt pg asg msg => hN _ _ ?_⟩
    clear hN N
    have hb1J := (t56.trans t78) _ _ hb1
    have pS1J := pS1.kt (KT.same (t56.trans t78))
    have hb2J := t78 _ _ hb2
    have pS2J := pS2.kt (KT.same t78)
    have hldJ := t18 _ _ hldC
    have pDJ := pDC.kt (KT.same t18)
    have hlcJ := t18 _ _ hlcC
    have lgcJ := lgcC.kt (KT.same t18)
    have hloJ := t18 _ _ hloC
    have lgoJ := lgoC.kt (KT.same t18)
    have fmoJ := fmo.kt (KT.same ((t3.trans t4).trans (t56.trans t78)))
    have eg : ∀ S : List Pr, Asc S → (∀ d : Pr, d ∈ S ↔ Lnk (pairsF D (formF D r L)) d.1 d.2) → S = S1 := fun S as mS => asc_eq as as1 fun d => by rw [mS d, mS1 d, lkE pm1]
    have eo : ∀ S : List Pr, Asc S → (∀ d : Pr, d ∈ S ↔ Lnk (pairsF D (formF D r Lo)) d.1 d.2) → S = S2 := fun S as mS => asc_eq as as2 fun d => by rw [mS d, mS2 d, lkE pm2]
    have l1 : S1.length ≤ 66 := (fwE inrc pm1).len66 as1.nodup fun d hd => (mS1 d).mp hd
    have l2 : S2.length ≤ 66 := (fwE inro pm2).len66 as2.nodup fun d hd => (mS2 d).mp hd
    clear t78 t56 t18 t16 t14 t12 t1 t2 t3 t4 t5 t6 t7 t8 hb1 hb2 pS1 pS2 hldC pDC hlcC lgcC hloC lgoC fm fmo he2 ne2 ny ndx ney nol ha1 ha2 pE1 pE2
    refine sq1 fun N hN => ?_
    walk_at "rd"
    have e1 := eg Sg asg msg
    subst e1
    refine same_ok (sm_pairs hgt (t9 _ _ hb1J) pg (pS1J.kt (KT.same t9)) (by rw [pg.len]; omega) 1) ⟨true, rfl, ?_⟩
    rw [if_neg (show ¬ (!true) = true by decide)]
    refine ⟨y, vo, r, D, own, Lo, rfl, hh.same t9, fmoJ.kt (KT.same t9), hr12, fun zo So go HL t10 no hgo po aso mso => ?_⟩
    have e2 := eo So aso mso
    subst e2
    have u2 := t9.trans t10
    refine same_ok (sm_pairs hgo (u2 _ _ hb2J) po (pS2J.kt (KT.same u2)) (by rw [po.len]; omega) 1) ⟨true, rfl, ?_⟩
    rw [if_neg (show ¬ (!true) = true by decide)]
    refine hN _ _ ?_
    clear hN N
    have hgt2 := t10 _ _ hgt
    have gl := pg.len
    refine sq1 fun N hN => ?_
    walk_at "rd"
    refine ⟨.inl ⟨rfl, _, SqL.of hgt2⟩, by decide, fun q0 nq0 => ?_⟩
    have t11 := same_upd (o := HO.tup [V.int 0, V.int 0]) nq0
    refine ⟨_, t11 _ _ hgt2, len_big (by omega), hN _ _ ?_⟩
    clear hN N
    have u3 : Same HJ (upd (upd HL q0 (HO.tup [V.int 0, V.int 0])) gt (HO.lst (zg ++ [V.ref q0]))) := same_ch (u2.trans t11) ng
    generalize upd (upd HL q0 (HO.tup [V.int 0, V.int 0])) gt (HO.lst (zg ++ [V.ref q0])) = HM at u3 ⊢
    clear t11 nq0 hgt2 hgt pg hgo po u2 t10 t9
    refine sq1 fun N hN => ?_
    walk_at "rd"
    refine ⟨y, v, r, D, own, L, rfl, hh.same u3, fmJ.kt (KT.same u3), hr12, fun z3 S3 g3 HN t12 n3' h3 p3 as3 ms3 => ?_⟩
    have e3 := eg S3 as3 ms3
    subst e3
    have u4 := u3.trans t12
    refine same_ok (sm_pairs h3 (u4 _ _ hb1J) p3 (pS1J.kt (KT.same u4)) (by rw [p3.len]; omega) 1) ⟨true, rfl, ?_⟩
    rw [if_neg (show ¬ (!true) = true by decide)]
    have hh4 := hh.same u4
    obtain ⟨dx2, l0', m0', ls0, nss, h1x, _⟩ := hh4.ex
    refine ⟨dx2, _, h1x, hf_no _ _ _ (by decide +kernel) (by decide +kernel) (by decide +kernel), y, r, D, own, rfl, hh4, fun ws td pw ntd => ?_⟩
    have sT : Same HN (upd HN td (HO.lst ws)) := same_upd ntd
    have u5 := u4.trans sT
    refine same_ok (sm_pairs upd_same (u5 _ _ hldJ) (pw.kt (KT.same sT)) (pDJ.kt (KT.same u5)) (by rw [pw.len]; omega) 1) ⟨true, rfl, ?_⟩
    rw [if_neg (show ¬ (!true) = true by decide)]
    refine hN _ _ ?_
    clear hN N
    generalize upd HN td (HO.lst ws) = HO1 at u5 ⊢
    walk_at "rd"
    by_cases c5 : (5 : Int) < (r : Int)
    · rw [if_pos c5]
      exact q _
    · rw [if_neg c5]
      refine ⟨ld, lc, us, gs, D, L, r, rfl, u5 _ _ hldJ, pDJ.kt (KT.same u5), drs, u5 _ _ hlcJ, lgcJ.kt (KT.same u5), inrc, by omega, fun z5 S5 k5 HP t13 _ h5 p5 as5 ms5 => ?_⟩
      have e5 := eg S5 as5 ms5
      subst e5
      have u6 := u5.trans t13
      refine pairs_eqD h5 (u6 _ _ hb1J) p5 (pS1J.kt (KT.same u6)) ⟨true, rfl, ?_⟩
      rw [if_pos rfl]
      refine ⟨ld, lo, us, wo, D, Lo, r, rfl, u6 _ _ hldJ, pDJ.kt (KT.same u6), drs, u6 _ _ hloJ, lgoJ.kt (KT.same u6), inro, by omega, fun z6 S6 k6 HQ t14 _ h6 p6 as6 ms6 => ?_⟩
      have e6 := eo S6 as6 ms6
      subst e6
      have u7 := u6.trans t14
      exact pairs_eqD h6 (u7 _ _ hb2J) p6 (pS2J.kt (KT.same u7)) (q _)
end

set_option maxHeartbeats 8000000 in
theorem all_mk {l : PySem.W.OpenLaw} {w : World} {K : PySem.W.Frag} {h : Heap} {mg : Str → Option Value} {fa : Addr} (X : K.In h) (G : h.Ns mainGlobals mg) (hfa : mg "law" = some (.ref fa))
    {f_check_room_count : Addr} {od_check_room_count an_check_room_count : Option Addr} {sl_check_room_count : Array (Option Value)} {oc_check_room_count kV_check_room_count dc_check_room_count pm_check_room_count cd_check_room_count ct_check_room_count : Value}
    {f_checked_doors : Addr} {od_checked_doors an_checked_doors : Option Addr} {sl_checked_doors : Array (Option Value)} {oc_checked_doors kV_checked_doors dc_checked_doors pm_checked_doors cd_checked_doors ct_checked_doors : Value}
    {f__law_cell : Addr} {od__law_cell an__law_cell : Option Addr} {sl__law_cell : Array (Option Value)} {oc__law_cell kV__law_cell dc__law_cell pm__law_cell cd__law_cell ct__law_cell : Value}
    {f__law_numbers : Addr} {od__law_numbers an__law_numbers : Option Addr} {sl__law_numbers : Array (Option Value)} {oc__law_numbers kV__law_numbers dc__law_numbers pm__law_numbers cd__law_numbers ct__law_numbers : Value}
    {f__law_names : Addr} {od__law_names an__law_names : Option Addr} {sl__law_names : Array (Option Value)} {oc__law_names kV__law_names dc__law_names pm__law_names cd__law_names ct__law_names : Value}
    {f__law_joined : Addr} {od__law_joined an__law_joined : Option Addr} {sl__law_joined : Array (Option Value)} {oc__law_joined kV__law_joined dc__law_joined pm__law_joined cd__law_joined ct__law_joined : Value}
    {f__law_doors : Addr} {od__law_doors an__law_doors : Option Addr} {sl__law_doors : Array (Option Value)} {oc__law_doors kV__law_doors dc__law_doors pm__law_doors cd__law_doors ct__law_doors : Value}
    {f__law_word : Addr} {od__law_word an__law_word : Option Addr} {sl__law_word : Array (Option Value)} {oc__law_word kV__law_word dc__law_word pm__law_word cd__law_word ct__law_word : Value}
    {f__law_words : Addr} {od__law_words an__law_words : Option Addr} {sl__law_words : Array (Option Value)} {oc__law_words kV__law_words dc__law_words pm__law_words cd__law_words ct__law_words : Value}
    {f__law_log : Addr} {od__law_log an__law_log : Option Addr} {sl__law_log : Array (Option Value)} {oc__law_log kV__law_log dc__law_log pm__law_log cd__law_log ct__law_log : Value}
    {f__law_calls : Addr} {od__law_calls an__law_calls : Option Addr} {sl__law_calls : Array (Option Value)} {oc__law_calls kV__law_calls dc__law_calls pm__law_calls cd__law_calls ct__law_calls : Value}
    {f__law_reach : Addr} {od__law_reach an__law_reach : Option Addr} {sl__law_reach : Array (Option Value)} {oc__law_reach kV__law_reach dc__law_reach pm__law_reach cd__law_reach ct__law_reach : Value}
    {f__law_pieces : Addr} {od__law_pieces an__law_pieces : Option Addr} {sl__law_pieces : Array (Option Value)} {oc__law_pieces kV__law_pieces dc__law_pieces pm__law_pieces cd__law_pieces ct__law_pieces : Value}
    {f__law_top : Addr} {od__law_top an__law_top : Option Addr} {sl__law_top : Array (Option Value)} {oc__law_top kV__law_top dc__law_top pm__law_top cd__law_top ct__law_top : Value}
    {f__law_word_of : Addr} {od__law_word_of an__law_word_of : Option Addr} {sl__law_word_of : Array (Option Value)} {oc__law_word_of kV__law_word_of dc__law_word_of pm__law_word_of cd__law_word_of ct__law_word_of : Value}
    {f__law_tops : Addr} {od__law_tops an__law_tops : Option Addr} {sl__law_tops : Array (Option Value)} {oc__law_tops kV__law_tops dc__law_tops pm__law_tops cd__law_tops ct__law_tops : Value}
    {f__law_form : Addr} {od__law_form an__law_form : Option Addr} {sl__law_form : Array (Option Value)} {oc__law_form kV__law_form dc__law_form pm__law_form cd__law_form ct__law_form : Value}
    {f__law_blocks : Addr} {od__law_blocks an__law_blocks : Option Addr} {sl__law_blocks : Array (Option Value)} {oc__law_blocks kV__law_blocks dc__law_blocks pm__law_blocks cd__law_blocks ct__law_blocks : Value}
    {f__law_block_rooms : Addr} {od__law_block_rooms an__law_block_rooms : Option Addr} {sl__law_block_rooms : Array (Option Value)} {oc__law_block_rooms kV__law_block_rooms dc__law_block_rooms pm__law_block_rooms cd__law_block_rooms ct__law_block_rooms : Value}
    {f__law_forced : Addr} {od__law_forced an__law_forced : Option Addr} {sl__law_forced : Array (Option Value)} {oc__law_forced kV__law_forced dc__law_forced pm__law_forced cd__law_forced ct__law_forced : Value}
    {f__law_chains : Addr} {od__law_chains an__law_chains : Option Addr} {sl__law_chains : Array (Option Value)} {oc__law_chains kV__law_chains dc__law_chains pm__law_chains cd__law_chains ct__law_chains : Value}
    {f_blocks : Addr} {od_blocks an_blocks : Option Addr} {sl_blocks : Array (Option Value)} {oc_blocks kV_blocks dc_blocks pm_blocks cd_blocks ct_blocks : Value}
    {f_block_rooms : Addr} {od_block_rooms an_block_rooms : Option Addr} {sl_block_rooms : Array (Option Value)} {oc_block_rooms kV_block_rooms dc_block_rooms pm_block_rooms cd_block_rooms ct_block_rooms : Value}
    {f_is_beside : Addr} {od_is_beside an_is_beside : Option Addr} {sl_is_beside : Array (Option Value)} {oc_is_beside kV_is_beside dc_is_beside pm_is_beside cd_is_beside ct_is_beside : Value}
    {f_pairs_between : Addr} {od_pairs_between an_pairs_between : Option Addr} {sl_pairs_between : Array (Option Value)} {oc_pairs_between kV_pairs_between dc_pairs_between pm_pairs_between cd_pairs_between ct_pairs_between : Value}
    {f_forced_pairs : Addr} {od_forced_pairs an_forced_pairs : Option Addr} {sl_forced_pairs : Array (Option Value)} {oc_forced_pairs kV_forced_pairs dc_forced_pairs pm_forced_pairs cd_forced_pairs ct_forced_pairs : Value}
    {f_linked_rooms : Addr} {od_linked_rooms an_linked_rooms : Option Addr} {sl_linked_rooms : Array (Option Value)} {oc_linked_rooms kV_linked_rooms dc_linked_rooms pm_linked_rooms cd_linked_rooms ct_linked_rooms : Value}
    {f_sure_pairs : Addr} {od_sure_pairs an_sure_pairs : Option Addr} {sl_sure_pairs : Array (Option Value)} {oc_sure_pairs kV_sure_pairs dc_sure_pairs pm_sure_pairs cd_sure_pairs ct_sure_pairs : Value}
    {f__law_same : Addr} {od__law_same an__law_same : Option Addr} {sl__law_same : Array (Option Value)} {oc__law_same kV__law_same dc__law_same pm__law_same cd__law_same ct__law_same : Value}
    {f__law_parts : Addr} {od__law_parts an__law_parts : Option Addr} {sl__law_parts : Array (Option Value)} {oc__law_parts kV__law_parts dc__law_parts pm__law_parts cd__law_parts ct__law_parts : Value}
    {f__law_orders : Addr} {od__law_orders an__law_orders : Option Addr} {sl__law_orders : Array (Option Value)} {oc__law_orders kV__law_orders dc__law_orders pm__law_orders cd__law_orders ct__law_orders : Value}
    {f__law_same_words : Addr} {od__law_same_words an__law_same_words : Option Addr} {sl__law_same_words : Array (Option Value)} {oc__law_same_words kV__law_same_words dc__law_same_words pm__law_same_words cd__law_same_words ct__law_same_words : Value}
    {f__law_order_log : Addr} {od__law_order_log an__law_order_log : Option Addr} {sl__law_order_log : Array (Option Value)} {oc__law_order_log kV__law_order_log dc__law_order_log pm__law_order_log cd__law_order_log ct__law_order_log : Value}
    {f__law_never_after : Addr} {od__law_never_after an__law_never_after : Option Addr} {sl__law_never_after : Array (Option Value)} {oc__law_never_after kV__law_never_after dc__law_never_after pm__law_never_after cd__law_never_after ct__law_never_after : Value}
    {f__law_always : Addr} {od__law_always an__law_always : Option Addr} {sl__law_always : Array (Option Value)} {oc__law_always kV__law_always dc__law_always pm__law_always cd__law_always ct__law_always : Value}
    {f_law : Addr} {od_law an_law : Option Addr} {sl_law : Array (Option Value)} {oc_law kV_law dc_law pm_law cd_law ct_law : Value}
    {f_m_init_ : Addr} {od_m_init_ an_m_init_ : Option Addr} {sl_m_init_ : Array (Option Value)} {oc_m_init_ kV_m_init_ dc_m_init_ pm_m_init_ cd_m_init_ ct_m_init_ : Value}
    {f_mdoors : Addr} {od_mdoors an_mdoors : Option Addr} {sl_mdoors : Array (Option Value)} {oc_mdoors kV_mdoors dc_mdoors pm_mdoors cd_mdoors ct_mdoors : Value}
    {f_mneighbours : Addr} {od_mneighbours an_mneighbours : Option Addr} {sl_mneighbours : Array (Option Value)} {oc_mneighbours kV_mneighbours dc_mneighbours pm_mneighbours cd_mneighbours ct_mneighbours : Value}
    {C : Addr}
    {tk_MOST_ROOMS : Tok}
    (aC : PySem.W.nsIn K mainGlobals "House" = some (some (.ref C)))
    (pg : PySem.W.plainGet K C Str.empty = true)
    (hd : PySem.W.hasDictIn K C = true)
    (po : PySem.W.plainOver K C = true)
    (sa : PySem.W.findIn K (.ref C) "__setattr__" = some (some (.builtin "object.__setattr__")))
    (mk : PySem.W.makesIn K C = true)
    (kc : PySem.W.keepIn K (.ref C) = true)
    (a_check_room_count : PySem.W.nsIn K mainGlobals "check_room_count" = some (some (.ref f_check_room_count)))
    (l_check_room_count : K.lookup f_check_room_count = some ⟨oc_check_room_count, od_check_room_count, .func (PySem.W.fnOf "check_room_count" "check_room_count" (defArgs sRoom) (defBody sRoom) (defScope sRoom) .none kV_check_room_count dc_check_room_count pm_check_room_count an_check_room_count cd_check_room_count ct_check_room_count), sl_check_room_count⟩)
    (c_check_room_count : PySem.W.codeIn K cd_check_room_count "check_room_count" = true)
    (k_check_room_count : PySem.W.keepIn K (.ref f_check_room_count) = true)
    (a_checked_doors : PySem.W.nsIn K mainGlobals "checked_doors" = some (some (.ref f_checked_doors)))
    (l_checked_doors : K.lookup f_checked_doors = some ⟨oc_checked_doors, od_checked_doors, .func (PySem.W.fnOf "checked_doors" "checked_doors" (defArgs sChk) (defBody sChk) (defScope sChk) .none kV_checked_doors dc_checked_doors pm_checked_doors an_checked_doors cd_checked_doors ct_checked_doors), sl_checked_doors⟩)
    (c_checked_doors : PySem.W.codeIn K cd_checked_doors "checked_doors" = true)
    (k_checked_doors : PySem.W.keepIn K (.ref f_checked_doors) = true)
    (a__law_cell : PySem.W.nsIn K mainGlobals "_law_cell" = some (some (.ref f__law_cell)))
    (l__law_cell : K.lookup f__law_cell = some ⟨oc__law_cell, od__law_cell, .func (PySem.W.fnOf "_law_cell" "_law_cell" (defArgs sCell) (defBody sCell) (defScope sCell) .none kV__law_cell dc__law_cell pm__law_cell an__law_cell cd__law_cell ct__law_cell), sl__law_cell⟩)
    (c__law_cell : PySem.W.codeIn K cd__law_cell "_law_cell" = true)
    (k__law_cell : PySem.W.keepIn K (.ref f__law_cell) = true)
    (a__law_numbers : PySem.W.nsIn K mainGlobals "_law_numbers" = some (some (.ref f__law_numbers)))
    (l__law_numbers : K.lookup f__law_numbers = some ⟨oc__law_numbers, od__law_numbers, .func (PySem.W.fnOf "_law_numbers" "_law_numbers" (defArgs sNum) (defBody sNum) (defScope sNum) .none kV__law_numbers dc__law_numbers pm__law_numbers an__law_numbers cd__law_numbers ct__law_numbers), sl__law_numbers⟩)
    (c__law_numbers : PySem.W.codeIn K cd__law_numbers "_law_numbers" = true)
    (k__law_numbers : PySem.W.keepIn K (.ref f__law_numbers) = true)
    (a__law_names : PySem.W.nsIn K mainGlobals "_law_names" = some (some (.ref f__law_names)))
    (l__law_names : K.lookup f__law_names = some ⟨oc__law_names, od__law_names, .func (PySem.W.fnOf "_law_names" "_law_names" (defArgs sNam) (defBody sNam) (defScope sNam) .none kV__law_names dc__law_names pm__law_names an__law_names cd__law_names ct__law_names), sl__law_names⟩)
    (c__law_names : PySem.W.codeIn K cd__law_names "_law_names" = true)
    (k__law_names : PySem.W.keepIn K (.ref f__law_names) = true)
    (a__law_joined : PySem.W.nsIn K mainGlobals "_law_joined" = some (some (.ref f__law_joined)))
    (l__law_joined : K.lookup f__law_joined = some ⟨oc__law_joined, od__law_joined, .func (PySem.W.fnOf "_law_joined" "_law_joined" (defArgs sJnd) (defBody sJnd) (defScope sJnd) .none kV__law_joined dc__law_joined pm__law_joined an__law_joined cd__law_joined ct__law_joined), sl__law_joined⟩)
    (c__law_joined : PySem.W.codeIn K cd__law_joined "_law_joined" = true)
    (k__law_joined : PySem.W.keepIn K (.ref f__law_joined) = true)
    (a__law_doors : PySem.W.nsIn K mainGlobals "_law_doors" = some (some (.ref f__law_doors)))
    (l__law_doors : K.lookup f__law_doors = some ⟨oc__law_doors, od__law_doors, .func (PySem.W.fnOf "_law_doors" "_law_doors" (defArgs sDrs) (defBody sDrs) (defScope sDrs) .none kV__law_doors dc__law_doors pm__law_doors an__law_doors cd__law_doors ct__law_doors), sl__law_doors⟩)
    (c__law_doors : PySem.W.codeIn K cd__law_doors "_law_doors" = true)
    (k__law_doors : PySem.W.keepIn K (.ref f__law_doors) = true)
    (a__law_word : PySem.W.nsIn K mainGlobals "_law_word" = some (some (.ref f__law_word)))
    (l__law_word : K.lookup f__law_word = some ⟨oc__law_word, od__law_word, .func (PySem.W.fnOf "_law_word" "_law_word" (defArgs sLwd) (defBody sLwd) (defScope sLwd) .none kV__law_word dc__law_word pm__law_word an__law_word cd__law_word ct__law_word), sl__law_word⟩)
    (c__law_word : PySem.W.codeIn K cd__law_word "_law_word" = true)
    (k__law_word : PySem.W.keepIn K (.ref f__law_word) = true)
    (a__law_words : PySem.W.nsIn K mainGlobals "_law_words" = some (some (.ref f__law_words)))
    (l__law_words : K.lookup f__law_words = some ⟨oc__law_words, od__law_words, .func (PySem.W.fnOf "_law_words" "_law_words" (defArgs sLws) (defBody sLws) (defScope sLws) .none kV__law_words dc__law_words pm__law_words an__law_words cd__law_words ct__law_words), sl__law_words⟩)
    (c__law_words : PySem.W.codeIn K cd__law_words "_law_words" = true)
    (k__law_words : PySem.W.keepIn K (.ref f__law_words) = true)
    (a__law_log : PySem.W.nsIn K mainGlobals "_law_log" = some (some (.ref f__law_log)))
    (l__law_log : K.lookup f__law_log = some ⟨oc__law_log, od__law_log, .func (PySem.W.fnOf "_law_log" "_law_log" (defArgs sLlg) (defBody sLlg) (defScope sLlg) .none kV__law_log dc__law_log pm__law_log an__law_log cd__law_log ct__law_log), sl__law_log⟩)
    (c__law_log : PySem.W.codeIn K cd__law_log "_law_log" = true)
    (k__law_log : PySem.W.keepIn K (.ref f__law_log) = true)
    (a__law_calls : PySem.W.nsIn K mainGlobals "_law_calls" = some (some (.ref f__law_calls)))
    (l__law_calls : K.lookup f__law_calls = some ⟨oc__law_calls, od__law_calls, .func (PySem.W.fnOf "_law_calls" "_law_calls" (defArgs sLcs) (defBody sLcs) (defScope sLcs) .none kV__law_calls dc__law_calls pm__law_calls an__law_calls cd__law_calls ct__law_calls), sl__law_calls⟩)
    (c__law_calls : PySem.W.codeIn K cd__law_calls "_law_calls" = true)
    (k__law_calls : PySem.W.keepIn K (.ref f__law_calls) = true)
    (a__law_reach : PySem.W.nsIn K mainGlobals "_law_reach" = some (some (.ref f__law_reach)))
    (l__law_reach : K.lookup f__law_reach = some ⟨oc__law_reach, od__law_reach, .func (PySem.W.fnOf "_law_reach" "_law_reach" (defArgs sLre) (defBody sLre) (defScope sLre) .none kV__law_reach dc__law_reach pm__law_reach an__law_reach cd__law_reach ct__law_reach), sl__law_reach⟩)
    (c__law_reach : PySem.W.codeIn K cd__law_reach "_law_reach" = true)
    (k__law_reach : PySem.W.keepIn K (.ref f__law_reach) = true)
    (a__law_pieces : PySem.W.nsIn K mainGlobals "_law_pieces" = some (some (.ref f__law_pieces)))
    (l__law_pieces : K.lookup f__law_pieces = some ⟨oc__law_pieces, od__law_pieces, .func (PySem.W.fnOf "_law_pieces" "_law_pieces" (defArgs sLpc) (defBody sLpc) (defScope sLpc) .none kV__law_pieces dc__law_pieces pm__law_pieces an__law_pieces cd__law_pieces ct__law_pieces), sl__law_pieces⟩)
    (c__law_pieces : PySem.W.codeIn K cd__law_pieces "_law_pieces" = true)
    (k__law_pieces : PySem.W.keepIn K (.ref f__law_pieces) = true)
    (a__law_top : PySem.W.nsIn K mainGlobals "_law_top" = some (some (.ref f__law_top)))
    (l__law_top : K.lookup f__law_top = some ⟨oc__law_top, od__law_top, .func (PySem.W.fnOf "_law_top" "_law_top" (defArgs sLtop) (defBody sLtop) (defScope sLtop) .none kV__law_top dc__law_top pm__law_top an__law_top cd__law_top ct__law_top), sl__law_top⟩)
    (c__law_top : PySem.W.codeIn K cd__law_top "_law_top" = true)
    (k__law_top : PySem.W.keepIn K (.ref f__law_top) = true)
    (a__law_word_of : PySem.W.nsIn K mainGlobals "_law_word_of" = some (some (.ref f__law_word_of)))
    (l__law_word_of : K.lookup f__law_word_of = some ⟨oc__law_word_of, od__law_word_of, .func (PySem.W.fnOf "_law_word_of" "_law_word_of" (defArgs sLwof) (defBody sLwof) (defScope sLwof) .none kV__law_word_of dc__law_word_of pm__law_word_of an__law_word_of cd__law_word_of ct__law_word_of), sl__law_word_of⟩)
    (c__law_word_of : PySem.W.codeIn K cd__law_word_of "_law_word_of" = true)
    (k__law_word_of : PySem.W.keepIn K (.ref f__law_word_of) = true)
    (a__law_tops : PySem.W.nsIn K mainGlobals "_law_tops" = some (some (.ref f__law_tops)))
    (l__law_tops : K.lookup f__law_tops = some ⟨oc__law_tops, od__law_tops, .func (PySem.W.fnOf "_law_tops" "_law_tops" (defArgs sLts) (defBody sLts) (defScope sLts) .none kV__law_tops dc__law_tops pm__law_tops an__law_tops cd__law_tops ct__law_tops), sl__law_tops⟩)
    (c__law_tops : PySem.W.codeIn K cd__law_tops "_law_tops" = true)
    (k__law_tops : PySem.W.keepIn K (.ref f__law_tops) = true)
    (a__law_form : PySem.W.nsIn K mainGlobals "_law_form" = some (some (.ref f__law_form)))
    (l__law_form : K.lookup f__law_form = some ⟨oc__law_form, od__law_form, .func (PySem.W.fnOf "_law_form" "_law_form" (defArgs sLf) (defBody sLf) (defScope sLf) .none kV__law_form dc__law_form pm__law_form an__law_form cd__law_form ct__law_form), sl__law_form⟩)
    (c__law_form : PySem.W.codeIn K cd__law_form "_law_form" = true)
    (k__law_form : PySem.W.keepIn K (.ref f__law_form) = true)
    (a__law_blocks : PySem.W.nsIn K mainGlobals "_law_blocks" = some (some (.ref f__law_blocks)))
    (l__law_blocks : K.lookup f__law_blocks = some ⟨oc__law_blocks, od__law_blocks, .func (PySem.W.fnOf "_law_blocks" "_law_blocks" (defArgs sLbk) (defBody sLbk) (defScope sLbk) .none kV__law_blocks dc__law_blocks pm__law_blocks an__law_blocks cd__law_blocks ct__law_blocks), sl__law_blocks⟩)
    (c__law_blocks : PySem.W.codeIn K cd__law_blocks "_law_blocks" = true)
    (k__law_blocks : PySem.W.keepIn K (.ref f__law_blocks) = true)
    (a__law_block_rooms : PySem.W.nsIn K mainGlobals "_law_block_rooms" = some (some (.ref f__law_block_rooms)))
    (l__law_block_rooms : K.lookup f__law_block_rooms = some ⟨oc__law_block_rooms, od__law_block_rooms, .func (PySem.W.fnOf "_law_block_rooms" "_law_block_rooms" (defArgs sLbr) (defBody sLbr) (defScope sLbr) .none kV__law_block_rooms dc__law_block_rooms pm__law_block_rooms an__law_block_rooms cd__law_block_rooms ct__law_block_rooms), sl__law_block_rooms⟩)
    (c__law_block_rooms : PySem.W.codeIn K cd__law_block_rooms "_law_block_rooms" = true)
    (k__law_block_rooms : PySem.W.keepIn K (.ref f__law_block_rooms) = true)
    (a__law_forced : PySem.W.nsIn K mainGlobals "_law_forced" = some (some (.ref f__law_forced)))
    (l__law_forced : K.lookup f__law_forced = some ⟨oc__law_forced, od__law_forced, .func (PySem.W.fnOf "_law_forced" "_law_forced" (defArgs sLfc) (defBody sLfc) (defScope sLfc) .none kV__law_forced dc__law_forced pm__law_forced an__law_forced cd__law_forced ct__law_forced), sl__law_forced⟩)
    (c__law_forced : PySem.W.codeIn K cd__law_forced "_law_forced" = true)
    (k__law_forced : PySem.W.keepIn K (.ref f__law_forced) = true)
    (a__law_chains : PySem.W.nsIn K mainGlobals "_law_chains" = some (some (.ref f__law_chains)))
    (l__law_chains : K.lookup f__law_chains = some ⟨oc__law_chains, od__law_chains, .func (PySem.W.fnOf "_law_chains" "_law_chains" (defArgs sLch) (defBody sLch) (defScope sLch) .none kV__law_chains dc__law_chains pm__law_chains an__law_chains cd__law_chains ct__law_chains), sl__law_chains⟩)
    (c__law_chains : PySem.W.codeIn K cd__law_chains "_law_chains" = true)
    (k__law_chains : PySem.W.keepIn K (.ref f__law_chains) = true)
    (a_blocks : PySem.W.nsIn K mainGlobals "blocks" = some (some (.ref f_blocks)))
    (l_blocks : K.lookup f_blocks = some ⟨oc_blocks, od_blocks, .func (PySem.W.fnOf "blocks" "blocks" (defArgs sBlc) (defBody sBlc) (defScope sBlc) .none kV_blocks dc_blocks pm_blocks an_blocks cd_blocks ct_blocks), sl_blocks⟩)
    (c_blocks : PySem.W.codeIn K cd_blocks "blocks" = true)
    (k_blocks : PySem.W.keepIn K (.ref f_blocks) = true)
    (a_block_rooms : PySem.W.nsIn K mainGlobals "block_rooms" = some (some (.ref f_block_rooms)))
    (l_block_rooms : K.lookup f_block_rooms = some ⟨oc_block_rooms, od_block_rooms, .func (PySem.W.fnOf "block_rooms" "block_rooms" (defArgs sBrm) (defBody sBrm) (defScope sBrm) .none kV_block_rooms dc_block_rooms pm_block_rooms an_block_rooms cd_block_rooms ct_block_rooms), sl_block_rooms⟩)
    (c_block_rooms : PySem.W.codeIn K cd_block_rooms "block_rooms" = true)
    (k_block_rooms : PySem.W.keepIn K (.ref f_block_rooms) = true)
    (a_is_beside : PySem.W.nsIn K mainGlobals "is_beside" = some (some (.ref f_is_beside)))
    (l_is_beside : K.lookup f_is_beside = some ⟨oc_is_beside, od_is_beside, .func (PySem.W.fnOf "is_beside" "is_beside" (defArgs sIb) (defBody sIb) (defScope sIb) .none kV_is_beside dc_is_beside pm_is_beside an_is_beside cd_is_beside ct_is_beside), sl_is_beside⟩)
    (c_is_beside : PySem.W.codeIn K cd_is_beside "is_beside" = true)
    (k_is_beside : PySem.W.keepIn K (.ref f_is_beside) = true)
    (a_pairs_between : PySem.W.nsIn K mainGlobals "pairs_between" = some (some (.ref f_pairs_between)))
    (l_pairs_between : K.lookup f_pairs_between = some ⟨oc_pairs_between, od_pairs_between, .func (PySem.W.fnOf "pairs_between" "pairs_between" (defArgs sPb) (defBody sPb) (defScope sPb) .none kV_pairs_between dc_pairs_between pm_pairs_between an_pairs_between cd_pairs_between ct_pairs_between), sl_pairs_between⟩)
    (c_pairs_between : PySem.W.codeIn K cd_pairs_between "pairs_between" = true)
    (k_pairs_between : PySem.W.keepIn K (.ref f_pairs_between) = true)
    (a_forced_pairs : PySem.W.nsIn K mainGlobals "forced_pairs" = some (some (.ref f_forced_pairs)))
    (l_forced_pairs : K.lookup f_forced_pairs = some ⟨oc_forced_pairs, od_forced_pairs, .func (PySem.W.fnOf "forced_pairs" "forced_pairs" (defArgs sFrp) (defBody sFrp) (defScope sFrp) .none kV_forced_pairs dc_forced_pairs pm_forced_pairs an_forced_pairs cd_forced_pairs ct_forced_pairs), sl_forced_pairs⟩)
    (c_forced_pairs : PySem.W.codeIn K cd_forced_pairs "forced_pairs" = true)
    (k_forced_pairs : PySem.W.keepIn K (.ref f_forced_pairs) = true)
    (a_linked_rooms : PySem.W.nsIn K mainGlobals "linked_rooms" = some (some (.ref f_linked_rooms)))
    (l_linked_rooms : K.lookup f_linked_rooms = some ⟨oc_linked_rooms, od_linked_rooms, .func (PySem.W.fnOf "linked_rooms" "linked_rooms" (defArgs sLnk) (defBody sLnk) (defScope sLnk) .none kV_linked_rooms dc_linked_rooms pm_linked_rooms an_linked_rooms cd_linked_rooms ct_linked_rooms), sl_linked_rooms⟩)
    (c_linked_rooms : PySem.W.codeIn K cd_linked_rooms "linked_rooms" = true)
    (k_linked_rooms : PySem.W.keepIn K (.ref f_linked_rooms) = true)
    (a_sure_pairs : PySem.W.nsIn K mainGlobals "sure_pairs" = some (some (.ref f_sure_pairs)))
    (l_sure_pairs : K.lookup f_sure_pairs = some ⟨oc_sure_pairs, od_sure_pairs, .func (PySem.W.fnOf "sure_pairs" "sure_pairs" (defArgs sSur) (defBody sSur) (defScope sSur) .none kV_sure_pairs dc_sure_pairs pm_sure_pairs an_sure_pairs cd_sure_pairs ct_sure_pairs), sl_sure_pairs⟩)
    (c_sure_pairs : PySem.W.codeIn K cd_sure_pairs "sure_pairs" = true)
    (k_sure_pairs : PySem.W.keepIn K (.ref f_sure_pairs) = true)
    (a__law_same : PySem.W.nsIn K mainGlobals "_law_same" = some (some (.ref f__law_same)))
    (l__law_same : K.lookup f__law_same = some ⟨oc__law_same, od__law_same, .func (PySem.W.fnOf "_law_same" "_law_same" (defArgs sSame) (defBody sSame) (defScope sSame) .none kV__law_same dc__law_same pm__law_same an__law_same cd__law_same ct__law_same), sl__law_same⟩)
    (c__law_same : PySem.W.codeIn K cd__law_same "_law_same" = true)
    (k__law_same : PySem.W.keepIn K (.ref f__law_same) = true)
    (a__law_parts : PySem.W.nsIn K mainGlobals "_law_parts" = some (some (.ref f__law_parts)))
    (l__law_parts : K.lookup f__law_parts = some ⟨oc__law_parts, od__law_parts, .func (PySem.W.fnOf "_law_parts" "_law_parts" (defArgs sLpr) (defBody sLpr) (defScope sLpr) .none kV__law_parts dc__law_parts pm__law_parts an__law_parts cd__law_parts ct__law_parts), sl__law_parts⟩)
    (c__law_parts : PySem.W.codeIn K cd__law_parts "_law_parts" = true)
    (k__law_parts : PySem.W.keepIn K (.ref f__law_parts) = true)
    (a__law_orders : PySem.W.nsIn K mainGlobals "_law_orders" = some (some (.ref f__law_orders)))
    (l__law_orders : K.lookup f__law_orders = some ⟨oc__law_orders, od__law_orders, .func (PySem.W.fnOf "_law_orders" "_law_orders" (defArgs sLor) (defBody sLor) (defScope sLor) .none kV__law_orders dc__law_orders pm__law_orders an__law_orders cd__law_orders ct__law_orders), sl__law_orders⟩)
    (c__law_orders : PySem.W.codeIn K cd__law_orders "_law_orders" = true)
    (k__law_orders : PySem.W.keepIn K (.ref f__law_orders) = true)
    (a__law_same_words : PySem.W.nsIn K mainGlobals "_law_same_words" = some (some (.ref f__law_same_words)))
    (l__law_same_words : K.lookup f__law_same_words = some ⟨oc__law_same_words, od__law_same_words, .func (PySem.W.fnOf "_law_same_words" "_law_same_words" (defArgs sLsw) (defBody sLsw) (defScope sLsw) .none kV__law_same_words dc__law_same_words pm__law_same_words an__law_same_words cd__law_same_words ct__law_same_words), sl__law_same_words⟩)
    (c__law_same_words : PySem.W.codeIn K cd__law_same_words "_law_same_words" = true)
    (k__law_same_words : PySem.W.keepIn K (.ref f__law_same_words) = true)
    (a__law_order_log : PySem.W.nsIn K mainGlobals "_law_order_log" = some (some (.ref f__law_order_log)))
    (l__law_order_log : K.lookup f__law_order_log = some ⟨oc__law_order_log, od__law_order_log, .func (PySem.W.fnOf "_law_order_log" "_law_order_log" (defArgs sOlg) (defBody sOlg) (defScope sOlg) .none kV__law_order_log dc__law_order_log pm__law_order_log an__law_order_log cd__law_order_log ct__law_order_log), sl__law_order_log⟩)
    (c__law_order_log : PySem.W.codeIn K cd__law_order_log "_law_order_log" = true)
    (k__law_order_log : PySem.W.keepIn K (.ref f__law_order_log) = true)
    (a__law_never_after : PySem.W.nsIn K mainGlobals "_law_never_after" = some (some (.ref f__law_never_after)))
    (l__law_never_after : K.lookup f__law_never_after = some ⟨oc__law_never_after, od__law_never_after, .func (PySem.W.fnOf "_law_never_after" "_law_never_after" (defArgs sLna) (defBody sLna) (defScope sLna) .none kV__law_never_after dc__law_never_after pm__law_never_after an__law_never_after cd__law_never_after ct__law_never_after), sl__law_never_after⟩)
    (c__law_never_after : PySem.W.codeIn K cd__law_never_after "_law_never_after" = true)
    (k__law_never_after : PySem.W.keepIn K (.ref f__law_never_after) = true)
    (a__law_always : PySem.W.nsIn K mainGlobals "_law_always" = some (some (.ref f__law_always)))
    (l__law_always : K.lookup f__law_always = some ⟨oc__law_always, od__law_always, .func (PySem.W.fnOf "_law_always" "_law_always" (defArgs sLal) (defBody sLal) (defScope sLal) .none kV__law_always dc__law_always pm__law_always an__law_always cd__law_always ct__law_always), sl__law_always⟩)
    (c__law_always : PySem.W.codeIn K cd__law_always "_law_always" = true)
    (k__law_always : PySem.W.keepIn K (.ref f__law_always) = true)
    (a_law : PySem.W.nsIn K mainGlobals "law" = some (some (.ref f_law)))
    (l_law : K.lookup f_law = some ⟨oc_law, od_law, .func (PySem.W.fnOf "law" "law" (defArgs sLaw) (defBody sLaw) (defScope sLaw) .none kV_law dc_law pm_law an_law cd_law ct_law), sl_law⟩)
    (c_law : PySem.W.codeIn K cd_law "law" = true)
    (k_law : PySem.W.keepIn K (.ref f_law) = true)
    (a_m_init_ : PySem.W.findIn K (.ref C) "__init__" = some (some (.ref f_m_init_)))
    (l_m_init_ : K.lookup f_m_init_ = some ⟨oc_m_init_, od_m_init_, .func (PySem.W.fnOf "__init__" "House.__init__" (defArgs sHinit) (defBody sHinit) (defScope sHinit) .none kV_m_init_ dc_m_init_ pm_m_init_ an_m_init_ cd_m_init_ ct_m_init_), sl_m_init_⟩)
    (c_m_init_ : PySem.W.codeIn K cd_m_init_ "House.__init__" = true)
    (k_m_init_ : PySem.W.keepIn K (.ref f_m_init_) = true)
    (i_m_init_ : PySem.W.isFn K (.ref f_m_init_) = true)
    (a_mdoors : PySem.W.findIn K (.ref C) "doors" = some (some (.ref f_mdoors)))
    (l_mdoors : K.lookup f_mdoors = some ⟨oc_mdoors, od_mdoors, .func (PySem.W.fnOf "doors" "House.doors" (defArgs sHdoors) (defBody sHdoors) (defScope sHdoors) .none kV_mdoors dc_mdoors pm_mdoors an_mdoors cd_mdoors ct_mdoors), sl_mdoors⟩)
    (c_mdoors : PySem.W.codeIn K cd_mdoors "House.doors" = true)
    (k_mdoors : PySem.W.keepIn K (.ref f_mdoors) = true)
    (i_mdoors : PySem.W.isFn K (.ref f_mdoors) = true)
    (a_mneighbours : PySem.W.findIn K (.ref C) "neighbours" = some (some (.ref f_mneighbours)))
    (l_mneighbours : K.lookup f_mneighbours = some ⟨oc_mneighbours, od_mneighbours, .func (PySem.W.fnOf "neighbours" "House.neighbours" (defArgs sHnear) (defBody sHnear) (defScope sHnear) .none kV_mneighbours dc_mneighbours pm_mneighbours an_mneighbours cd_mneighbours ct_mneighbours), sl_mneighbours⟩)
    (c_mneighbours : PySem.W.codeIn K cd_mneighbours "House.neighbours" = true)
    (k_mneighbours : PySem.W.keepIn K (.ref f_mneighbours) = true)
    (i_mneighbours : PySem.W.isFn K (.ref f_mneighbours) = true)
    (n_rooms : PySem.W.findIn K (.ref C) "rooms" = some none)
    (n__doors : PySem.W.findIn K (.ref C) "_doors" = some none)
    (n__near : PySem.W.findIn K (.ref C) "_near" = some none)
    (cr1 : PySem.W.readsIn K C (.type "type") = true)
    (cr2 : PySem.W.specialIn K (.ref C) "__getattribute__" = some (some (.builtin "type.__getattribute__")))
    (cv_MOST_ROOMS : PySem.W.findCls K (.ref C) (.type "type") "MOST_ROOMS" = some (.val (.int 12 tk_MOST_ROOMS)))
    (z_len : PySem.W.nsIn K mainGlobals "len" = some none)
    (z_abs : PySem.W.nsIn K mainGlobals "abs" = some none)
    (z_int : PySem.W.nsIn K mainGlobals "int" = some none)
    (z_range : PySem.W.nsIn K mainGlobals "range" = some none)
    (z_list : PySem.W.nsIn K mainGlobals "list" = some none)
    (z_tuple : PySem.W.nsIn K mainGlobals "tuple" = some none)
    (z_min : PySem.W.nsIn K mainGlobals "min" = some none)
    (z_max : PySem.W.nsIn K mainGlobals "max" = some none)
    (z_sorted : PySem.W.nsIn K mainGlobals "sorted" = some none)
    (z_isinstance : PySem.W.nsIn K mainGlobals "isinstance" = some none)
    (z_bool : PySem.W.nsIn K mainGlobals "bool" = some none)
    (z_str : PySem.W.nsIn K mainGlobals "str" = some none)
    (z_set : PySem.W.nsIn K mainGlobals "set" = some none)
    (z_enumerate : PySem.W.nsIn K mainGlobals "enumerate" = some none)
    (z_any : PySem.W.nsIn K mainGlobals "any" = some none) :
    ∃ fd : FuncData, (∀ (s : Shared) (v : Value), BindsTo s fd ⟨[v], []⟩ [("script", v)]) ∧ ∀ base : Heap, K.In base → base.Ns mainGlobals mg → FnOk l.prog w K mg base CX0 31 fa fd ["script"] (spLaw K) := by
  have e := hfa.symm.trans (PySem.W.mg_of X G a_law)
  cases e
  have T : Bi mg := ⟨PySem.W.mg_none_of X G z_len, PySem.W.mg_none_of X G z_abs, PySem.W.mg_none_of X G z_int, PySem.W.mg_none_of X G z_range, PySem.W.mg_none_of X G z_list, PySem.W.mg_none_of X G z_tuple, PySem.W.mg_none_of X G z_min, PySem.W.mg_none_of X G z_max, PySem.W.mg_none_of X G z_sorted, PySem.W.mg_none_of X G z_isinstance, PySem.W.mg_none_of X G z_bool, PySem.W.mg_none_of X G z_str, PySem.W.mg_none_of X G z_set, PySem.W.mg_none_of X G z_enumerate⟩
  have F_check_room_count := fun_mk (st := sRoom) l_check_room_count c_check_room_count k_check_room_count
  have at_check_room_count := PySem.W.mg_of X G a_check_room_count
  have b_check_room_count := F_check_room_count.binds (ps := ["rooms"]) fun _ _ _ _ _ _ us hl => match us, hl with | [_], _ => rfl
  have F_checked_doors := fun_mk (st := sChk) l_checked_doors c_checked_doors k_checked_doors
  have at_checked_doors := PySem.W.mg_of X G a_checked_doors
  have b_checked_doors := F_checked_doors.binds (ps := ["rooms", "doors"]) fun _ _ _ _ _ _ us hl => match us, hl with | [_, _], _ => rfl
  have F__law_cell := fun_mk (st := sCell) l__law_cell c__law_cell k__law_cell
  have at__law_cell := PySem.W.mg_of X G a__law_cell
  have b__law_cell := F__law_cell.binds (ps := ["script", "k"]) fun _ _ _ _ _ _ us hl => match us, hl with | [_, _], _ => rfl
  have F__law_numbers := fun_mk (st := sNum) l__law_numbers c__law_numbers k__law_numbers
  have at__law_numbers := PySem.W.mg_of X G a__law_numbers
  have b__law_numbers := F__law_numbers.binds (ps := ["cell", "count"]) fun _ _ _ _ _ _ us hl => match us, hl with | [_, _], _ => rfl
  have F__law_names := fun_mk (st := sNam) l__law_names c__law_names k__law_names
  have at__law_names := PySem.W.mg_of X G a__law_names
  have b__law_names := F__law_names.binds (ps := ["numbers", "at", "rooms"]) fun _ _ _ _ _ _ us hl => match us, hl with | [_, _, _], _ => rfl
  have F__law_joined := fun_mk (st := sJnd) l__law_joined c__law_joined k__law_joined
  have at__law_joined := PySem.W.mg_of X G a__law_joined
  have b__law_joined := F__law_joined.binds (ps := ["kind", "a", "b", "rooms", "number", "parent"]) fun _ _ _ _ _ _ us hl => match us, hl with | [_, _, _, _, _, _], _ => rfl
  have F__law_doors := fun_mk (st := sDrs) l__law_doors c__law_doors k__law_doors
  have at__law_doors := PySem.W.mg_of X G a__law_doors
  have b__law_doors := F__law_doors.binds (ps := ["numbers", "rooms"]) fun _ _ _ _ _ _ us hl => match us, hl with | [_, _], _ => rfl
  have F__law_word := fun_mk (st := sLwd) l__law_word c__law_word k__law_word
  have at__law_word := PySem.W.mg_of X G a__law_word
  have b__law_word := F__law_word.binds (ps := ["a", "b"]) fun _ _ _ _ _ _ us hl => match us, hl with | [_, _], _ => rfl
  have F__law_words := fun_mk (st := sLws) l__law_words c__law_words k__law_words
  have at__law_words := PySem.W.mg_of X G a__law_words
  have b__law_words := F__law_words.binds (ps := ["numbers", "at", "many"]) fun _ _ _ _ _ _ us hl => match us, hl with | [_, _, _], _ => rfl
  have F__law_log := fun_mk (st := sLlg) l__law_log c__law_log k__law_log
  have at__law_log := PySem.W.mg_of X G a__law_log
  have b__law_log := F__law_log.binds (ps := ["numbers", "at", "many", "rooms", "words"]) fun _ _ _ _ _ _ us hl => match us, hl with | [_, _, _, _, _], _ => rfl
  have F__law_calls := fun_mk (st := sLcs) l__law_calls c__law_calls k__law_calls
  have at__law_calls := PySem.W.mg_of X G a__law_calls
  have b__law_calls := F__law_calls.binds (ps := ["script", "at", "rooms", "words", "most"]) fun _ _ _ _ _ _ us hl => match us, hl with | [_, _, _, _, _], _ => rfl
  have F__law_reach := fun_mk (st := sLre) l__law_reach c__law_reach k__law_reach
  have at__law_reach := PySem.W.mg_of X G a__law_reach
  have b__law_reach := F__law_reach.binds (ps := ["doors", "start", "inside"]) fun _ _ _ _ _ _ us hl => match us, hl with | [_, _, _], _ => rfl
  have F__law_pieces := fun_mk (st := sLpc) l__law_pieces c__law_pieces k__law_pieces
  have at__law_pieces := PySem.W.mg_of X G a__law_pieces
  have b__law_pieces := F__law_pieces.binds (ps := ["doors", "rooms"]) fun _ _ _ _ _ _ us hl => match us, hl with | [_, _], _ => rfl
  have F__law_top := fun_mk (st := sLtop) l__law_top c__law_top k__law_top
  have at__law_top := PySem.W.mg_of X G a__law_top
  have b__law_top := F__law_top.binds (ps := ["log", "rooms"]) fun _ _ _ _ _ _ us hl => match us, hl with | [_, _], _ => rfl
  have F__law_word_of := fun_mk (st := sLwof) l__law_word_of c__law_word_of k__law_word_of
  have at__law_word_of := PySem.W.mg_of X G a__law_word_of
  have b__law_word_of := F__law_word_of.binds (ps := ["log", "rooms"]) fun _ _ _ _ _ _ us hl => match us, hl with | [_, _], _ => rfl
  have F__law_tops := fun_mk (st := sLts) l__law_tops c__law_tops k__law_tops
  have at__law_tops := PySem.W.mg_of X G a__law_tops
  have b__law_tops := F__law_tops.binds (ps := ["doors", "log", "part", "word"]) fun _ _ _ _ _ _ us hl => match us, hl with | [_, _, _, _], _ => rfl
  have F__law_form := fun_mk (st := sLf) l__law_form c__law_form k__law_form
  have at__law_form := PySem.W.mg_of X G a__law_form
  have b__law_form := F__law_form.binds (ps := ["doors", "log", "rooms"]) fun _ _ _ _ _ _ us hl => match us, hl with | [_, _, _], _ => rfl
  have F__law_blocks := fun_mk (st := sLbk) l__law_blocks c__law_blocks k__law_blocks
  have at__law_blocks := PySem.W.mg_of X G a__law_blocks
  have b__law_blocks := F__law_blocks.binds (ps := ["form"]) fun _ _ _ _ _ _ us hl => match us, hl with | [_], _ => rfl
  have F__law_block_rooms := fun_mk (st := sLbr) l__law_block_rooms c__law_block_rooms k__law_block_rooms
  have at__law_block_rooms := PySem.W.mg_of X G a__law_block_rooms
  have b__law_block_rooms := F__law_block_rooms.binds (ps := ["block"]) fun _ _ _ _ _ _ us hl => match us, hl with | [_], _ => rfl
  have F__law_forced := fun_mk (st := sLfc) l__law_forced c__law_forced k__law_forced
  have at__law_forced := PySem.W.mg_of X G a__law_forced
  have b__law_forced := F__law_forced.binds (ps := ["doors", "form"]) fun _ _ _ _ _ _ us hl => match us, hl with | [_, _], _ => rfl
  have F__law_chains := fun_mk (st := sLch) l__law_chains c__law_chains k__law_chains
  have at__law_chains := PySem.W.mg_of X G a__law_chains
  have b__law_chains := F__law_chains.binds (ps := ["pairs", "rooms"]) fun _ _ _ _ _ _ us hl => match us, hl with | [_, _], _ => rfl
  have F_blocks := fun_mk (st := sBlc) l_blocks c_blocks k_blocks
  have at_blocks := PySem.W.mg_of X G a_blocks
  have b_blocks := F_blocks.binds (ps := ["form"]) fun _ _ _ _ _ _ us hl => match us, hl with | [_], _ => rfl
  have F_block_rooms := fun_mk (st := sBrm) l_block_rooms c_block_rooms k_block_rooms
  have at_block_rooms := PySem.W.mg_of X G a_block_rooms
  have b_block_rooms := F_block_rooms.binds (ps := ["block"]) fun _ _ _ _ _ _ us hl => match us, hl with | [_], _ => rfl
  have F_is_beside := fun_mk (st := sIb) l_is_beside c_is_beside k_is_beside
  have at_is_beside := PySem.W.mg_of X G a_is_beside
  have b_is_beside := F_is_beside.binds (ps := ["house", "room", "rooms"]) fun _ _ _ _ _ _ us hl => match us, hl with | [_, _, _], _ => rfl
  have F_pairs_between := fun_mk (st := sPb) l_pairs_between c_pairs_between k_pairs_between
  have at_pairs_between := PySem.W.mg_of X G a_pairs_between
  have b_pairs_between := F_pairs_between.binds (ps := ["house", "inside", "outer"]) fun _ _ _ _ _ _ us hl => match us, hl with | [_, _, _], _ => rfl
  have F_forced_pairs := fun_mk (st := sFrp) l_forced_pairs c_forced_pairs k_forced_pairs
  have at_forced_pairs := PySem.W.mg_of X G a_forced_pairs
  have b_forced_pairs := F_forced_pairs.binds (ps := ["house", "form"]) fun _ _ _ _ _ _ us hl => match us, hl with | [_, _], _ => rfl
  have F_linked_rooms := fun_mk (st := sLnk) l_linked_rooms c_linked_rooms k_linked_rooms
  have at_linked_rooms := PySem.W.mg_of X G a_linked_rooms
  have b_linked_rooms := F_linked_rooms.binds (ps := ["pairs", "start"]) fun _ _ _ _ _ _ us hl => match us, hl with | [_, _], _ => rfl
  have F_sure_pairs := fun_mk (st := sSur) l_sure_pairs c_sure_pairs k_sure_pairs
  have at_sure_pairs := PySem.W.mg_of X G a_sure_pairs
  have b_sure_pairs := F_sure_pairs.binds (ps := ["house", "form"]) fun _ _ _ _ _ _ us hl => match us, hl with | [_, _], _ => rfl
  have F__law_same := fun_mk (st := sSame) l__law_same c__law_same k__law_same
  have at__law_same := PySem.W.mg_of X G a__law_same
  have b__law_same := F__law_same.binds (ps := ["got", "due"]) fun _ _ _ _ _ _ us hl => match us, hl with | [_, _], _ => rfl
  have F__law_parts := fun_mk (st := sLpr) l__law_parts c__law_parts k__law_parts
  have at__law_parts := PySem.W.mg_of X G a__law_parts
  have b__law_parts := F__law_parts.binds (ps := ["doors", "rooms"]) fun _ _ _ _ _ _ us hl => match us, hl with | [_, _], _ => rfl
  have F__law_orders := fun_mk (st := sLor) l__law_orders c__law_orders k__law_orders
  have at__law_orders := PySem.W.mg_of X G a__law_orders
  have b__law_orders := F__law_orders.binds (ps := ["rooms"]) fun _ _ _ _ _ _ us hl => match us, hl with | [_], _ => rfl
  have F__law_same_words := fun_mk (st := sLsw) l__law_same_words c__law_same_words k__law_same_words
  have at__law_same_words := PySem.W.mg_of X G a__law_same_words
  have b__law_same_words := F__law_same_words.binds (ps := ["parts", "log", "calls"]) fun _ _ _ _ _ _ us hl => match us, hl with | [_, _, _], _ => rfl
  have F__law_order_log := fun_mk (st := sOlg) l__law_order_log c__law_order_log k__law_order_log
  have at__law_order_log := PySem.W.mg_of X G a__law_order_log
  have b__law_order_log := F__law_order_log.binds (ps := ["words", "order"]) fun _ _ _ _ _ _ us hl => match us, hl with | [_, _], _ => rfl
  have F__law_never_after := fun_mk (st := sLna) l__law_never_after c__law_never_after k__law_never_after
  have at__law_never_after := PySem.W.mg_of X G a__law_never_after
  have b__law_never_after := F__law_never_after.binds (ps := ["orders", "a", "b"]) fun _ _ _ _ _ _ us hl => match us, hl with | [_, _, _], _ => rfl
  have F__law_always := fun_mk (st := sLal) l__law_always c__law_always k__law_always
  have at__law_always := PySem.W.mg_of X G a__law_always
  have b__law_always := F__law_always.binds (ps := ["doors", "rooms", "log"]) fun _ _ _ _ _ _ us hl => match us, hl with | [_, _, _], _ => rfl
  have F_law := fun_mk (st := sLaw) l_law c_law k_law
  have at_law := PySem.W.mg_of X G a_law
  have F_m_init_ := fun_mk (st := sHinit) l_m_init_ c_m_init_ k_m_init_
  have b_m_init_ := F_m_init_.binds (ps := ["self", "rooms", "doors"]) fun _ _ _ _ _ _ us hl => match us, hl with | [_, _, _], _ => rfl
  have mk_ : Mk K C f_m_init_ := ⟨mk, a_m_init_, i_m_init_, kc⟩
  have F_mdoors := fun_mk (st := sHdoors) l_mdoors c_mdoors k_mdoors
  have b_mdoors := F_mdoors.binds (ps := ["self"]) fun _ _ _ _ _ _ us hl => match us, hl with | [_], _ => rfl
  have mt_mdoors : Meth K C "doors" f_mdoors := ⟨a_mdoors, i_mdoors, k_mdoors⟩
  have F_mneighbours := fun_mk (st := sHnear) l_mneighbours c_mneighbours k_mneighbours
  have b_mneighbours := F_mneighbours.binds (ps := ["self", "room"]) fun _ _ _ _ _ _ us hl => match us, hl with | [_, _], _ => rfl
  have mt_mneighbours : Meth K C "neighbours" f_mneighbours := ⟨a_mneighbours, i_mneighbours, k_mneighbours⟩
  have U : Hs K mg C := ⟨⟨pg, hd, po, sa⟩, n_rooms, n__doors, n__near, PySem.W.mg_of X G aC, ⟨.type "type", _, ⟨cr1, cr2⟩, ⟨cv_MOST_ROOMS, ⟨_, rfl⟩⟩⟩⟩
  refine ⟨PySem.W.fnOf "law" "law" (defArgs sLaw) (defBody sLaw) (defScope sLaw) .none kV_law dc_law pm_law an_law cd_law ct_law, fun s v => .of_eq rfl, fun base _ _ => ?_⟩
  have D_check_room_count : Df l.prog w K mg base "check_room_count" _ 1 spRoom _ _ := ⟨at_check_room_count, k_check_room_count, b_check_room_count, ok_room F_check_room_count U⟩
  have D_checked_doors : Df l.prog w K mg base "checked_doors" _ 1 spChk _ _ := ⟨at_checked_doors, k_checked_doors, b_checked_doors, ok_chk F_checked_doors T⟩
  have GI := ok_hinit (P := l.prog) (w := w) (base := base) F_m_init_ T U D_check_room_count D_checked_doors
  have M_doors : Md l.prog w K mg base C "doors" _ 1 (spHdoors C) _ _ := ⟨mt_mdoors, b_mdoors, ok_hdoors F_mdoors T U⟩
  have GN := ok_hnear (P := l.prog) (w := w) (base := base) F_mneighbours T U
  have M_neighbours : Md l.prog w K mg base C "neighbours" _ 1 (spHnear C) _ _ := ⟨mt_mneighbours, b_mneighbours, GN⟩
  have D__law_cell : Df l.prog w K mg base "_law_cell" _ 1 (spCell K) _ _ := ⟨at__law_cell, k__law_cell, b__law_cell, ok_cell F__law_cell T⟩
  have D__law_numbers : Df l.prog w K mg base "_law_numbers" _ 1 (spNum K) _ _ := ⟨at__law_numbers, k__law_numbers, b__law_numbers, ok_num F__law_numbers T⟩
  have D__law_names : Df l.prog w K mg base "_law_names" _ 1 (spNam K) _ _ := ⟨at__law_names, k__law_names, b__law_names, ok_nam F__law_names T⟩
  have D__law_joined : Df l.prog w K mg base "_law_joined" _ 1 spJnd _ _ := ⟨at__law_joined, k__law_joined, b__law_joined, ok_jnd F__law_joined T⟩
  have D__law_doors : Df l.prog w K mg base "_law_doors" _ 2 (spDrs K) _ _ := ⟨at__law_doors, k__law_doors, b__law_doors, ok_drs F__law_doors T D__law_names D__law_joined⟩
  have D__law_word : Df l.prog w K mg base "_law_word" _ 1 spLwd _ _ := ⟨at__law_word, k__law_word, b__law_word, ok_lwd F__law_word T⟩
  have D__law_words : Df l.prog w K mg base "_law_words" _ 2 (spLws K) _ _ := ⟨at__law_words, k__law_words, b__law_words, ok_lws F__law_words T D__law_word⟩
  have D__law_log : Df l.prog w K mg base "_law_log" _ 1 (spLlg K) _ _ := ⟨at__law_log, k__law_log, b__law_log, ok_llg F__law_log T⟩
  have D__law_calls : Df l.prog w K mg base "_law_calls" _ 2 (spLcs K) _ _ := ⟨at__law_calls, k__law_calls, b__law_calls, ok_lcs F__law_calls T D__law_cell⟩
  have D__law_reach : Df l.prog w K mg base "_law_reach" _ 1 (spLre K) _ _ := ⟨at__law_reach, k__law_reach, b__law_reach, ok_lre F__law_reach T⟩
  have D__law_pieces : Df l.prog w K mg base "_law_pieces" _ 2 (spLpc K) _ _ := ⟨at__law_pieces, k__law_pieces, b__law_pieces, ok_lpc F__law_pieces T D__law_reach⟩
  have D__law_top : Df l.prog w K mg base "_law_top" _ 1 (spTopR K optR) _ _ := ⟨at__law_top, k__law_top, b__law_top, ok_ltop F__law_top⟩
  have D__law_word_of : Df l.prog w K mg base "_law_word_of" _ 1 (spTopR K optW) _ _ := ⟨at__law_word_of, k__law_word_of, b__law_word_of, ok_lwof F__law_word_of⟩
  have D__law_tops : Df l.prog w K mg base "_law_tops" _ 15 (spLts 12) _ _ := ⟨at__law_tops, k__law_tops, b__law_tops, ok_lts F__law_tops T b__law_tops at__law_tops D__law_pieces D__law_top D__law_word_of 12⟩
  have D__law_form : Df l.prog w K mg base "_law_form" _ 29 (spLf 12) _ _ := ⟨at__law_form, k__law_form, b__law_form, ok_lf F__law_form T b__law_form at__law_form D__law_pieces D__law_tops D__law_word_of 12⟩
  have D__law_blocks : Df l.prog w K mg base "_law_blocks" _ 15 (spBlc 13) _ _ := ⟨at__law_blocks, k__law_blocks, b__law_blocks, ok_lbk F__law_blocks T b__law_blocks at__law_blocks 13⟩
  have D__law_block_rooms : Df l.prog w K mg base "_law_block_rooms" _ 14 (spLbr 12) _ _ := ⟨at__law_block_rooms, k__law_block_rooms, b__law_block_rooms, ok_lbr F__law_block_rooms T b__law_block_rooms at__law_block_rooms 12⟩
  have D__law_forced : Df l.prog w K mg base "_law_forced" _ 16 spLfc _ _ := ⟨at__law_forced, k__law_forced, b__law_forced, ok_lfc F__law_forced T D__law_blocks D__law_block_rooms⟩
  have D__law_chains : Df l.prog w K mg base "_law_chains" _ 1 spLch _ _ := ⟨at__law_chains, k__law_chains, b__law_chains, ok_lch F__law_chains T⟩
  have D_blocks : Df l.prog w K mg base "blocks" _ 15 (spBlc 13) _ _ := ⟨at_blocks, k_blocks, b_blocks, ok_blc F_blocks T b_blocks at_blocks 13⟩
  have D_block_rooms : Df l.prog w K mg base "block_rooms" _ 16 spBrm _ _ := ⟨at_block_rooms, k_block_rooms, b_block_rooms, ok_brm F_block_rooms T D_blocks⟩
  have D_is_beside : Df l.prog w K mg base "is_beside" _ 2 (spIb C) _ _ := ⟨at_is_beside, k_is_beside, b_is_beside, ok_ib F_is_beside T U (PySem.W.mg_none_of X G z_any) M_neighbours⟩
  have D_pairs_between : Df l.prog w K mg base "pairs_between" _ 17 (spPb C) _ _ := ⟨at_pairs_between, k_pairs_between, b_pairs_between, ok_pb F_pairs_between T D_block_rooms D_is_beside⟩
  have D_forced_pairs : Df l.prog w K mg base "forced_pairs" _ 18 (spFrp C) _ _ := ⟨at_forced_pairs, k_forced_pairs, b_forced_pairs, ok_frp F_forced_pairs T D_blocks D_pairs_between⟩
  have D_linked_rooms : Df l.prog w K mg base "linked_rooms" _ 1 spLnk _ _ := ⟨at_linked_rooms, k_linked_rooms, b_linked_rooms, ok_lnk F_linked_rooms T⟩
  have D_sure_pairs : Df l.prog w K mg base "sure_pairs" _ 19 (spSur C) _ _ := ⟨at_sure_pairs, k_sure_pairs, b_sure_pairs, ok_sur F_sure_pairs T D_forced_pairs D_linked_rooms⟩
  have D__law_same : Df l.prog w K mg base "_law_same" _ 4 (spSame 3) _ _ := ⟨at__law_same, k__law_same, b__law_same, ok_same F__law_same T b__law_same at__law_same 3⟩
  have D__law_parts : Df l.prog w K mg base "_law_parts" _ 2 spLpr _ _ := ⟨at__law_parts, k__law_parts, b__law_parts, ok_lpr F__law_parts T D__law_reach⟩
  have D__law_orders : Df l.prog w K mg base "_law_orders" _ 6 (spLorC 5) _ _ := ⟨at__law_orders, k__law_orders, b__law_orders, ok_lorC F__law_orders T b__law_orders at__law_orders 5⟩
  have D__law_same_words : Df l.prog w K mg base "_law_same_words" _ 2 spLsw _ _ := ⟨at__law_same_words, k__law_same_words, b__law_same_words, ok_lsw F__law_same_words D__law_word_of⟩
  have D__law_order_log : Df l.prog w K mg base "_law_order_log" _ 1 spOlg _ _ := ⟨at__law_order_log, k__law_order_log, b__law_order_log, ok_olg F__law_order_log T⟩
  have D__law_never_after : Df l.prog w K mg base "_law_never_after" _ 1 spLna _ _ := ⟨at__law_never_after, k__law_never_after, b__law_never_after, ok_lna F__law_never_after⟩
  have D__law_always : Df l.prog w K mg base "_law_always" _ 7 spLal _ _ := ⟨at__law_always, k__law_always, b__law_always, ok_lal F__law_always T D__law_word_of D__law_parts D__law_orders D__law_same_words D__law_order_log D__law_never_after⟩
  exact ok_law F_law T U mk_ GI b_m_init_ M_doors D__law_cell D__law_numbers D__law_doors D__law_words D__law_log D__law_calls D__law_form D__law_forced D__law_chains D_sure_pairs D__law_same D__law_always
theorem walk {l : PySem.W.OpenLaw} {q : Program} {loose : List Str} {XP : (Str → Option Value) → Heap → Prop} {YP : World → Heap → Prop} {d : DefRec} {K : Params → PySem.W.Frag} (hn : l.most = some 63) (hdf : d.params.defaults = [])
    (hY : ∀ (w : World) (h : Heap), YP w h → (K w.params).In h)
    (F : ∀ (w : World) (mg : Str → Option Value) (fa : Addr) (h : Heap), (K w.params).In h → h.Ns mainGlobals mg → mg d.name = some (.ref fa) →
      ∃ fd : FuncData, (∀ (s : Shared) (u : Value), BindsTo s fd ⟨[u], []⟩ [("script", u)]) ∧ ∀ base : Heap, (K w.params).In base → base.Ns mainGlobals mg → FnOk l.prog w (K w.params) mg base CX0 31 fa fd ["script"] (spLaw (K w.params))) :
    PySem.W.WalkO q loose XP YP l.row.toRowW d [] (fun f vs => PySem.call f vs) :=
  L2.walk_of (n := 63) (k := 31) (x := "script") (CX := fun _ => CX0) (sp := fun w => spLaw (K w.params)) hn (by decide) hdf ⟨rfl, by decide, by decide⟩ hY F (fun _ _ a ns hl _ hS => ⟨a, ns, rfl, hS, hl, fun _ => rfl⟩) fun _ _ _ _ _ z => z
end My

open PySem PySem.W PyProof.Rows in
set_option maxRecDepth 100000 in
set_option maxHeartbeats 0 in
theorem PySem.Challenge.cw_callsheard_k36_sure_pairs_holds : PySem.Challenge.rw_callsheard_k36_sure_pairs.Holds := by
  w_on; o_law; k_head; (case hw => w_witness2)
  k_fill
  refine My.walk (l := PySem.Challenge.rw_callsheard_k36_sure_pairs) rfl rfl (fun w h Y => PySem.W.kIn_of Y) ?F
  case F =>
    intro w mg fa h KX G hmg
    refine' My.all_mk KX G hmg ?aC ?pg ?hd ?po ?sa ?mk ?kc ?a_check_room_count ?l_check_room_count ?c_check_room_count ?k_check_room_count ?a_checked_doors ?l_checked_doors ?c_checked_doors ?k_checked_doors ?a__law_cell ?l__law_cell ?c__law_cell ?k__law_cell ?a__law_numbers ?l__law_numbers ?c__law_numbers ?k__law_numbers ?a__law_names ?l__law_names ?c__law_names ?k__law_names ?a__law_joined ?l__law_joined ?c__law_joined ?k__law_joined ?a__law_doors ?l__law_doors ?c__law_doors ?k__law_doors ?a__law_word ?l__law_word ?c__law_word ?k__law_word ?a__law_words ?l__law_words ?c__law_words ?k__law_words ?a__law_log ?l__law_log ?c__law_log ?k__law_log ?a__law_calls ?l__law_calls ?c__law_calls ?k__law_calls ?a__law_reach ?l__law_reach ?c__law_reach ?k__law_reach ?a__law_pieces ?l__law_pieces ?c__law_pieces ?k__law_pieces ?a__law_top ?l__law_top ?c__law_top ?k__law_top ?a__law_word_of ?l__law_word_of ?c__law_word_of ?k__law_word_of ?a__law_tops ?l__law_tops ?c__law_tops ?k__law_tops ?a__law_form ?l__law_form ?c__law_form ?k__law_form ?a__law_blocks ?l__law_blocks ?c__law_blocks ?k__law_blocks ?a__law_block_rooms ?l__law_block_rooms ?c__law_block_rooms ?k__law_block_rooms ?a__law_forced ?l__law_forced ?c__law_forced ?k__law_forced ?a__law_chains ?l__law_chains ?c__law_chains ?k__law_chains ?a_blocks ?l_blocks ?c_blocks ?k_blocks ?a_block_rooms ?l_block_rooms ?c_block_rooms ?k_block_rooms ?a_is_beside ?l_is_beside ?c_is_beside ?k_is_beside ?a_pairs_between ?l_pairs_between ?c_pairs_between ?k_pairs_between ?a_forced_pairs ?l_forced_pairs ?c_forced_pairs ?k_forced_pairs ?a_linked_rooms ?l_linked_rooms ?c_linked_rooms ?k_linked_rooms ?a_sure_pairs ?l_sure_pairs ?c_sure_pairs ?k_sure_pairs ?a__law_same ?l__law_same ?c__law_same ?k__law_same ?a__law_parts ?l__law_parts ?c__law_parts ?k__law_parts ?a__law_orders ?l__law_orders ?c__law_orders ?k__law_orders ?a__law_same_words ?l__law_same_words ?c__law_same_words ?k__law_same_words ?a__law_order_log ?l__law_order_log ?c__law_order_log ?k__law_order_log ?a__law_never_after ?l__law_never_after ?c__law_never_after ?k__law_never_after ?a__law_always ?l__law_always ?c__law_always ?k__law_always ?a_law ?l_law ?c_law ?k_law ?a_m_init_ ?l_m_init_ ?c_m_init_ ?k_m_init_ ?i_m_init_ ?a_mdoors ?l_mdoors ?c_mdoors ?k_mdoors ?i_mdoors ?a_mneighbours ?l_mneighbours ?c_mneighbours ?k_mneighbours ?i_mneighbours ?n_rooms ?n__doors ?n__near ?cr1 ?cr2 ?cv_MOST_ROOMS ?z_len ?z_abs ?z_int ?z_range ?z_list ?z_tuple ?z_min ?z_max ?z_sorted ?z_isinstance ?z_bool ?z_str ?z_set ?z_enumerate ?z_any
    (case aC => k_is)
    (case pg => k_is)
    (case hd => k_is)
    (case po => k_is)
    (case sa => k_is)
    (case mk => k_is)
    (case kc => k_is)
    (case a_check_room_count => k_is)
    (case l_check_room_count => k_is)
    (case c_check_room_count => k_is)
    (case k_check_room_count => k_is)
    (case a_checked_doors => k_is)
    (case l_checked_doors => k_is)
    (case c_checked_doors => k_is)
    (case k_checked_doors => k_is)
    (case a__law_cell => k_is)
    (case l__law_cell => k_is)
    (case c__law_cell => k_is)
    (case k__law_cell => k_is)
    (case a__law_numbers => k_is)
    (case l__law_numbers => k_is)
    (case c__law_numbers => k_is)
    (case k__law_numbers => k_is)
    (case a__law_names => k_is)
    (case l__law_names => k_is)
    (case c__law_names => k_is)
    (case k__law_names => k_is)
    (case a__law_joined => k_is)
    (case l__law_joined => k_is)
    (case c__law_joined => k_is)
    (case k__law_joined => k_is)
    (case a__law_doors => k_is)
    (case l__law_doors => k_is)
    (case c__law_doors => k_is)
    (case k__law_doors => k_is)
    (case a__law_word => k_is)
    (case l__law_word => k_is)
    (case c__law_word => k_is)
    (case k__law_word => k_is)
    (case a__law_words => k_is)
    (case l__law_words => k_is)
    (case c__law_words => k_is)
    (case k__law_words => k_is)
    (case a__law_log => k_is)
    (case l__law_log => k_is)
    (case c__law_log => k_is)
    (case k__law_log => k_is)
    (case a__law_calls => k_is)
    (case l__law_calls => k_is)
    (case c__law_calls => k_is)
    (case k__law_calls => k_is)
    (case a__law_reach => k_is)
    (case l__law_reach => k_is)
    (case c__law_reach => k_is)
    (case k__law_reach => k_is)
    (case a__law_pieces => k_is)
    (case l__law_pieces => k_is)
    (case c__law_pieces => k_is)
    (case k__law_pieces => k_is)
    (case a__law_top => k_is)
    (case l__law_top => k_is)
    (case c__law_top => k_is)
    (case k__law_top => k_is)
    (case a__law_word_of => k_is)
    (case l__law_word_of => k_is)
    (case c__law_word_of => k_is)
    (case k__law_word_of => k_is)
    (case a__law_tops => k_is)
    (case l__law_tops => k_is)
    (case c__law_tops => k_is)
    (case k__law_tops => k_is)
    (case a__law_form => k_is)
    (case l__law_form => k_is)
    (case c__law_form => k_is)
    (case k__law_form => k_is)
    (case a__law_blocks => k_is)
    (case l__law_blocks => k_is)
    (case c__law_blocks => k_is)
    (case k__law_blocks => k_is)
    (case a__law_block_rooms => k_is)
    (case l__law_block_rooms => k_is)
    (case c__law_block_rooms => k_is)
    (case k__law_block_rooms => k_is)
    (case a__law_forced => k_is)
    (case l__law_forced => k_is)
    (case c__law_forced => k_is)
    (case k__law_forced => k_is)
    (case a__law_chains => k_is)
    (case l__law_chains => k_is)
    (case c__law_chains => k_is)
    (case k__law_chains => k_is)
    (case a_blocks => k_is)
    (case l_blocks => k_is)
    (case c_blocks => k_is)
    (case k_blocks => k_is)
    (case a_block_rooms => k_is)
    (case l_block_rooms => k_is)
    (case c_block_rooms => k_is)
    (case k_block_rooms => k_is)
    (case a_is_beside => k_is)
    (case l_is_beside => k_is)
    (case c_is_beside => k_is)
    (case k_is_beside => k_is)
    (case a_pairs_between => k_is)
    (case l_pairs_between => k_is)
    (case c_pairs_between => k_is)
    (case k_pairs_between => k_is)
    (case a_forced_pairs => k_is)
    (case l_forced_pairs => k_is)
    (case c_forced_pairs => k_is)
    (case k_forced_pairs => k_is)
    (case a_linked_rooms => k_is)
    (case l_linked_rooms => k_is)
    (case c_linked_rooms => k_is)
    (case k_linked_rooms => k_is)
    (case a_sure_pairs => k_is)
    (case l_sure_pairs => k_is)
    (case c_sure_pairs => k_is)
    (case k_sure_pairs => k_is)
    (case a__law_same => k_is)
    (case l__law_same => k_is)
    (case c__law_same => k_is)
    (case k__law_same => k_is)
    (case a__law_parts => k_is)
    (case l__law_parts => k_is)
    (case c__law_parts => k_is)
    (case k__law_parts => k_is)
    (case a__law_orders => k_is)
    (case l__law_orders => k_is)
    (case c__law_orders => k_is)
    (case k__law_orders => k_is)
    (case a__law_same_words => k_is)
    (case l__law_same_words => k_is)
    (case c__law_same_words => k_is)
    (case k__law_same_words => k_is)
    (case a__law_order_log => k_is)
    (case l__law_order_log => k_is)
    (case c__law_order_log => k_is)
    (case k__law_order_log => k_is)
    (case a__law_never_after => k_is)
    (case l__law_never_after => k_is)
    (case c__law_never_after => k_is)
    (case k__law_never_after => k_is)
    (case a__law_always => k_is)
    (case l__law_always => k_is)
    (case c__law_always => k_is)
    (case k__law_always => k_is)
    (case a_law => k_is)
    (case l_law => k_is)
    (case c_law => k_is)
    (case k_law => k_is)
    (case a_m_init_ => k_is)
    (case l_m_init_ => k_is)
    (case c_m_init_ => k_is)
    (case k_m_init_ => k_is)
    (case i_m_init_ => k_is)
    (case a_mdoors => k_is)
    (case l_mdoors => k_is)
    (case c_mdoors => k_is)
    (case k_mdoors => k_is)
    (case i_mdoors => k_is)
    (case a_mneighbours => k_is)
    (case l_mneighbours => k_is)
    (case c_mneighbours => k_is)
    (case k_mneighbours => k_is)
    (case i_mneighbours => k_is)
    (case n_rooms => k_is)
    (case n__doors => k_is)
    (case n__near => k_is)
    (case cr1 => k_is)
    (case cr2 => k_is)
    (case cv_MOST_ROOMS => k_is)
    (case z_len => k_is)
    (case z_abs => k_is)
    (case z_int => k_is)
    (case z_range => k_is)
    (case z_list => k_is)
    (case z_tuple => k_is)
    (case z_min => k_is)
    (case z_max => k_is)
    (case z_sorted => k_is)
    (case z_isinstance => k_is)
    (case z_bool => k_is)
    (case z_str => k_is)
    (case z_set => k_is)
    (case z_enumerate => k_is)
    (case z_any => k_is)


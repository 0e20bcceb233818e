import PyProof.Rows.All
import Wide.All
import OpenK.AllK
import Wide.FinOn
import HandS.ForMost
import HandS.SortRule
import HandS.IsInst
import HandS.Deep
import HandS.Property
import HandS.TupSets
import HandS.Style
import HandS.Conv
import HandS.Evl
import HandS.ClsMeth
import HandS.Zip
import HandS.Walk
import HandS.Strs
import HandS.Rev
import HandS.SetFor
import KE.DataCmp
import HandS.DictComp
import HandS.More
import KE.DataMinMax
import PySem.Challenge.RW_callsheard_k21_whole_fewest_open_doors
set_option Elab.async false
set_option linter.all false
set_option maxRecDepth 100000
namespace My
open PySem PySem.Spec PyProof.Rows L2
theorem cxK {CX : CXT} {P : Program} {w : World} {K : PySem.W.Frag} {mg : Str → Option Value} {base : Heap} {N : List Str} {q : Str} {sc : Scope} {f : Addr} {cdv : Value} {A : Around} {outer : List Env} {s : Shared} {H : Hp} {E : XK} : (cxOf CX P w K mg base N q sc f cdv A outer s H E).nox.K = K := rfl
theorem cxK2 {CX : CXT} {P : Program} {w : World} {K : PySem.W.Frag} {mg : Str → Option Value} {base : Heap} {N : List Str} {q : Str} {sc : Scope} {f : Addr} {cdv : Value} {A : Around} {outer : List Env} {s : Shared} {H : Hp} {E : XK} : (cxOf CX P w K mg base N q sc f cdv A outer s H E).K = K := rfl
theorem cxP {CX : CXT} {P : Program} {w : World} {K : PySem.W.Frag} {mg : Str → Option Value} {base : Heap} {N : List Str} {q : Str} {sc : Scope} {f : Addr} {cdv : Value} {A : Around} {outer : List Env} {s : Shared} {H : Hp} {E : XK} : (cxOf CX P w K mg base N q sc f cdv A outer s H E).prog = P := rfl
theorem cxW {CX : CXT} {P : Program} {w : World} {K : PySem.W.Frag} {mg : Str → Option Value} {base : Heap} {N : List Str} {q : Str} {sc : Scope} {f : Addr} {cdv : Value} {A : Around} {outer : List Env} {s : Shared} {H : Hp} {E : XK} : (cxOf CX P w K mg base N q sc f cdv A outer s H E).w = w := rfl
/-- built-in names that the text has not bound -/
structure Bi (mg : Str → Option Value) : Prop where
  len : mg "len" = none
  abs : mg "abs" = none
  int : mg "int" = none
  range : mg "range" = none
  list : mg "list" = none
  tuple : mg "tuple" = none
  min : mg "min" = none
  max : mg "max" = none
  sorted : mg "sorted" = none
  isinstance : mg "isinstance" = none
  bool : mg "bool" = none
  str : mg "str" = none
  set : mg "set" = none
  enumerate : mg "enumerate" = none
/-- a def of the text, bound in the module, that keeps a promise -/
structure Df (P : Program) (w : World) (K : PySem.W.Frag) (mg : Str → Option Value) (base : Heap) (x : Str) (ps : List Str) (k : Nat) (sp : Sp) (f : Addr) (fd : FuncData) : Prop where
  at_ : mg x = some (.ref f)
  kp : PySem.W.keepIn K (.ref f) = true
  b : Binds K fd ps []
  ok : FnOk P w K mg base CX0 k f fd ps sp
local macro_rules | `(tactic| walk_at "rd") => `(tactic| try simp only [cxK, cxK2, cxP, cxW, L2.start, List.length_cons, List.length_nil, List.replicate_succ, List.replicate_zero, List.map_cons, List.map_nil, List.cons_append, List.nil_append, tVar, tC, tAdd, tSub, t2I, tIsN, tNotN, tB, tAnd, tOr, tNot, tAndV, tOrV, tNotV, tIf, tNext, tSeq, tBreak, tCont, tDrop, tRet, tRetN, tIfS, gName, gNil, gCons, gTup, gSub, tAsg, tOp, tUn, rI, rI0, rU, tTest, tChain, tNil, tCons, tTup, tLst, tCall, tCB, tNoPart, tPart, tSl, rIxL, rIxT, rIxS, rSetL, rAppend, rExtend, tBM, tBM0, tFld, tMeth, tMake, sFld, tYes, tLstRg, tRg1, tRg2, rSlL, iRng1, iRng2, iList, List.getElem?_cons_zero, List.getElem?_cons_succ, Option.some.injEq, List.cons.injEq, V.int.injEq, V.ref.injEq, V.bl.injEq, V.str.injEq, exists_eq_left', exists_eq_left, exists_eq_right, exists_eq_right', true_and, and_true, and_assoc, exists_and_left, exists_and_right, List.set_cons_zero, List.set_cons_succ, List.append_nil, reduceCtorEq, false_and, and_false, exists_false, or_false, false_or, decide_eq_true_eq, Nat.reduceAdd, Nat.reduceSub])
section
variable {X : Cx}
theorem cr_intI : CallR X (.type "int") (fun xs H Q => ∃ i, xs = [.int i] ∧ Q (.int i) H) := fun pins s σ H xs us Q I r h => call_int1 pins s σ H xs us Q I r (.inl h)
theorem op_eqI : OpR X (compareOp .Eq) (rI0 fun i j => .bl (decide (i = j))) := fun pins s σ H x y v u Q I rx ry h => by
  obtain ⟨i, j, rfl, rfl, q⟩ := h
  have e : decide (i = j) = decide (V.int i = V.int j) := by
    by_cases h : i = j
    · subst h
      rw [decide_eq_true rfl, decide_eq_true rfl]
    · rw [decide_eq_false h, decide_eq_false (fun z => h (V.int.inj z))]
  exact op_eq pins s σ H _ _ v u Q I rx ry ⟨rfl, by rw [← e]; exact q⟩
theorem op_neI : OpR X (compareOp .NotEq) (rI0 fun i j => .bl (!decide (i = j))) := fun pins s σ H x y v u Q I rx ry h => by
  obtain ⟨i, j, rfl, rfl, q⟩ := h
  have e : decide (i = j) = decide (V.int i = V.int j) := by
    by_cases h : i = j
    · subst h
      rw [decide_eq_true rfl, decide_eq_true rfl]
    · rw [decide_eq_false h, decide_eq_false (fun z => h (V.int.inj z))]
  exact op_ne pins s σ H _ _ v u Q I rx ry ⟨rfl, by rw [← e]; exact q⟩
def rIsT : R2 := fun x y H Q => ∃ b : Bool, y = .bl b ∧ Q (.bl (decide (x = .bl b))) H
/-- x is True, x is False -/
theorem op_isT : OpR X (compareOp .Is) rIsT := by
  intro pins s σ H x y v u Q I rx ry h
  obtain ⟨b, rfl, q⟩ := h
  cases (show u = Value.bool b from ry)
  cases x with
  | non => cases (show v = Value.none from rx); exact wpAny_is_other rfl (fun z => nomatch z) ⟨.bl false, H, I, rfl, by simpa using q⟩
  | bl a =>
    cases (show v = Value.bool a from rx)
    by_cases e : a = b
    · subst e
      exact wpAny_is_self rfl ⟨.bl true, H, I, rfl, by simpa using q⟩
    · exact wpAny_is_other rfl (fun z => e (Value.bool.inj z)) ⟨.bl false, H, I, rfl, by simpa [e] using q⟩
  | int i => obtain ⟨t, e⟩ := (show ∃ t, v = Value.int i t from rx); cases e; exact wpAny_is_other rfl (fun z => nomatch z) ⟨.bl false, H, I, rfl, by simpa using q⟩
  | str i => obtain ⟨t, e⟩ := (show ∃ t, v = Value.str i t from rx); cases e; exact wpAny_is_other rfl (fun z => nomatch z) ⟨.bl false, H, I, rfl, by simpa using q⟩
  | byt i => obtain ⟨t, e⟩ := (show ∃ t, v = Value.bytes i t from rx); cases e; exact wpAny_is_other rfl (fun z => nomatch z) ⟨.bl false, H, I, rfl, by simpa using q⟩
  | flt i => obtain ⟨t, e⟩ := (show ∃ t, v = Value.float i t from rx); cases e; exact wpAny_is_other rfl (fun z => nomatch z) ⟨.bl false, H, I, rfl, by simpa using q⟩
  | ref a => cases (show v = Value.ref a from rx); exact wpAny_is_other rfl (fun z => nomatch z) ⟨.bl false, H, I, rfl, by simpa using q⟩
  | ty n => cases (show v = Value.type n from rx); exact wpAny_is_other rfl (fun z => nomatch z) ⟨.bl false, H, I, rfl, by simpa using q⟩
end
theorem same_upd {H : Hp} {p : Addr} {o : HO} (h : H p = none) : Same H (upd H p o) := fun b x e => by
  rw [upd_ne (ne_of_none e h)]
  exact e
/-- a list that was new and is changed: what stood before stands -/
theorem same_ch {H0 H : Hp} {p : Addr} {o : HO} (s : Same H0 H) (n : H0 p = none) : Same H0 (upd H p o) := fun b x e => by
  rw [upd_ne (ne_of_none e n)]
  exact s _ _ e
theorem ixn {n j : Nat} {z : Int} (e : z = (j : Int)) (hj : j < n) : ixN n z = some j := by
  rw [e]
  unfold ixN
  rw [if_pos (by omega), if_pos (by omega)]
  simp
theorem len_big {n : Nat} (h : n ≤ 100000) : n < sizeLine := Nat.lt_of_le_of_lt h (by decide)
theorem mem_ix {α : Type} {l : List α} {i : Nat} (h : i < l.length) : ∃ x, l[i]? = some x ∧ x ∈ l := ⟨l[i], List.getElem?_eq_getElem h, List.getElem_mem h⟩

local macro_rules | `(tactic| walk_at "rg") => `(tactic| try simp only [cxK, cxK2, cxP, cxW, L2.start, List.length_cons, List.length_nil, List.replicate_succ, List.replicate_zero, List.map_cons, List.map_nil, List.cons_append, List.nil_append, gName, gNil, gCons, gTup, gSub, List.getElem?_cons_zero, List.getElem?_cons_succ, Option.some.injEq, List.cons.injEq, V.int.injEq, V.ref.injEq, V.bl.injEq, V.str.injEq, exists_eq_left', exists_eq_left, exists_eq_right, exists_eq_right', true_and, and_true, and_assoc, exists_and_left, exists_and_right, List.set_cons_zero, List.set_cons_succ, List.append_nil, reduceCtorEq, false_and, and_false, exists_false, or_false, false_or, decide_eq_true_eq, Nat.reduceAdd, Nat.reduceSub])
def topS (i : Nat) : Stmt := PySem.Challenge.pw_callsheard_k21_whole_fewest_open_doors.main.body.getD i (.Pass ⟨0, 0, 0, 0⟩)
abbrev sCell : Stmt := topS 22
abbrev sNum : Stmt := topS 23
def cellN (ns : List Int) (k : Nat) : Int := (ns.getD k 0).natAbs
theorem cellN_nn (ns : List Int) (k : Nat) : 0 ≤ cellN ns k := Int.natCast_nonneg _
section
variable {P : Program} {w : World} {K : PySem.W.Frag} {mg : Str → Option Value} {base : Heap}
theorem scCell : FnScope ["script", "k"] ["script", "k"] (defScope sCell) := ⟨rfl, rfl, rfl, by decide +kernel, rfl, by decide +kernel, by decide +kernel⟩
def spCell (K : PySem.W.Frag) : Sp := fun vs H Q _ => ∃ (a : Addr) (ns : List Int) (k : Nat), vs = [.ref a, .int k] ∧ SqL K H a (ns.map V.int) ∧ ∀ c, 0 ≤ c → Q (.int c) H
theorem ok_cell {f : Addr} {fd : FuncData} (F : Fun K "_law_cell" "_law_cell" sCell f fd) (T : Bi mg) : FnOk P w K mg base CX0 1 f fd ["script", "k"] (spCell K) := by
  refine F.ok scCell (fun vs H Q E h => ?_) (fun cdv A outer s H vs Q E hr h => ?_)
  · obtain ⟨a, ns, k, rfl, _⟩ := h
    rfl
  · obtain ⟨a, ns, k, rfl, hS, q⟩ := h
    refine ⟨_, (pss_cons (ps_if (pt_cmpR op_lt (pv 1) (pe_callB call_len_seq (by rfl) T.len (by decide +kernel) (pa_cons (pv 0) pa_nil)) (nomark _))
      (pss_one (ps_ret (pe_callB call_abs (by rfl) T.abs (by decide +kernel) (pa_cons (pe_callTy cr_intI (by rfl) T.int (by decide +kernel) (pa_cons (pe_ix ix_list (pv 0) (pv 1) (fun _ _ => rfl)) pa_nil)) pa_nil))))
      pss_nil)
      (pss_one (ps_ret pe_int))), ?_⟩
    walk_at "rd"
    refine ⟨_, .inl hS, ?_⟩
    rw [List.length_map]
    refine ite2 (fun hk => ?_) (fun _ => q _ (Int.le_refl _))
    have hk2 : k < ns.length := by omega
    refine ⟨_, hS, V.int ns[k], atI_nat (by rw [List.getElem?_map, List.getElem?_eq_getElem hk2]; rfl), _, rfl, ?_⟩
    refine q _ ?_
    split <;> omega
theorem scNum : FnScope ["cell", "count", "numbers", "rest", "mixed", "k"] ["cell", "count"] (defScope sNum) := ⟨rfl, rfl, rfl, by decide +kernel, rfl, by decide +kernel, by decide +kernel⟩
/-- n ints from 0 on below 997 -/
def Nums (n : Nat) (ns : List Int) : Prop := ns.length = n ∧ ∀ x ∈ ns, 0 ≤ x ∧ x < 997
def spNum (K : PySem.W.Frag) : Sp := fun vs H Q _ => ∃ (c : Int) (n : Nat), vs = [.int c, .int n] ∧ n ≤ 2000 ∧ ∀ ns p H', Nums n ns → Same H H' → H p = none → H' p = some (.lst (ns.map V.int)) → Q (.ref p) H'
theorem ok_num {f : Addr} {fd : FuncData} (F : Fun K "_law_numbers" "_law_numbers" sNum f fd) (T : Bi mg) : FnOk P w K mg base CX0 1 f fd ["cell", "count"] (spNum K) := by
  refine F.ok scNum (fun vs H Q E h => ?_) (fun cdv A outer s H vs Q E hr h => ?_)
  · obtain ⟨c, n, rfl, _⟩ := h
    rfl
  · obtain ⟨c, n, rfl, hn, q⟩ := h
    refine ⟨_, (pss_cons (ps_set (i := 2) scNum.nd rfl (Or.inl rfl) (pe_lst pa_nil))
      (pss_cons (ps_set (i := 3) scNum.nd rfl (Or.inl rfl) (pv 0))
      (pss_cons (ps_set (i := 4) scNum.nd rfl (Or.inl rfl) (pe_op op_mod (pe_callTy cr_intI (by rfl) T.int (by decide +kernel) (pa_cons (pe_op op_add (pe_op op_mul (pv 0) pe_int) pe_int) pa_nil)) pe_int))
      (pss_cons (ps_for PassesOwn.never rfl (pi_range1 (by rfl) T.range (pa_cons (pv 1) pa_nil)) (pg_name (i := 5) scNum.nd rfl (Or.inl rfl))
      (pss_cons (ps_set (i := 4) scNum.nd rfl (Or.inl rfl) (pe_op op_mod (pe_callTy cr_intI (by rfl) T.int (by decide +kernel) (pa_cons (pe_op op_add (pe_op op_add (pe_op op_mul (pv 4) pe_int) (pe_op op_mul pe_int (pv 5))) pe_int) pa_nil)) pe_int))
        (pss_one (ps_if (pt_cmpR op_ge (pv 0) (pe_op op_pow pe_int pe_int) (nomark _))
        (pss_cons (ps_expr (pe_bm PySem.F.plainAttrs_list PySem.F.slot_list_append PySem.F.type_list_append mt_append (pv 2) (pa_cons (pe_op op_mod (pe_callTy cr_intI (by rfl) T.int (by decide +kernel) (pa_cons (pv 3) pa_nil)) pe_int) pa_nil)))
          (pss_one (ps_set (i := 3) scNum.nd rfl (Or.inl rfl) (pe_op op_fdiv (pv 3) pe_int))))
        (pss_one (ps_expr (pe_bm PySem.F.plainAttrs_list PySem.F.slot_list_append PySem.F.type_list_append mt_append (pv 2) (pa_cons (pe_op op_mod (pe_callTy cr_intI (by rfl) T.int (by decide +kernel) (pa_cons (pe_op op_fdiv (pv 4) pe_int) pa_nil)) pe_int) pa_nil))))))))
      (pss_one (ps_ret (pv 2))))))), ?_⟩
    walk_at "rd"
    refine ⟨by decide, fun p np => ⟨.inr (by decide), by decide, ?_⟩⟩
    refine ⟨_, rfl, _, rfl, by omega, by omega, for_range (lo := 0) (n := (n : Int).toNat) (fun i σ H' => ∃ (ns : List Int) (rest mixed : Int) (v : Option V), σ = [some (.int c), some (.int n), some (.ref p), some (.int rest), some (.int mixed), v] ∧ Nums i ns ∧ Same H H' ∧ H' p = some (.lst (ns.map V.int)))
      ⟨[], c, _, none, rfl, ⟨rfl, fun x hx => by cases hx⟩, same_upd np, upd_same⟩ ?_ ?_⟩
    · rintro i σ H' hi ⟨ns, rest, mixed, v, rfl, hns, sm, hp⟩
      have small : (List.map V.int ns).length < sizeLine := len_big (by rw [List.length_map, hns.1]; omega)
      have next : ∀ y, 0 ≤ y → y < 997 → Nums (i + 1) (ns ++ [y]) := fun y h0 h1 => by
        refine ⟨by rw [List.length_append, hns.1]; rfl, fun x hx => ?_⟩
        rcases List.mem_append.mp hx with hx | hx
        · exact hns.2 x hx
        · rw [List.mem_singleton.mp hx]
          exact ⟨h0, h1⟩
      have ty : tyV K "list" (.ref p) H' := .inl ⟨rfl, _, SqL.of hp⟩
      walk_at "rd"
      refine ⟨.inr (by decide), .inl (by decide), by decide, ⟨by decide, by decide, by decide⟩, ite2 (fun _ => ?_) (fun _ => ?_)⟩
      · refine ⟨ty, by decide, _, hp, small, ⟨by decide, by decide⟩, ns ++ [rest % 997], next _ (Int.emod_nonneg _ (by decide)) (Int.emod_lt_of_pos _ (by decide)), same_ch sm np, ?_⟩
        rw [upd_same, List.map_append]
        rfl
      · refine ⟨ty, ⟨by decide, by decide⟩, by decide, _, hp, small, ns ++ [(mixed * 48271 + 7919 * (0 + (i : Int)) + 12345) % 2147483647 / 1009 % 997], next _ (Int.emod_nonneg _ (by decide)) (Int.emod_lt_of_pos _ (by decide)), same_ch sm np, ?_⟩
        rw [upd_same, List.map_append]
        rfl
    · rintro σ H' ⟨ns, rest, mixed, v, rfl, hns, sm, hp⟩
      walk_at "rd"
      exact q ns p H' (by simpa using hns) sm np hp
end

/-! ### pairs of ints in the heap -/
abbrev Pr := Int × Int
/-- v is a tuple of the two ints -/
def IsP (H : Hp) (v : V) (d : Pr) : Prop := ∃ t, v = .ref t ∧ H t = some (.tup [.int d.1, .int d.2])
def PL (H : Hp) (vs : List V) (D : List Pr) : Prop := Paired (IsP H) vs D
def kH (H : Hp) (v : V) : Pr := match v with
  | .ref t => match H t with
    | some (.tup [.int x, .int y]) => (x, y)
    | _ => (0, 0)
  | _ => (0, 0)
theorem IsP.k {H : Hp} {v : V} {d : Pr} (h : IsP H v d) : kH H v = d := by
  obtain ⟨t, rfl, e⟩ := h
  unfold kH
  simp only [e]
/-- tuples stand -/
def KT (H H' : Hp) : Prop := ∀ t xs, H t = some (.tup xs) → H' t = some (.tup xs)
theorem KT.refl (H : Hp) : KT H H := fun _ _ h => h
theorem KT.trans {H H1 H2 : Hp} (a : KT H H1) (b : KT H1 H2) : KT H H2 := fun t xs h => b t xs (a t xs h)
theorem KT.same {H H' : Hp} (s : Same H H') : KT H H' := fun t xs h => s t _ h
theorem KT.new {H : Hp} {p : Addr} {o : HO} (n : H p = none) : KT H (upd H p o) := KT.same (same_upd n)
theorem KT.ch {H : Hp} {p : Addr} {o o' : HO} (n : H p = some o') (ho : ∀ xs, o' ≠ .tup xs) : KT H (upd H p o) := fun t xs h => by
  rw [upd_ne]
  · exact h
  · rintro rfl
    rw [h] at n
    exact ho xs (Option.some.inj n).symm
theorem KT.lst {H : Hp} {p : Addr} {o : HO} {vs : List V} (n : H p = some (.lst vs)) : KT H (upd H p o) := KT.ch n (fun _ h => by cases h)
theorem IsP.kt {H H' : Hp} {v : V} {d : Pr} (h : IsP H v d) (k : KT H H') : IsP H' v d := by
  obtain ⟨t, e, h⟩ := h
  exact ⟨t, e, k _ _ h⟩
theorem PL.kt {H H' : Hp} {vs : List V} {D : List Pr} (h : PL H vs D) (k : KT H H') : PL H' vs D := Paired.mapP h fun _ _ q => q.kt k
theorem PL.len {H : Hp} {vs : List V} {D : List Pr} (h : PL H vs D) : vs.length = D.length := Paired.length h
theorem PL.nil0 (H : Hp) : PL H [] [] := Paired.nil
theorem PL.snoc {H : Hp} {vs : List V} {D : List Pr} {v : V} {d : Pr} (h : PL H vs D) (q : IsP H v d) : PL H (vs ++ [v]) (D ++ [d]) := Paired.snoc h q
theorem PL.get : ∀ {H : Hp} {vs : List V} {D : List Pr} {i : Nat} {v : V}, PL H vs D → vs[i]? = some v → ∃ d, D[i]? = some d ∧ IsP H v d
  | _, _, _, _, _, Paired.nil, e => by simp at e
  | _, _, _, 0, v, .cons r _, e => by
    have e2 := Option.some.inj e
    subst e2
    exact ⟨_, rfl, r⟩
  | _, _, _, i + 1, v, .cons _ t, e => PL.get (i := i) t e
theorem PL.get2 : ∀ {H : Hp} {vs : List V} {D : List Pr} {i : Nat} {d : Pr}, PL H vs D → D[i]? = some d → ∃ v, vs[i]? = some v ∧ IsP H v d
  | _, _, _, _, _, Paired.nil, e => by simp at e
  | _, _, _, 0, v, .cons r _, e => by
    have e2 := Option.some.inj e
    subst e2
    exact ⟨_, rfl, r⟩
  | _, _, _, i + 1, v, .cons _ t, e => PL.get2 (i := i) t e
theorem PL.toK : ∀ {H : Hp} {vs : List V} {D : List Pr}, PL H vs D → D = vs.map (kH H) ∧ ∀ v ∈ vs, IsP H v (kH H v)
  | _, _, _, Paired.nil => ⟨rfl, fun v hv => by cases hv⟩
  | H, _, _, .cons r t => by
    obtain ⟨e, h⟩ := PL.toK t
    have q := r.k
    refine ⟨by rw [List.map_cons, ← e, q], fun v hv => ?_⟩
    rcases List.mem_cons.mp hv with rfl | hv
    · rw [q]
      exact r
    · exact h v hv
theorem PL.ofK {H : Hp} : ∀ {vs : List V}, (∀ v ∈ vs, IsP H v (kH H v)) → PL H vs (vs.map (kH H))
  | [], _ => Paired.nil
  | v :: vs, h => .cons (h v List.mem_cons_self) (PL.ofK fun u hu => h u (List.mem_cons_of_mem _ hu))
/-! ### sorted lists of pairs -/
def lt2 (p q : Pr) : Prop := p.1 < q.1 ∨ (p.1 = q.1 ∧ p.2 < q.2)
def Asc (D : List Pr) : Prop := D.Pairwise lt2
theorem lt2_irr (p : Pr) : ¬ lt2 p p := by
  unfold lt2
  omega
theorem lt2_ne {p q : Pr} (h : lt2 p q) : p ≠ q := by
  rintro rfl
  exact lt2_irr p h
theorem Asc.nodup {D : List Pr} (h : Asc D) : D.Nodup := List.Pairwise.imp lt2_ne h
theorem asc_of {D : List Pr} (nd : D.Nodup) (h : D.Pairwise fun x y => ¬ lt2 y x) : Asc D := by
  induction D with
  | nil => exact List.Pairwise.nil
  | cons p D ih =>
    obtain ⟨h1, h2⟩ := List.pairwise_cons.mp h
    obtain ⟨n1, n2⟩ := List.nodup_cons.mp nd
    refine List.pairwise_cons.mpr ⟨fun q hq => ?_, ih n2 h2⟩
    have a := h1 q hq
    have b : p ≠ q := fun e => n1 (by rw [e]; exact hq)
    unfold lt2 at a ⊢
    obtain ⟨p1, p2⟩ := p
    obtain ⟨q1, q2⟩ := q
    have c : ¬ (p1 = q1 ∧ p2 = q2) := fun ⟨e1, e2⟩ => b (by rw [e1, e2])
    simp only at a ⊢
    omega
/-- two ascending lists with the same pairs are one -/
theorem asc_uniq : ∀ {D E : List Pr}, Asc D → Asc E → (∀ p, p ∈ D ↔ p ∈ E) → D = E
  | [], [], _, _, _ => rfl
  | [], q :: E, _, _, h => by
    have := (h q).mpr List.mem_cons_self
    cases this
  | p :: D, [], _, _, h => by
    have := (h p).mp List.mem_cons_self
    cases this
  | p :: D, q :: E, hD, hE, h => by
    obtain ⟨a1, a2⟩ := List.pairwise_cons.mp hD
    obtain ⟨b1, b2⟩ := List.pairwise_cons.mp hE
    have e : p = q := by
      rcases List.mem_cons.mp ((h p).mp List.mem_cons_self) with e | hp
      · exact e
      · rcases List.mem_cons.mp ((h q).mpr List.mem_cons_self) with e | hq
        · exact e.symm
        · have c1 := b1 p hp
          have c2 := a1 q hq
          unfold lt2 at c1 c2
          omega
    subst e
    rw [asc_uniq a2 b2 fun z => ?_]
    constructor
    · intro hz
      rcases List.mem_cons.mp ((h z).mp (List.mem_cons_of_mem _ hz)) with e | hz2
      · subst e
        exact absurd (a1 z hz) (lt2_irr z)
      · exact hz2
    · intro hz
      rcases List.mem_cons.mp ((h z).mpr (List.mem_cons_of_mem _ hz)) with e | hz2
      · subst e
        exact absurd (b1 z hz) (lt2_irr z)
      · exact hz2
theorem srtd_asc {H : Hp} {ys : List V} (nd : (ys.map (kH H)).Nodup) (h : SrtO.Srtd (ltP (kH H)) ys) : Asc (ys.map (kH H)) := by
  refine asc_of nd (List.pairwise_map.mpr (List.Pairwise.imp (fun {x y} h => ?_) h))
  exact SrtO.lexB_no.mp h
/-- doors of a house with r rooms -/
structure Drs (r : Nat) (D : List Pr) : Prop where
  asc : Asc D
  ok : ∀ d ∈ D, 0 ≤ d.1 ∧ d.1 < d.2 ∧ d.2 < r
def cd (d : Pr) : Nat := (d.1 * 12 + d.2).toNat
theorem drs_len' {r : Nat} {D : List Pr} (hr : r ≤ 12) (nd : D.Nodup) (ok : ∀ d ∈ D, 0 ≤ d.1 ∧ d.1 < d.2 ∧ d.2 < r) : D.length ≤ 66 := by
  have h1 : (D.map cd).Nodup := by
    refine List.pairwise_map.mpr (List.Pairwise.imp_of_mem (fun {x y} hx hy hne e => ?_) nd)
    have a := ok x hx
    have b := ok y hy
    unfold cd at e
    obtain ⟨x1, x2⟩ := x
    obtain ⟨y1, y2⟩ := y
    simp only at a b e
    have : x1 = y1 ∧ x2 = y2 := by omega
    exact hne (by rw [this.1, this.2])
  have h2 : ∀ c ∈ D.map cd, c ∈ (List.range 144).filter fun c => c / 12 < c % 12 := fun c hc => by
    obtain ⟨d, hd, rfl⟩ := List.mem_map.mp hc
    have a := ok d hd
    refine List.mem_filter.mpr ⟨List.mem_range.mpr ?_, ?_⟩
    · unfold cd
      omega
    · rw [decide_eq_true_eq]
      unfold cd
      omega
  have h3 := nat_nodup_len (D.map cd) _ h1 h2
  rw [List.length_map] at h3
  exact Nat.le_trans h3 (by decide)
theorem Drs.len {r : Nat} {D : List Pr} (hr : r ≤ 12) (h : Drs r D) : D.length ≤ 66 := drs_len' hr h.asc.nodup h.ok

abbrev sNam : Stmt := topS 26
abbrev sJnd : Stmt := topS 27
theorem sub_lt_of {i n : Nat} (h : i < n) : (0 : Int) < (n : Int) - (i : Int) := by omega
/-- the ints from 0 on below n -/
def rg (n : Nat) : List Int := (List.range n).map Int.ofNat
theorem rg_len (n : Nat) : (rg n).length = n := by unfold rg; rw [List.length_map, List.length_range]
theorem rgV_rg (n : Nat) : rgV 0 (n : Int) = (rg n).map V.int := by
  unfold rgV rg
  rw [List.map_map]
  show List.map _ (List.range ((n : Int) - 0).toNat) = _
  rw [show ((n : Int) - 0).toNat = n by omega]
  refine List.map_congr_left fun i _ => ?_
  show V.int (0 + (i : Int)) = V.int (i : Int)
  rw [Int.zero_add]
theorem set_map {α β : Type} (f : α → β) (l : List α) (i : Nat) (x : α) : (l.map f).set i (f x) = (l.set i x).map f := by
  rw [List.map_set]
section
variable {P : Program} {w : World} {K : PySem.W.Frag} {mg : Str → Option Value} {base : Heap}
theorem scNam : FnScope ["numbers", "at", "rooms", "names", "k", "j", "kept"] ["numbers", "at", "rooms"] (defScope sNam) := ⟨rfl, rfl, rfl, by decide +kernel, rfl, by decide +kernel, by decide +kernel⟩
def spNam (K : PySem.W.Frag) : Sp := fun vs H Q _ => ∃ (a : Addr) (ns : List Int) (at_ r : Nat), vs = [.ref a, .int at_, .int r] ∧ SqL K H a (ns.map V.int) ∧ at_ + r ≤ ns.length ∧ r ≤ 1000 ∧
  ∀ xs p H', List.Perm xs (rg r) → Same H H' → H p = none → H' p = some (.lst (xs.map V.int)) → Q (.ref p) H'
theorem ok_nam {f : Addr} {fd : FuncData} (F : Fun K "_law_names" "_law_names" sNam f fd) (T : Bi mg) : FnOk P w K mg base CX0 1 f fd ["numbers", "at", "rooms"] (spNam K) := by
  refine F.ok scNam (fun vs H Q E h => ?_) (fun cdv A outer s H vs Q E hr h => ?_)
  · obtain ⟨a, ns, at_, r, rfl, _⟩ := h
    rfl
  · obtain ⟨a, ns, at_, r, rfl, hS, hat, hr1, q⟩ := h
    refine ⟨_, (pss_cons (ps_set (i := 3) scNam.nd rfl (Or.inl rfl) (pe_listRg rfl (by rfl) T.list (prg_1 (by rfl) T.range (pv 2))))
      (pss_cons (ps_for PassesOwn.never rfl (pi_range1 (by rfl) T.range (pa_cons (pv 2) pa_nil)) (pg_name (i := 4) scNam.nd rfl (Or.inl rfl))
      (pss_cons (ps_set (i := 5) scNam.nd rfl (Or.inl rfl) (pe_op op_add (pv 4) (pe_op op_mod (pe_callTy cr_intI (by rfl) T.int (by decide +kernel) (pa_cons (pe_ix ix_list (pv 0) (pe_op op_add (pv 1) (pv 4)) (fun _ _ => rfl)) pa_nil)) (pe_op op_sub (pv 2) (pv 4)))))
        (pss_cons (ps_set (i := 6) scNam.nd rfl (Or.inl rfl) (pe_ix ix_list (pv 3) (pv 4) (fun _ _ => rfl)))
        (pss_cons (ps_asg (pe_ix ix_list (pv 3) (pv 5) (fun _ _ => rfl)) (pg_sub (pv 3) (pv 4) set_list))
        (pss_one (ps_asg (pv 6) (pg_sub (pv 3) (pv 5) set_list)))))))
      (pss_one (ps_ret (pv 3))))), ?_⟩
    walk_at "rd"
    refine ⟨RgOk.of_le (by omega) (by omega) (by omega) (by omega), fun p np => ?_⟩
    refine ⟨_, rfl, r, rfl, by omega, by omega, for_range (lo := 0) (n := (r : Int).toNat) (fun i σ H' => ∃ (xs : List Int) (v1 v2 v3 : Option V), σ = [some (.ref a), some (.int at_), some (.int r), some (.ref p), v1, v2, v3] ∧ List.Perm xs (rg r) ∧ Same H H' ∧ H' p = some (.lst (xs.map V.int)))
      ⟨rg r, none, none, none, rfl, List.Perm.refl _, same_upd np, by rw [upd_same, rgV_rg]⟩ ?_ ?_⟩
    · rintro i σ H' hi ⟨xs, v1, v2, v3, rfl, pm, sm, hp⟩
      have hi2 : i < r := by omega
      have hl : xs.length = r := by rw [pm.length_eq, rg_len]
      have hS' := sm.seq hS
      have hn : at_ + i < ns.length := by omega
      have hq : SqL K H' p (xs.map V.int) := SqL.of hp
      walk_at "rd"
      have hj0 := Int.emod_nonneg ns[at_ + i] (show ((r : Int) - (0 + (i : Int))) ≠ 0 by omega)
      have hj1 := Int.emod_lt_of_pos ns[at_ + i] (show 0 < ((r : Int) - (0 + (i : Int))) by omega)
      obtain ⟨j, hj⟩ : ∃ j : Nat, (0 + (i : Int)) + ns[at_ + i] % ((r : Int) - (0 + (i : Int))) = j := ⟨((0 + (i : Int)) + ns[at_ + i] % ((r : Int) - (0 + (i : Int)))).toNat, by omega⟩
      have hjr : j < r := by omega
      have gi : (xs.map V.int)[i]? = some (.int xs[i]) := by rw [List.getElem?_map, List.getElem?_eq_getElem (by omega)]; rfl
      have gj : (xs.map V.int)[j]? = some (.int xs[j]) := by rw [List.getElem?_map, List.getElem?_eq_getElem (by omega)]; rfl
      refine ⟨_, hS', .int ns[at_ + i], at_of (j := at_ + i) (by omega) (by rw [List.getElem?_map, List.getElem?_eq_getElem hn]; rfl), _, rfl, by omega, _, hq, .int xs[i], at_of (by omega) gi, _, hq, .int xs[j], at_of hj gj, _, hp, i, ixn (by omega) (by rw [List.length_map]; omega), _, upd_same, j, ixn hj (by rw [List.length_set, List.length_map]; omega), (xs.set i xs[j]).set j xs[i], (List.set_set_perm (by omega) (by omega)).trans pm, same_ch (same_ch sm np) np, ?_⟩
      rw [upd_same, set_map, set_map]
    · rintro σ H' ⟨xs, v1, v2, v3, rfl, pm, sm, hp⟩
      walk_at "rd"
      exact q xs p H' pm sm np hp
theorem scJnd : FnScope ["kind", "a", "b", "rooms", "number", "parent"] ["kind", "a", "b", "rooms", "number", "parent"] (defScope sJnd) := ⟨rfl, rfl, rfl, by decide +kernel, rfl, by decide +kernel, by decide +kernel⟩
def spJnd : Sp := fun vs H Q _ => ∃ (kd a b r n p : Int), vs = [.int kd, .int a, .int b, .int r, .int n, .int p] ∧ 0 < b ∧ (0 ≤ kd ∧ kd < 8) ∧ ∀ c H', Same H H' → Q (.bl c) H'
theorem ok_jnd {f : Addr} {fd : FuncData} (F : Fun K "_law_joined" "_law_joined" sJnd f fd) (T : Bi mg) : FnOk P w K mg base CX0 1 f fd ["kind", "a", "b", "rooms", "number", "parent"] spJnd := by
  refine F.ok scJnd (fun vs H Q E h => ?_) (fun cdv A outer s H vs Q E hr h => ?_)
  · obtain ⟨kd, a, b, r, n, p, rfl, _⟩ := h
    rfl
  · obtain ⟨kd, a, b, r, n, p, rfl, hb, ⟨k0, k8⟩, q⟩ := h
    refine ⟨_, (pss_cons (ps_if (pt_cmpR op_eqI (pv 0) pe_int (nomark _))
      (pss_one (ps_ret (pe_cmpR op_eqI (pv 1) pe_int (nomark _))))
      pss_nil)
      (pss_cons (ps_if (pt_cmpR op_eqI (pv 0) pe_int (nomark _))
      (pss_one (ps_ret (pe_or (pe_cmpR op_eqI (pv 2) (pe_op op_add (pv 1) pe_int) (nomark _)) (pe_one (pe_and (pe_cmpR op_eqI (pv 1) pe_int (nomark _)) (pe_one (pe_cmpR op_eqI (pv 2) (pe_op op_sub (pv 3) pe_int) (nomark _))))))))
      pss_nil)
      (pss_cons (ps_if (pt_cmpR op_eqI (pv 0) pe_int (nomark _))
      (pss_one (ps_ret pe_bl))
      pss_nil)
      (pss_cons (ps_if (pt_cmpR op_eqI (pv 0) pe_int (nomark _))
      (pss_one (ps_ret (pe_cmpR op_eqI (pv 1) (pe_op op_mod (pe_callTy cr_intI (by rfl) T.int (by decide +kernel) (pa_cons (pv 5) pa_nil)) (pv 2)) (nomark _))))
      pss_nil)
      (pss_cons (ps_if (pt_cmpR op_eqI (pv 0) pe_int (nomark _))
      (pss_one (ps_ret (pe_cmpR op_eqI (pe_op op_mod (pe_callTy cr_intI (by rfl) T.int (by decide +kernel) (pa_cons (pv 4) pa_nil)) pe_int) pe_int (nomark _))))
      pss_nil)
      (pss_cons (ps_if (pt_cmpR op_eqI (pv 0) pe_int (nomark _))
      (pss_one (ps_ret (pe_cmpR op_eqI (pe_op op_mod (pe_callTy cr_intI (by rfl) T.int (by decide +kernel) (pa_cons (pv 4) pa_nil)) pe_int) pe_int (nomark _))))
      pss_nil)
      (pss_cons (ps_if (pt_cmpR op_eqI (pv 0) pe_int (nomark _))
      (pss_one (ps_ret (pe_cmpR op_neI (pe_op op_mod (pe_callTy cr_intI (by rfl) T.int (by decide +kernel) (pa_cons (pv 4) pa_nil)) pe_int) pe_int (nomark _))))
      pss_nil)
      (pss_one (ps_ret (pe_cmpR op_eqI (pv 2) (pe_op op_add (pv 1) pe_int) (nomark _))))))))))), ?_⟩
    walk_at "rd"
    repeat (first | exact q _ _ (Same.refl _) | exact hb | decide | refine ⟨?_, ?_⟩ | refine ite2 (fun _ => ?_) (fun _ => ?_) | split)
end

abbrev sDrs : Stmt := topS 28
/-- min and max of the two names -/
def mm (xs : List Int) (p : Nat × Nat) : Pr := (if xs.getD p.2 0 < xs.getD p.1 0 then xs.getD p.2 0 else xs.getD p.1 0, if xs.getD p.2 0 > xs.getD p.1 0 then xs.getD p.2 0 else xs.getD p.1 0)
/-- pairs that have been met when the outer loop stands at b, the inner at a -/
structure Vis (r b a : Nat) (L : List (Nat × Nat)) : Prop where
  ok : ∀ p ∈ L, p.1 < p.2 ∧ p.2 < r ∧ (p.2 < b ∨ (p.2 = b ∧ p.1 < a))
  nd : L.Nodup
theorem Vis.zero (r : Nat) : Vis r 1 0 [] := ⟨fun p h => (by cases h), List.nodup_nil⟩
theorem Vis.skip {r b a : Nat} {L : List (Nat × Nat)} (h : Vis r b a L) : Vis r b (a + 1) L := by
  refine ⟨fun p hp => ?_, h.nd⟩
  have := h.ok p hp
  omega
theorem Vis.row {r b : Nat} {L : List (Nat × Nat)} (h : Vis r b b L) : Vis r (b + 1) 0 L := by
  refine ⟨fun p hp => ?_, h.nd⟩
  have := h.ok p hp
  omega
theorem Vis.more {r b a : Nat} {L : List (Nat × Nat)} (h : Vis r b a L) (hb : b < r) (ha : a < b) : Vis r b (a + 1) (L ++ [(a, b)]) := by
  refine ⟨fun p hp => ?_, ?_⟩
  · rcases List.mem_append.mp hp with hp | hp
    · have := h.ok p hp
      omega
    · rw [List.mem_singleton.mp hp]
      exact ⟨ha, hb, .inr ⟨rfl, Nat.lt_succ_self a⟩⟩
  · refine List.nodup_append.mpr ⟨h.nd, by simp, fun p hp q hq => ?_⟩
    rw [List.mem_singleton.mp hq]
    rintro rfl
    have := h.ok _ hp
    simp only at this
    omega
theorem rg_nodup (n : Nat) : (rg n).Nodup := by
  unfold rg
  exact List.pairwise_map.mpr (List.Pairwise.imp (fun {x y} h e => h (Int.ofNat.inj e)) List.nodup_range)
theorem rg_mem {n : Nat} {x : Int} (h : x ∈ rg n) : 0 ≤ x ∧ x < n := by
  obtain ⟨i, hi, rfl⟩ := List.mem_map.mp h
  have := List.mem_range.mp hi
  show 0 ≤ (i : Int) ∧ (i : Int) < n
  omega
/-- names: each room once -/
structure Nms (r : Nat) (xs : List Int) : Prop where
  pm : xs.Perm (rg r)
theorem Nms.len {r : Nat} {xs : List Int} (h : Nms r xs) : xs.length = r := by rw [h.pm.length_eq, rg_len]
theorem Nms.nd {r : Nat} {xs : List Int} (h : Nms r xs) : xs.Nodup := h.pm.nodup_iff.mpr (rg_nodup r)
theorem Nms.bd {r : Nat} {xs : List Int} (h : Nms r xs) {i : Nat} (hi : i < r) : 0 ≤ xs.getD i 0 ∧ xs.getD i 0 < r := by
  have hl := h.len
  have e : xs.getD i 0 = xs[i] := by rw [List.getD_eq_getElem?_getD, List.getElem?_eq_getElem (by omega)]; rfl
  rw [e]
  exact rg_mem (h.pm.mem_iff.mp (List.getElem_mem _))
theorem Nms.inj {r : Nat} {xs : List Int} (h : Nms r xs) {i j : Nat} (hi : i < r) (hj : j < r) (e : xs.getD i 0 = xs.getD j 0) : i = j := by
  have hl := h.len
  have e1 : xs.getD i 0 = xs[i] := by rw [List.getD_eq_getElem?_getD, List.getElem?_eq_getElem (by omega)]; rfl
  have e2 : xs.getD j 0 = xs[j] := by rw [List.getD_eq_getElem?_getD, List.getElem?_eq_getElem (by omega)]; rfl
  rw [e1, e2] at e
  refine nd_ix h.nd (List.getElem?_eq_getElem (by omega)) ?_
  rw [e]
  exact List.getElem?_eq_getElem (by omega)
theorem mm_ok {r : Nat} {xs : List Int} (h : Nms r xs) {p : Nat × Nat} (h1 : p.1 < p.2) (h2 : p.2 < r) : 0 ≤ (mm xs p).1 ∧ (mm xs p).1 < (mm xs p).2 ∧ (mm xs p).2 < r := by
  have a := h.bd (i := p.1) (by omega)
  have b := h.bd (i := p.2) h2
  have ne : xs.getD p.1 0 ≠ xs.getD p.2 0 := fun e => by
    have := h.inj (i := p.1) (j := p.2) (by omega) h2 e
    omega
  unfold mm
  simp only
  split <;> split <;> omega
theorem mm_inj {r : Nat} {xs : List Int} (h : Nms r xs) {p q : Nat × Nat} (p1 : p.1 < p.2) (p2 : p.2 < r) (q1 : q.1 < q.2) (q2 : q.2 < r) (e : mm xs p = mm xs q) : p = q := by
  have e1 := congrArg Prod.fst e
  have e2 := congrArg Prod.snd e
  unfold mm at e1 e2
  simp only at e1 e2
  have k : (xs.getD p.1 0 = xs.getD q.1 0 ∧ xs.getD p.2 0 = xs.getD q.2 0) ∨ (xs.getD p.1 0 = xs.getD q.2 0 ∧ xs.getD p.2 0 = xs.getD q.1 0) := by
    split at e1 <;> split at e1 <;> split at e2 <;> split at e2 <;> omega
  rcases k with ⟨k1, k2⟩ | ⟨k1, k2⟩
  · have a := h.inj (by omega) (by omega) k1
    have b := h.inj (by omega) (by omega) k2
    exact Prod.ext a b
  · have a := h.inj (by omega) (by omega) k1
    have b := h.inj (by omega) (by omega) k2
    omega
theorem vis_nd {r b a : Nat} {xs : List Int} {L : List (Nat × Nat)} (h : Nms r xs) (v : Vis r b a L) : (L.map (mm xs)).Nodup := by
  refine List.pairwise_map.mpr (List.Pairwise.imp_of_mem (fun {p q} hp hq hne e => ?_) v.nd)
  have a := v.ok p hp
  have b := v.ok q hq
  exact hne (mm_inj h a.1 a.2.1 b.1 b.2.1 e)
theorem vis_ok {r b a : Nat} {xs : List Int} {L : List (Nat × Nat)} (h : Nms r xs) (v : Vis r b a L) : ∀ d ∈ L.map (mm xs), 0 ≤ d.1 ∧ d.1 < d.2 ∧ d.2 < r := fun d hd => by
  obtain ⟨p, hp, rfl⟩ := List.mem_map.mp hd
  have a := v.ok p hp
  exact mm_ok h a.1 a.2.1
theorem tri {b : Nat} (h : b ≤ 11) : (b : Int) * ((b : Int) - 1) / 2 ≤ 55 ∧ 0 ≤ (b : Int) * ((b : Int) - 1) / 2 := by
  have : b = 0 ∨ b = 1 ∨ b = 2 ∨ b = 3 ∨ b = 4 ∨ b = 5 ∨ b = 6 ∨ b = 7 ∨ b = 8 ∨ b = 9 ∨ b = 10 ∨ b = 11 := by omega
  rcases this with rfl | rfl | rfl | rfl | rfl | rfl | rfl | rfl | rfl | rfl | rfl | rfl <;> decide
section
variable {P : Program} {w : World} {K : PySem.W.Frag} {mg : Str → Option Value} {base : Heap}
theorem scDrs : FnScope ["numbers", "rooms", "kind", "names", "doors", "b", "first", "a"] ["numbers", "rooms"] (defScope sDrs) := ⟨rfl, rfl, rfl, by decide +kernel, rfl, by decide +kernel, by decide +kernel⟩
def spDrs (K : PySem.W.Frag) : Sp := fun vs H Q _ => ∃ (a : Addr) (ns : List Int) (r : Nat), vs = [.ref a, .int r] ∧ SqL K H a (ns.map V.int) ∧ 79 ≤ ns.length ∧ 1 ≤ r ∧ r ≤ 12 ∧
  ∀ D vs p H', Drs r D → Same H H' → H p = none → H' p = some (.lst vs) → PL H' vs D → Q (.ref p) H'
theorem ok_drs {f fN fJ : Addr} {fd fdN fdJ : FuncData} (F : Fun K "_law_doors" "_law_doors" sDrs f fd) (T : Bi mg) (d__law_names : Df P w K mg base "_law_names" ["numbers", "at", "rooms"] 1 (spNam K) fN fdN)
    (d__law_joined : Df P w K mg base "_law_joined" ["kind", "a", "b", "rooms", "number", "parent"] 1 spJnd fJ fdJ) : FnOk P w K mg base CX0 2 f fd ["numbers", "rooms"] (spDrs K) := by
  refine F.ok scDrs (fun vs H Q E h => ?_) (fun cdv A outer s H vs Q E hr h => ?_)
  · obtain ⟨a, ns, r, rfl, _⟩ := h
    rfl
  · obtain ⟨a, ns, r, rfl, hS, hn, hr1, hr12, q⟩ := h
    refine ⟨_, (pss_cons (ps_set (i := 2) scDrs.nd rfl (Or.inl rfl) (pe_op op_mod (pe_callTy cr_intI (by rfl) T.int (by decide +kernel) (pa_cons (pe_ix ix_list (pv 0) pe_int (fun _ _ => rfl)) pa_nil)) pe_int))
      (pss_cons (ps_set (i := 3) scDrs.nd rfl (Or.inl rfl) (pe_call d__law_names.ok (hr.mono (by decide)) (by rfl) d__law_names.at_ d__law_names.kp d__law_names.b .nil pass0 (pa_cons (pv 0) (pa_cons pe_int (pa_cons (pv 1) pa_nil)))))
      (pss_cons (ps_set (i := 4) scDrs.nd rfl (Or.inl rfl) (pe_lst pa_nil))
      (pss_cons (ps_for PassesOwn.never rfl (pi_range2 (by rfl) T.range (pa_cons pe_int (pa_cons (pv 1) pa_nil))) (pg_name (i := 5) scDrs.nd rfl (Or.inl rfl))
      (pss_cons (ps_set (i := 6) scDrs.nd rfl (Or.inl rfl) (pe_op op_add (pe_op op_add pe_int (pv 1)) (pe_op op_fdiv (pe_op op_mul (pv 5) (pe_op op_sub (pv 5) pe_int)) pe_int)))
        (pss_one (ps_for PassesOwn.never rfl (pi_range1 (by rfl) T.range (pa_cons (pv 5) pa_nil)) (pg_name (i := 7) scDrs.nd rfl (Or.inl rfl))
        (pss_one (ps_if (pt_val (pe_call d__law_joined.ok (hr.mono (by decide)) (by rfl) d__law_joined.at_ d__law_joined.kp d__law_joined.b .nil pass0 (pa_cons (pv 2) (pa_cons (pv 7) (pa_cons (pv 5) (pa_cons (pv 1) (pa_cons (pe_ix ix_list (pv 0) (pe_op op_add (pv 6) (pv 7)) (fun _ _ => rfl)) (pa_cons (pe_ix ix_list (pv 0) (pv 6) (fun _ _ => rfl)) pa_nil))))))))
          (pss_one (ps_expr (pe_bm PySem.F.plainAttrs_list PySem.F.slot_list_append PySem.F.type_list_append mt_append (pv 4) (pa_cons (pe_tup (pa_cons (pe_callB (call_min2 rfl) (by rfl) T.min (by decide +kernel) (pa_cons (pe_ix ix_list (pv 3) (pv 7) (fun _ _ => rfl)) (pa_cons (pe_ix ix_list (pv 3) (pv 5) (fun _ _ => rfl)) pa_nil))) (pa_cons (pe_callB (call_max2 rfl) (by rfl) T.max (by decide +kernel) (pa_cons (pe_ix ix_list (pv 3) (pv 7) (fun _ _ => rfl)) (pa_cons (pe_ix ix_list (pv 3) (pv 5) (fun _ _ => rfl)) pa_nil))) pa_nil))) pa_nil))))
          pss_nil))))))
      (pss_one (ps_ret (pe_callB cr_sortedPO (by rfl) T.sorted (by decide +kernel) (pa_cons (pv 4) pa_nil)))))))), ?_⟩
    have at_n : ∀ (k : Nat) (hk : k < ns.length), (ns.map V.int)[k]? = some (.int ns[k]) := fun k hk => by
      rw [List.getElem?_map, List.getElem?_eq_getElem hk]
      rfl
    walk_at "rd"
    refine ⟨_, hS, .int ns[0], at_of (j := 0) rfl (at_n 0 (by omega)), _, rfl, by decide, a, ns, 1, r, rfl, hS, by omega, by omega, fun xs pn H1 pm s1 nn hN => ?_⟩
    have N : Nms r xs := ⟨pm⟩
    have hl := N.len
    walk_at "rd"
    refine ⟨Nat.zero_le _, fun p np => ?_⟩
    obtain ⟨Pv, hPv⟩ : ∃ Pv : Nat → L2.St → Hp → Prop, Pv = (fun i σ H' => ∃ (L : List (Nat × Nat)) (vs : List V) (v5 v6 v7 : Option V), σ = [some (.ref a), some (.int r), some (.int (ns[0] % 8)), some (.ref pn), some (.ref p), v5, v6, v7] ∧ Vis r (i + 1) 0 L ∧ Same H1 H' ∧ H' p = some (.lst vs) ∧ PL H' vs (L.map (mm xs))) := ⟨_, rfl⟩
    refine ⟨_, rfl, 1, (r : Int), rfl, ⟨by omega, by omega, by omega, by omega⟩, for_range (lo := 1) (n := ((r : Int) - 1).toNat) Pv (by rw [hPv]; exact ⟨[], [], none, none, none, rfl, Vis.zero r, same_upd np, upd_same, PL.nil0 _⟩) ?_ ?_⟩
    · rintro i σ H' hi pv
      have nxt : ∀ L vs v5 v6 v7 H', Vis r (i + 1 + 1) 0 L → Same H1 H' → H' p = some (.lst vs) → PL H' vs (L.map (mm xs)) → Pv (i + 1) [some (.ref a), some (.int r), some (.int (ns[0] % 8)), some (.ref pn), some (.ref p), v5, v6, v7] H' := fun L vs v5 v6 v7 H' h1 h2 h3 h4 => by
        rw [hPv]
        exact ⟨L, vs, v5, v6, v7, rfl, h1, h2, h3, h4⟩
      rw [hPv] at pv
      obtain ⟨L, vs, v5, v6, v7, rfl, vis, s2, hp, pl⟩ := pv
      have hb : i + 1 ≤ 11 := by omega
      have tr := tri hb
      have eb : (1 : Int) + (i : Int) = ((i + 1 : Nat) : Int) := by omega
      obtain ⟨fi, hfi⟩ : ∃ fi : Nat, (1 : Int) + (r : Int) + (1 + (i : Int)) * (1 + (i : Int) - 1) / 2 = fi ∧ fi ≤ 68 := by
        rw [eb]
        exact ⟨(1 + (r : Int) + ((i + 1 : Nat) : Int) * (((i + 1 : Nat) : Int) - 1) / 2).toNat, by omega, by omega⟩
      walk_at "rd"
      refine ⟨.inl (by omega), ⟨by decide, by decide⟩, ?_⟩
      rw [hfi.1]
      obtain ⟨Pw, hPw⟩ : ∃ Pw : Nat → L2.St → Hp → Prop, Pw = (fun j σ H' => ∃ (L : List (Nat × Nat)) (vs : List V) (v7 : Option V), σ = [some (.ref a), some (.int r), some (.int (ns[0] % 8)), some (.ref pn), some (.ref p), some (.int (1 + (i : Int))), some (.int fi), v7] ∧ Vis r (i + 1) j L ∧ Same H1 H' ∧ H' p = some (.lst vs) ∧ PL H' vs (L.map (mm xs))) := ⟨_, rfl⟩
      refine ⟨_, rfl, 1 + (i : Int), rfl, by omega, by omega, for_range (lo := 0) (n := (1 + (i : Int)).toNat) Pw (by rw [hPw]; exact ⟨L, vs, v7, rfl, vis, s2, hp, pl⟩) ?_ ?_⟩
      · clear hp pl s2 vis vs L v7
        rintro j σ H' hj pv
        have nxw : ∀ L vs v7 H', Vis r (i + 1) (j + 1) L → Same H1 H' → H' p = some (.lst vs) → PL H' vs (L.map (mm xs)) → Pw (j + 1) [some (.ref a), some (.int r), some (.int (ns[0] % 8)), some (.ref pn), some (.ref p), some (.int (1 + (i : Int))), some (.int fi), v7] H' := fun L vs v7 H' h1 h2 h3 h4 => by
          rw [hPw]
          exact ⟨L, vs, v7, rfl, h1, h2, h3, h4⟩
        rw [hPw] at pv
        obtain ⟨L, vs, v7, rfl, vis, s2, hp, pl⟩ := pv
        have hjb : j < i + 1 := by omega
        have hS' : SqL K H' a (ns.map V.int) := s2.seq (s1.seq hS)
        have hN' : SqL K H' pn (xs.map V.int) := s2.seq (SqL.of hN)
        have gj : (xs.map V.int)[j]? = some (.int (xs.getD j 0)) := by rw [List.getElem?_map, List.getElem?_eq_getElem (by omega), List.getD_eq_getElem?_getD, List.getElem?_eq_getElem (by omega)]; rfl
        have gi : (xs.map V.int)[i + 1]? = some (.int (xs.getD (i + 1) 0)) := by rw [List.getElem?_map, List.getElem?_eq_getElem (by omega), List.getD_eq_getElem?_getD, List.getElem?_eq_getElem (by omega)]; rfl
        have small : vs.length ≤ 66 := by
          rw [pl.len]
          exact drs_len' hr12 (vis_nd N vis) (vis_ok N vis)
        walk_at "rd"
        refine ⟨_, hS', .int ns[fi + j], at_of (j := fi + j) (by omega) (at_n _ (by omega)), _, hS', .int ns[fi], at_of (j := fi) rfl (at_n _ (by omega)), ?_⟩
        refine ⟨_, _, _, _, _, _, rfl, by omega, ⟨Int.emod_nonneg _ (by decide), Int.emod_lt_of_pos _ (by decide)⟩, fun c H' s3 => ?_⟩
        have hS' := s3.seq hS'
        have hN' := s3.seq hN'
        have hp := s3 _ _ hp
        have pl := pl.kt (KT.same s3)
        have s2 := s2.trans s3
        refine ⟨_, rfl, ite2 (fun _ => ?_) (fun _ => nxw L vs _ _ vis.skip s2 hp pl)⟩
        refine ⟨.inl ⟨rfl, _, SqL.of hp⟩, _, hN', .int (xs.getD j 0), at_of (j := j) (by omega) gj, _, hN', .int (xs.getD (i + 1) 0), at_of (j := i + 1) (by omega) gi, ?_⟩
        refine ⟨_, rfl, _, rfl, _, hN', .int (xs.getD j 0), at_of (j := j) (by omega) gj, _, hN', .int (xs.getD (i + 1) 0), at_of (j := i + 1) (by omega) gi, _, rfl, _, rfl, ?_⟩
        refine ⟨by decide, fun t nt => ⟨vs, ?_, len_big (by omega), ?_⟩⟩
        · rw [upd_ne (ne_of_none hp nt)]
          exact hp
        · have np' : p ≠ t := ne_of_none hp nt
          refine nxw (L ++ [(j, i + 1)]) (vs ++ [.ref t]) _ _ (vis.more (by omega) hjb) (same_ch (s2.trans (same_upd nt)) np) upd_same ?_
          rw [List.map_append]
          refine PL.snoc ((pl.kt (KT.new nt)).kt (KT.lst (by rw [upd_ne np']; exact hp))) ⟨t, rfl, ?_⟩
          rw [upd_ne np'.symm, upd_same]
          rfl
      · clear hp pl s2 vis vs L v7
        rintro σ H' pv
        rw [hPw] at pv
        obtain ⟨L, vs, v7, rfl, vis, s2, hp, pl⟩ := pv
        have e : (1 + (i : Int)).toNat = i + 1 := by omega
        rw [e] at vis
        exact nxt L vs _ _ _ _ vis.row s2 hp pl
    · rintro σ H' pv
      rw [hPv] at pv
      obtain ⟨L, vs, v5, v6, v7, rfl, vis, s2, hp, pl⟩ := pv
      walk_at "rd"
      obtain ⟨k1, k2⟩ := pl.toK
      refine ⟨p, vs, kH H', rfl, SqL.of hp, k2, fun ys t so st nt => ?_⟩
      have pmy := st.perm
      have hy : ∀ v ∈ ys, IsP H' v (kH H' v) := fun v hv => k2 v (pmy.mem_iff.mp hv)
      have nd : (ys.map (kH H')).Nodup := by
        refine (pmy.map _).nodup_iff.mpr ?_
        rw [← k1]
        exact vis_nd N vis
      refine q (ys.map (kH H')) ys t _ ⟨srtd_asc nd so, fun d hd => ?_⟩ ?_ ?_ upd_same ((PL.ofK hy).kt (KT.new nt))
      · refine vis_ok N vis d ?_
        rw [k1]
        exact (pmy.map _).mem_iff.mp hd
      · exact ((s1.trans s2).trans (same_upd nt))
      · exact (s1.trans s2).free nt
end

abbrev sSame : Stmt := topS 42
/-- isinstance of built-in kinds -/
def isTy (m n : String) : Bool := m == n || (m == "bool" && n == "int")
theorem kit5 {K : PySem.W.Frag} {m n : String} (hm : m = "bool" ∨ m = "int" ∨ m = "str" ∨ m = "list" ∨ m = "tuple") (hn : n = "bool" ∨ n = "int" ∨ n = "str" ∨ n = "list" ∨ n = "tuple") : PySem.W.kitOne K (.type m) (.type n) = some (isTy m n) := by
  rcases hm with rfl | rfl | rfl | rfl | rfl <;> rcases hn with rfl | rfl | rfl | rfl | rfl <;> exact kit_ty (by decide +kernel)
def rIs5 (K : PySem.W.Frag) : List V → Hp → VK → Prop := fun xs H Q => ∃ (x : V) (n m : String), xs = [x, .ty n] ∧ TyX K H x (.type m) ∧ (m = "bool" ∨ m = "int" ∨ m = "str" ∨ m = "list" ∨ m = "tuple") ∧ (n = "bool" ∨ n = "int" ∨ n = "str" ∨ n = "list" ∨ n = "tuple") ∧ Q (.bl (isTy m n)) H
theorem cr_is5 {X : Cx} : CallR X (.builtin "isinstance") (rIs5 X.K) := fun pins s σ H xs us Q I r h => by
  obtain ⟨x, n, m, rfl, ty, hm, hn, q⟩ := h
  exact call_isi pins s σ H _ us Q I r ⟨x, .ty n, _, _, _, rfl, .ty n, ty, kit5 hm hn, q⟩
theorem is5_of {K : PySem.W.Frag} {H : Hp} {x : V} {n m : String} {Q : VK} (ty : TyX K H x (.type m)) (hm : m = "bool" ∨ m = "int" ∨ m = "str" ∨ m = "list" ∨ m = "tuple") (hn : n = "bool" ∨ n = "int" ∨ n = "str" ∨ n = "list" ∨ n = "tuple") (q : Q (.bl (isTy m n)) H) : rIs5 K [x, .ty n] H Q :=
  ⟨x, n, m, rfl, ty, hm, hn, q⟩
theorem eqS_of {H : Hp} {x : V} {Q : VK} (h : scal x x = true) (q : Q (.bl true) H) : rEq x x H Q := ⟨h, by rw [decide_eq_true rfl]; exact q⟩
local macro_rules | `(tactic| walk_at "i5") => `(tactic| ((first | refine is5_of (.base (.int _)) (by decide) (by decide) ?_ | refine is5_of (.base (.str _)) (by decide) (by decide) ?_ | refine is5_of (.base (.bl _)) (by decide) (by decide) ?_ | refine is5_of (.base (.lst (by assumption))) (by decide) (by decide) ?_ | refine is5_of (.base (.tup (by assumption))) (by decide) (by decide) ?_)))
local macro_rules | `(tactic| walk_at "i6") => `(tactic| (simp only [rIsT, isTy, String.reduceBEq, Bool.or_false, Bool.or_true, Bool.and_false, Bool.and_true, Bool.true_or, Bool.false_or, Bool.true_and, Bool.false_and, reduceCtorEq, decide_false, decide_true, V.bl.injEq, exists_eq_left', if_true, if_false, Bool.false_eq_true, ↓reduceIte, Bool.not_true, Bool.not_false, ite_self]))
def flat4 : V → Bool
  | .non => true
  | .bl _ => true
  | .int _ => true
  | .str _ => true
  | _ => false
/-- the same data, of at most this depth, the lists and tuples tracked -/
def Sm (H : Hp) : Nat → V → V → Prop
  | 0, x, y => x = y ∧ flat4 x = true
  | n + 1, x, y => (x = y ∧ flat4 x = true) ∨ ∃ a b xs ys, x = .ref a ∧ y = .ref b ∧ ((H a = some (.lst xs) ∧ H b = some (.lst ys)) ∨ (H a = some (.tup xs) ∧ H b = some (.tup ys))) ∧ Paired (Sm H n) xs ys ∧ xs.length ≤ 100000
theorem Sm.flat {H : Hp} {n : Nat} {x : V} (h : flat4 x = true) : Sm H n x x := by
  cases n with
  | zero => exact ⟨rfl, h⟩
  | succ n => exact .inl ⟨rfl, h⟩
theorem paired_get {α β : Type} {F : α → β → Prop} : ∀ {xs : List α} {ys : List β} {i : Nat}, Paired F xs ys → i < xs.length → ∃ x y, xs[i]? = some x ∧ ys[i]? = some y ∧ F x y
  | _, _, _, .nil, h => by cases h
  | _, _, 0, .cons r _, _ => ⟨_, _, rfl, rfl, r⟩
  | _, _, i + 1, .cons _ t, h => paired_get (i := i) t (Nat.lt_of_succ_lt_succ h)
section
variable {P : Program} {w : World} {K : PySem.W.Frag} {mg : Str → Option Value} {base : Heap}
theorem scSame : FnScope ["got", "due", "k"] ["got", "due"] (defScope sSame) := ⟨rfl, rfl, rfl, by decide +kernel, rfl, by decide +kernel, by decide +kernel⟩
def spSame (n : Nat) : Sp := fun vs H Q _ => ∃ x y, vs = [x, y] ∧ Sm H n x y ∧ Q (.bl true) H
theorem ok_same {f : Addr} {fd : FuncData} (F : Fun K "_law_same" "_law_same" sSame f fd) (T : Bi mg) (bd : Binds K fd ["got", "due"] []) (hmg : mg "_law_same" = some (.ref f)) : ∀ n, FnOk P w K mg base CX0 (n + 1) f fd ["got", "due"] (spSame n) := by
  intro n
  induction n with
  | zero =>
    refine F.ok scSame (fun vs H Q E h => ?_) (fun cdv A outer s H vs Q E hr h => ?_)
    · obtain ⟨x, y, rfl, _⟩ := h
      rfl
    · obtain ⟨x, y, rfl, ⟨rfl, hf⟩, q⟩ := h
      refine ⟨_, (pss_cons (ps_if (pt_cmpR op_isN (pv 1) pe_non (nomark _))
      (pss_one (ps_ret (pe_cmpR op_isN (pv 0) pe_non (nomark _))))
      pss_nil)
      (pss_cons (ps_if (pt_cmpR op_isT (pv 1) pe_bl (nomark _))
      (pss_one (ps_ret (pe_cmpR op_isT (pv 0) pe_bl (nomark _))))
      pss_nil)
      (pss_cons (ps_if (pt_cmpR op_isT (pv 1) pe_bl (nomark _))
      (pss_one (ps_ret (pe_cmpR op_isT (pv 0) pe_bl (nomark _))))
      pss_nil)
      (pss_cons (ps_if (pt_val (pe_callB cr_is5 (by rfl) T.isinstance (by decide +kernel) (pa_cons (pv 1) (pa_cons (pe_bltn (v := .ty "int") (by rfl) T.int (by decide +kernel) rfl) pa_nil))))
      (pss_one (ps_ret (pe_and (pe_callB cr_is5 (by rfl) T.isinstance (by decide +kernel) (pa_cons (pv 0) (pa_cons (pe_bltn (v := .ty "int") (by rfl) T.int (by decide +kernel) rfl) pa_nil))) (pe_and (pe_not (pe_callB cr_is5 (by rfl) T.isinstance (by decide +kernel) (pa_cons (pv 0) (pa_cons (pe_bltn (v := .ty "bool") (by rfl) T.bool (by decide +kernel) rfl) pa_nil)))) (pe_one (pe_cmpR op_eq (pv 0) (pv 1) (nomark _)))))))
      pss_nil)
      (pss_cons (ps_if (pt_val (pe_callB cr_is5 (by rfl) T.isinstance (by decide +kernel) (pa_cons (pv 1) (pa_cons (pe_bltn (v := .ty "str") (by rfl) T.str (by decide +kernel) rfl) pa_nil))))
      (pss_one (ps_ret (pe_and (pe_callB cr_is5 (by rfl) T.isinstance (by decide +kernel) (pa_cons (pv 0) (pa_cons (pe_bltn (v := .ty "str") (by rfl) T.str (by decide +kernel) rfl) pa_nil))) (pe_one (pe_cmpR op_eq (pv 0) (pv 1) (nomark _))))))
      pss_nil)
      (pss_cons (ps_if (PW.pt (pw_and (pt_val (pe_callB cr_is5 (by rfl) T.isinstance (by decide +kernel) (pa_cons (pv 1) (pa_cons (pe_bltn (v := .ty "list") (by rfl) T.list (by decide +kernel) rfl) pa_nil)))) (pw_and1 (pt_not (pt_val (pe_callB cr_is5 (by rfl) T.isinstance (by decide +kernel) (pa_cons (pv 0) (pa_cons (pe_bltn (v := .ty "list") (by rfl) T.list (by decide +kernel) rfl) pa_nil))))))))
      (pss_one (ps_ret pe_bl))
      pss_nil)
      (pss_cons (ps_if (PW.pt (pw_and (pt_val (pe_callB cr_is5 (by rfl) T.isinstance (by decide +kernel) (pa_cons (pv 1) (pa_cons (pe_bltn (v := .ty "tuple") (by rfl) T.tuple (by decide +kernel) rfl) pa_nil)))) (pw_and1 (pt_not (pt_val (pe_callB cr_is5 (by rfl) T.isinstance (by decide +kernel) (pa_cons (pv 0) (pa_cons (pe_bltn (v := .ty "tuple") (by rfl) T.tuple (by decide +kernel) rfl) pa_nil))))))))
      (pss_one (ps_ret pe_bl))
      pss_nil)
      (pss_cons (ps_if (pt_cmpR op_neI (pe_callB call_len_seq (by rfl) T.len (by decide +kernel) (pa_cons (pv 0) pa_nil)) (pe_callB call_len_seq (by rfl) T.len (by decide +kernel) (pa_cons (pv 1) pa_nil)) (nomark _))
      (pss_one (ps_ret pe_bl))
      pss_nil)
      (pss_cons (ps_never)
      (pss_one (ps_ret pe_bl))))))))))), ?_⟩
      walk_at "rd"
      cases x with
      | non => walk_at "i6"; exact q
      | bl b =>
        cases b with
        | true => walk_at "i6"; exact q
        | false => walk_at "i6"; exact q
      | int i =>
        walk_at "i6"
        repeat (walk_at "i5"; walk_at "i6")
        exact eqS_of rfl q
      | str z =>
        walk_at "i6"
        repeat (walk_at "i5"; walk_at "i6")
        exact eqS_of rfl q
      | _ => cases hf
  | succ n ih =>
    refine F.ok scSame (fun vs H Q E h => ?_) (fun cdv A outer s H vs Q E hr h => ?_)
    · obtain ⟨x, y, rfl, _⟩ := h
      rfl
    · obtain ⟨x, y, rfl, hs, q⟩ := h
      refine ⟨_, (pss_cons (ps_if (pt_cmpR op_isN (pv 1) pe_non (nomark _))
      (pss_one (ps_ret (pe_cmpR op_isN (pv 0) pe_non (nomark _))))
      pss_nil)
      (pss_cons (ps_if (pt_cmpR op_isT (pv 1) pe_bl (nomark _))
      (pss_one (ps_ret (pe_cmpR op_isT (pv 0) pe_bl (nomark _))))
      pss_nil)
      (pss_cons (ps_if (pt_cmpR op_isT (pv 1) pe_bl (nomark _))
      (pss_one (ps_ret (pe_cmpR op_isT (pv 0) pe_bl (nomark _))))
      pss_nil)
      (pss_cons (ps_if (pt_val (pe_callB cr_is5 (by rfl) T.isinstance (by decide +kernel) (pa_cons (pv 1) (pa_cons (pe_bltn (v := .ty "int") (by rfl) T.int (by decide +kernel) rfl) pa_nil))))
      (pss_one (ps_ret (pe_and (pe_callB cr_is5 (by rfl) T.isinstance (by decide +kernel) (pa_cons (pv 0) (pa_cons (pe_bltn (v := .ty "int") (by rfl) T.int (by decide +kernel) rfl) pa_nil))) (pe_and (pe_not (pe_callB cr_is5 (by rfl) T.isinstance (by decide +kernel) (pa_cons (pv 0) (pa_cons (pe_bltn (v := .ty "bool") (by rfl) T.bool (by decide +kernel) rfl) pa_nil)))) (pe_one (pe_cmpR op_eq (pv 0) (pv 1) (nomark _)))))))
      pss_nil)
      (pss_cons (ps_if (pt_val (pe_callB cr_is5 (by rfl) T.isinstance (by decide +kernel) (pa_cons (pv 1) (pa_cons (pe_bltn (v := .ty "str") (by rfl) T.str (by decide +kernel) rfl) pa_nil))))
      (pss_one (ps_ret (pe_and (pe_callB cr_is5 (by rfl) T.isinstance (by decide +kernel) (pa_cons (pv 0) (pa_cons (pe_bltn (v := .ty "str") (by rfl) T.str (by decide +kernel) rfl) pa_nil))) (pe_one (pe_cmpR op_eq (pv 0) (pv 1) (nomark _))))))
      pss_nil)
      (pss_cons (ps_if (PW.pt (pw_and (pt_val (pe_callB cr_is5 (by rfl) T.isinstance (by decide +kernel) (pa_cons (pv 1) (pa_cons (pe_bltn (v := .ty "list") (by rfl) T.list (by decide +kernel) rfl) pa_nil)))) (pw_and1 (pt_not (pt_val (pe_callB cr_is5 (by rfl) T.isinstance (by decide +kernel) (pa_cons (pv 0) (pa_cons (pe_bltn (v := .ty "list") (by rfl) T.list (by decide +kernel) rfl) pa_nil))))))))
      (pss_one (ps_ret pe_bl))
      pss_nil)
      (pss_cons (ps_if (PW.pt (pw_and (pt_val (pe_callB cr_is5 (by rfl) T.isinstance (by decide +kernel) (pa_cons (pv 1) (pa_cons (pe_bltn (v := .ty "tuple") (by rfl) T.tuple (by decide +kernel) rfl) pa_nil)))) (pw_and1 (pt_not (pt_val (pe_callB cr_is5 (by rfl) T.isinstance (by decide +kernel) (pa_cons (pv 0) (pa_cons (pe_bltn (v := .ty "tuple") (by rfl) T.tuple (by decide +kernel) rfl) pa_nil))))))))
      (pss_one (ps_ret pe_bl))
      pss_nil)
      (pss_cons (ps_if (pt_cmpR op_neI (pe_callB call_len_seq (by rfl) T.len (by decide +kernel) (pa_cons (pv 0) pa_nil)) (pe_callB call_len_seq (by rfl) T.len (by decide +kernel) (pa_cons (pv 1) pa_nil)) (nomark _))
      (pss_one (ps_ret pe_bl))
      pss_nil)
      (pss_cons (ps_for PassesOwn.never rfl (pi_range1 (by rfl) T.range (pa_cons (pe_callB call_len_seq (by rfl) T.len (by decide +kernel) (pa_cons (pv 1) pa_nil)) pa_nil)) (pg_name (i := 2) scSame.nd rfl (Or.inl rfl))
      (pss_one (ps_if (pt_not (pt_val (pe_call ih hr (by rfl) hmg F.kp bd .nil pass0 (pa_cons (pe_ix ix_seq (pv 0) (pv 2) (fun _ _ => rfl)) (pa_cons (pe_ix ix_seq (pv 1) (pv 2) (fun _ _ => rfl)) pa_nil)))))
        (pss_one (ps_ret pe_bl))
        pss_nil)))
      (pss_one (ps_ret pe_bl))))))))))), ?_⟩
      walk_at "rd"
      rcases hs with ⟨rfl, hf⟩ | ⟨a, b, xs, ys, rfl, rfl, hk, pr, hl⟩
      · skip
        cases x with
        | non => walk_at "i6"; exact q
        | bl b =>
          cases b with
          | true => walk_at "i6"; exact q
          | false => walk_at "i6"; exact q
        | int i =>
          walk_at "i6"
          repeat (walk_at "i5"; walk_at "i6")
          exact eqS_of rfl q
        | str z =>
          walk_at "i6"
          repeat (walk_at "i5"; walk_at "i6")
          exact eqS_of rfl q
        | _ => cases hf
      · have el : xs.length = ys.length := pr.length
        have hx : SqL K H a xs ∨ SqT K H a xs := by
          rcases hk with ⟨ha, _⟩ | ⟨ha, _⟩
          · exact .inl (SqL.of ha)
          · exact .inr (SqT.of ha)
        have hy : SqL K H b ys ∨ SqT K H b ys := by
          rcases hk with ⟨_, ha⟩ | ⟨_, ha⟩
          · exact .inl (SqL.of ha)
          · exact .inr (SqT.of ha)
        have ix : ∀ {zs : List V} {k : Nat} {p : Addr} {v : V} {Q : VK}, (SqL K H p zs ∨ SqT K H p zs) → zs[k]? = some v → Q v H → rIx K (.ref p) (.int k) H Q := fun hz hv hq => by
          rcases hz with hz | hz
          · exact .inl ⟨_, _, _, _, rfl, rfl, hz, atI_nat hv, hq⟩
          · exact .inr (.inl ⟨_, _, _, _, rfl, rfl, hz, atI_nat hv, hq⟩)
        rcases hk with ⟨ha, hb⟩ | ⟨ha, hb⟩
        all_goals
          walk_at "i6"
          repeat (walk_at "i5"; walk_at "i6")
          refine ⟨_, rfl, _, hx, _, rfl, _, hy, ?_⟩
          rw [el, decide_eq_true rfl]
          refine iteF ?_
          obtain ⟨Pv, hPv⟩ : ∃ Pv : Nat → L2.St → Hp → Prop, Pv = (fun i σ H' => ∃ v : Option V, σ = [some (.ref a), some (.ref b), v] ∧ H' = H) := ⟨_, rfl⟩
          refine ⟨_, rfl, b, rfl, ys, hy, ys.length, rfl, by omega, by omega, for_range (lo := 0) (n := ((ys.length : Nat) : Int).toNat) Pv (by rw [hPv]; exact ⟨none, rfl, rfl⟩) ?_ ?_⟩
          · rintro i σ H' hi pv
            have nxt : ∀ v, Pv (i + 1) [some (.ref a), some (.ref b), v] H := fun v => by
              rw [hPv]
              exact ⟨v, rfl, rfl⟩
            rw [hPv] at pv
            obtain ⟨v, rfl, rfl⟩ := pv
            obtain ⟨x1, y1, g1, g2, sm⟩ := paired_get (i := i) pr (by omega)
            walk_at "rd"
            rw [Int.zero_add]
            refine ix hx g1 (ix hy g2 ⟨_, _, rfl, sm, ?_⟩)
            exact ⟨true, rfl, iteF (nxt _)⟩
          · rintro σ H' pv
            rw [hPv] at pv
            obtain ⟨v, rfl, rfl⟩ := pv
            walk_at "rd"
            exact q
end

/-! ### a set of tuples of ints, whatever their number (the table's masks: 7, 31, 127) -/
structure PsR (P : Program) (w : World) (h : Heap) (a : Addr) (L : List (Addr × List Int)) (es : Array (Int × Value)) (ep : Nat) (t : SetTable) : Prop where
  obj : ∃ o, h.get? a = some o ∧ o.ExactSet ∧ o.data = .set es ep t
  rw_ : es.toList = rowsOf P w L
  tb : TabOk t (L.map fun p => thash P w p.2)
  nod : (L.map (·.2)).Nodup
  tps : ∀ p ∈ L, IsT P w h p.2 p.1
  pln : t.plain = true
  ld : w.params.followText "set-order" = true ∨ t.led = true
  rm : L.length * 5 < t.mask * 3
section
variable {P : Program} {w : World} {A : Around} {E : Value → Shared → Prop} {s : Shared}
variable {a : Addr} {L : List (Addr × List Int)} {es : Array (Int × Value)} {ep : Nat} {t : SetTable}
theorem PsR.sz (R : PsR P w s.heap a L es ep t) : es.size = L.length := by
  have e := congrArg List.length R.rw_
  rw [Array.length_toList] at e
  rw [e]
  exact List.length_map _
theorem PsR.psz (R : PsR P w s.heap a L es ep t) : t.place.size = L.length := by
  have e := R.tb.sz
  rw [List.length_map] at e
  exact e
theorem PsR.fts (R : PsR P w s.heap a L es ep t) : t.fits es.size = true := by
  have e1 := R.psz
  have e2 := R.sz
  have e3 := R.rm
  have e4 : t.fill = t.place.size := by
    show t.place.size + t.dummies.size = t.place.size
    rw [R.tb.dm]
    rfl
  show (t.place.size == es.size && decide (t.fill ≤ t.mask)) = true
  rw [e4, e1, e2, beq_self_eq_true, Bool.true_and, decide_eq_true_eq]
  omega
theorem PsR.ent (R : PsR P w s.heap a L es ep t) {i : Nat} {p : Addr × List Int} (g : L[i]? = some p) : es[i]? = some (thash P w p.2, Value.ref p.1) := by
  have e : (rowsOf P w L)[i]? = some (thash P w p.2, Value.ref p.1) := by
    show (L.map _)[i]? = _
    rw [List.getElem?_map, g]
    rfl
  rw [← R.rw_, Array.getElem?_toList] at e
  exact e
theorem PsR.odd (R : PsR P w s.heap a L es ep t) : ¬ t.gaveWay = true := fun z => by
  have m := mask_odd R.tb.mok
  have z2 : (t.mask % 2 == 0) = true := z
  rw [m] at z2
  cases z2
/-- the c-th state of the search for the tuple k -/
abbrev stAt (P : Program) (w : World) (t : SetTable) (k : List Int) (c : Nat) : SetTable.Probe := nth t.mask (t.probeStart (thash P w k)) c
abbrev slAt (P : Program) (w : World) (t : SetTable) (k : List Int) (c : Nat) : Nat := (stAt P w t k c).j
theorem stAt_dm (k : List Int) (c : Nat) : (stAt P w t k c).dummy = none := by
  have all : ∀ (n : Nat) (p : SetTable.Probe), p.dummy = none → (nth t.mask p n).dummy = none := by
    intro n
    induction n with
    | zero => exact fun _ e => e
    | succ n ih =>
      intro p e
      show (nth t.mask (adv t.mask p) n).dummy = none
      exact ih _ (by rw [← adv_eq, advance_dummy]; exact e)
  exact all c _ rfl
theorem stAt_add (k : List Int) (c q : Nat) : nth t.mask (stAt P w t k c) q = stAt P w t k (c + q) := (nth_add t.mask c _ q).symm
theorem psearch (R : PsR P w s.heap a L es ep t) {x : Addr} {k : List Int} (hx : IsT P w s.heap k x) (hu : A.units < cLine) (ad : Bool) {N : Nat} (hN : N < 10 * SetTable.turns t.mask)
    (free : slAt P w t k N ∉ t.place.toList) (full : ∀ c, c < N → slAt P w t k c ∈ t.place.toList) {Q : SetFound → Shared → Prop}
    (yes : ∀ i, k ∈ L.map (·.2) → Q (.there (if ad then none else some i)) s) (no : k ∉ L.map (·.2) → Q (.free (slAt P w t k N) false) s) :
    ∀ (f c : Nat) (st : Option SetTable.Probe), st.getD (t.probeStart (thash P w k)) = stAt P w t k c → c ≤ N → N < f + c →
      (∀ (i : Nat) p, L[i]? = some p → p.2 = k → ∃ c', c ≤ c' ∧ c' < N ∧ t.place.toList[i]? = some (slAt P w t k c')) →
      wpAny (model P w) A (setSearchFrom a (.ref x) (thash P w k) ad f st) Q E s := by
  intro f
  induction f with
  | zero => intro c st _ h1 h2 _; omega
  | succ f ih =>
    intro c st est hc hf ahead
    obtain ⟨o, ho, hex, hd⟩ := R.obj
    rw [setSearchFrom_succ]
    refine wpAny_bind (wpAny_setState_of ho hd R.fts ?_)
    dsimp only
    refine wp_if_neg R.odd ?_
    try refine wpAny_bind (wpAny_pure ?_)
    have hashes : ∀ (i : Nat) p, L[i]? = some p → (es[i]?.map (·.1)).getD 0 = thash P w p.2 := fun i p g => by
      rw [R.ent g]
      rfl
    have spec := go_spec t R.tb.ris R.tb.dm (fun i => (es[i]?.map (·.1)).getD 0) (thash P w k) (10 * SetTable.turns t.mask) (N - c) (stAt P w t k c) (stAt_dm k c) (by omega)
      (fun q hq => by rw [stAt_add]; exact full (c + q) (by omega)) (by rw [stAt_add, Nat.add_sub_cancel' hc]; exact free)
    rw [est]
    simp only [stAt_add] at spec
    rcases spec with ⟨q, i, hq, hi, _, early, pr⟩ | ⟨early, pr⟩
    · -- an entry of this hash stands there
      have pr2 : t.probe (fun i => (es[i]?.map (·.1)).getD 0) (thash P w k) (stAt P w t k c) = _ := pr
      rw [pr2]
      dsimp only
      have il : i < L.length := by
        have e := (List.getElem?_eq_some_iff.mp hi).1
        rw [Array.length_toList, R.psz] at e
        exact e
      obtain ⟨p, gp⟩ : ∃ p, L[i]? = some p := ⟨_, List.getElem?_eq_getElem il⟩
      have mp : p ∈ L := List.mem_of_getElem? gp
      have live : t.slot (slAt P w t k (c + q)) = .live i := slot_live R.tb.ris hi
      have go : wpAny (model P w) A (searchRest a (.ref x) (thash P w k) ad f es t (slAt P w t k (c + q)) i (stAt P w t k (c + (q + 1)))) Q E s := by
        unfold searchRest
        rw [R.ent gp]
        dsimp only
        refine wpAny_bind (wpAny_holding (wpAny_eqBool_tuple hu (R.tps p mp) hx ?_))
        refine wpAny_bind (wpAny_setState_of ho hd R.fts ?_)
        dsimp only
        have later : p.2 ≠ k → wpAny (model P w) A (setSearchFrom a (.ref x) (thash P w k) ad f (some (stAt P w t k (c + (q + 1))))) Q E s := fun ne => by
          refine ih (c + (q + 1)) _ rfl (by omega) (by omega) fun i2 p2 g2 e2 => ?_
          obtain ⟨c2, b1, b2, b3⟩ := ahead i2 p2 g2 e2
          refine ⟨c2, ?_, b2, b3⟩
          refine Classical.byContradiction fun lt => ?_
          by_cases hc2 : c2 < c + q
          · refine early (c2 - c) i2 (by omega) (by rw [Nat.add_sub_cancel' b1]; exact b3) ?_
            rw [hashes i2 p2 g2, e2]
          · have e3 : c2 = c + q := by omega
            rw [e3] at b3
            have l2 := slot_live R.tb.ris b3
            rw [live] at l2
            injection l2 with l2
            rw [← l2, gp] at g2
            rw [Option.some.inj g2] at ne
            exact ne e2
        by_cases hk : p.2 = k
        · have mk : k ∈ L.map (·.2) := List.mem_map.mpr ⟨p, mp, hk⟩
          cases ad with
          | true =>
            refine wp_if_pos (by simp [hk]) ?_
            exact wpAny_pure (yes i mk)
          | false =>
            refine wp_if_neg (by simp) ?_
            try refine wpAny_bind (wpAny_pure ?_)
            rw [sameMem]
            dsimp only
            simp only [if_true, live, R.ent gp]
            refine wpAny_bind (wpAny_isSame_ref_self (wpAny_bind (wpAny_pure ?_)))
            rw [if_pos rfl]
            dsimp only
            rw [if_pos (decide_eq_true hk)]
            exact wpAny_pure (yes i mk)
        · refine wp_if_neg (by simp [hk]) ?_
          try refine wpAny_bind (wpAny_pure ?_)
          rw [sameMem]
          dsimp only
          simp only [if_true, live, R.ent gp]
          refine wpAny_bind (wpAny_isSame_ref_self (wpAny_bind (wpAny_pure ?_)))
          rw [if_pos rfl]
          dsimp only
          rw [if_neg (by rw [decide_eq_true_eq]; exact hk)]
          exact later hk
      by_cases hl : t.led = true
      · refine wp_if_neg (by rw [hl]; decide) ?_
        try refine wpAny_bind (wpAny_pure ?_)
        exact go
      · refine wp_if_pos (by simp [hl]) ?_
        refine wpAny_bind (seen_tup hx (fun y hy => ?_) ?_)
        · obtain ⟨e, he, rfl⟩ := List.mem_map.mp hy
          have he2 : e ∈ es.toList := by
            have := (Array.mem_filter.mp (Array.mem_toList_iff.mp he)).1
            exact Array.mem_toList_iff.mpr this
          rw [R.rw_] at he2
          obtain ⟨p2, m2, rfl⟩ := List.mem_map.mp he2
          exact ⟨p2.2, p2.1, rfl, R.tps p2 m2⟩
        · refine wp_if_neg Bool.false_ne_true ?_
          try refine wpAny_bind (wpAny_pure ?_)
          exact go
    · -- the empty slot
      have pr2 : t.probe (fun i => (es[i]?.map (·.1)).getD 0) (thash P w k) (stAt P w t k c) = _ := pr
      rw [pr2, Nat.add_sub_cancel' hc]
      dsimp only
      refine wpAny_pure (no fun hm => ?_)
      obtain ⟨p, mp, e⟩ := List.mem_map.mp hm
      obtain ⟨i, gp⟩ := List.getElem?_of_mem mp
      obtain ⟨c2, b1, b2, b3⟩ := ahead i p gp e
      refine early (c2 - c) i (by omega) (by rw [Nat.add_sub_cancel' b1]; exact b3) ?_
      rw [hashes i p gp, e]
/-- the search as it is asked for -/
theorem psearch0 (R : PsR P w s.heap a L es ep t) {x : Addr} {k : List Int} (hx : IsT P w s.heap k x) (hu : A.units < cLine) (ad : Bool) {Q : SetFound → Shared → Prop}
    (yes : ∀ i, k ∈ L.map (·.2) → Q (.there (if ad then none else some i)) s)
    (no : ∀ N, k ∉ L.map (·.2) → slAt P w t k N ∉ t.place.toList → (∀ c, c < N → slAt P w t k c ∈ t.place.toList) → Q (.free (slAt P w t k N) false) s) :
    wpAny (model P w) A (setSearch a (.ref x) (thash P w k) ad) Q E s := by
  have few := R.rm
  obtain ⟨N, n1, n2, n3⟩ := R.tb.first (by rw [List.length_map]; omega) (thash P w k)
  have n4 : N < 100000 := by
    have e : 10 * SetTable.turns t.mask ≤ 1420 := by
      unfold SetTable.turns
      rcases R.tb.mok with e | e | e <;> omega
    omega
  unfold setSearch
  refine psearch R hx hu ad n1 n2 n3 yes (fun z => no N z n2 n3) 100000 0 none rfl (Nat.zero_le _) (by omega) fun i p gp e => ?_
  have g1 : (L.map fun p => thash P w p.2)[i]? = some (thash P w k) := by
    rw [List.getElem?_map, gp, ← e]
    rfl
  have g2 : i < t.place.toList.length := by
    rw [Array.length_toList, R.psz]
    exact (List.getElem?_eq_some_iff.mp gp).1
  obtain ⟨c, c1, c2⟩ := R.tb.before n2 g1 (List.getElem?_eq_getElem g2)
  refine ⟨c, Nat.zero_le _, c1, ?_⟩
  rw [List.getElem?_eq_getElem g2]
  exact congrArg some c2.symm
end

section
variable {P : Program} {w : World} {A : Around} {E : Value → Shared → Prop} {s : Shared}
variable {a : Addr} {L : List (Addr × List Int)} {es : Array (Int × Value)} {ep : Nat} {t : SetTable}
theorem PsR.ty (R : PsR P w s.heap a L es ep t) : s.TypeIs (.ref a) "set" := by
  obtain ⟨o, ho, hx, _⟩ := R.obj
  exact ⟨o, ho, hx.1⟩
theorem PsR.nodict (R : PsR P w s.heap a L es ep t) : ∀ b, Value.ref a = .ref b → ∃ ob, s.heap.get? b = some ob ∧ ob.dict = none := fun b e => by
  injection e with e
  subst e
  obtain ⟨o, ho, hx, _⟩ := R.obj
  exact ⟨o, ho, hx.2.1⟩
/-- who is sought among tuples -/
theorem pfind (R : PsR P w s.heap a L es ep t) {x : Addr} {k : List Int} (hx : IsT P w s.heap k x) (hu : A.units < cLine) {Q : Option Nat → Shared → Prop}
    (h : ∀ r : Option Nat, r.isSome = decide (k ∈ L.map (·.2)) → Q r s) : wpAny (model P w) A (setFind a (.ref x) (thash P w k)) Q E s := by
  obtain ⟨o, ho, hex, hd⟩ := R.obj
  show wpAny (model P w) A (setFindIn a (.ref x) (thash P w k) (99999 + 1)) Q E s
  unfold setFindIn
  refine wpAny_bind (wpAny_setState_of ho hd R.fts ?_)
  dsimp only
  refine wp_if_neg (by simp [byScan, Value.scannable]) ?_
  try refine wpAny_bind (wpAny_pure ?_)
  refine wpAny_bind (psearch0 R hx hu false (fun i m => ?_) fun N m _ _ => ?_)
  · dsimp only
    exact wpAny_pure (h (some i) (by rw [decide_eq_true m]; rfl))
  · dsimp only
    exact wpAny_pure (h none (by rw [decide_eq_false m]; rfl))
theorem pis_in (R : PsR P w s.heap a L es ep t) {x : Addr} {k : List Int} (hx : IsT P w s.heap k x) (hu : A.units + 4 < cLine) {Q : Value → Shared → Prop}
    (h : Q (.bool (decide (k ∈ L.map (·.2)))) { s with toks := s.toks + (k.length + 1) }) : wpAny (model P w) A (compareOp .In (.ref x) (.ref a)) Q E s := by
  have ty := R.ty
  have ask : wpAny (model P w) A.in1 (Builtin.«frozenset.__contains__» ⟨[.ref a, .ref x], []⟩) (fun fin s' => ∃ v, fin = .done (.ret v) ∧ wpAny (model P w) A (truthy v) (fun c s' => wpAny (model P w) A (pure (Value.bool c)) Q E s') E s') E s := by
    simp only [Builtin.«frozenset.__contains__», Builtin.Frozenset.oneOther, Builtin.Frozenset.addrOf, Builtin.Frozenset.withSetAsKey, setContains, List.isEmpty_nil, bind_assoc]
    refine wpAny_bind (wpAny_pure ?_); try dsimp only
    refine wpAny_bind (wpAny_pure ?_); try dsimp only
    refine wpAny_bind (wpAny_tryCatch (wpAny_holding (wpAny_bind (wpAny_pyHash_tuple (by show A.units + 1 < cLine; omega) hx ?_))))
    refine wpAny_bind (pfind (s := { s with toks := s.toks + (k.length + 1) }) R hx (by show A.units + 1 < cLine; omega) fun r er => wpAny_pure ?_)
    show wpAny _ _ (ret (Value.bool r.isSome)) _ _ _
    rw [er]
    exact wpAny_pure ⟨_, rfl, wpAny_truthy_bool (wpAny_pure h)⟩
  show wpAny _ _ (contains (.ref a) (.ref x) >>= fun b => pure (Value.bool b)) Q E s
  refine wpAny_bind ?_
  unfold contains
  try with_reducible refine wpAny_holding ?_
  refine wpAny_bind (wpAny_specialOf ty F.slot_set_contains.lookup ?_)
  refine wp_if_neg (by rw [beq_builtin_none]; decide) (wpAny_bind (wpAny_callSpecialUnlessNone?_slot (name := Str.ofString "__contains__") ty F.slot_set_contains (wpAny_call_entry F.slot_set_contains ty entry_set_contains ask (F.args_set_contains_2 _ _))))
end

section
variable {P : Program} {w : World} {A : Around} {E : Value → Shared → Prop} {s : Shared}
variable {a : Addr} {L : List (Addr × List Int)} {es : Array (Int × Value)} {ep : Nat} {t : SetTable}
theorem PsR.small {h : Heap} (R : PsR P w h a L es ep t) (few : L.length < 64) : SetTR P w h a L es ep t := ⟨R.obj, R.rw_, R.tb, R.nod, R.tps, R.pln, R.ld, R.rm, few⟩
theorem PsR.of {h : Heap} (R : SetTR P w h a L es ep t) : PsR P w h a L es ep t := ⟨R.ob, R.rows, R.tab, R.nd, R.tup, R.plain, R.led, R.room⟩
/-- one more tuple -/
theorem padd (R : PsR P w s.heap a L es ep t) {x : Addr} {k : List Int} (hx : IsT P w s.heap k x) (hu : A.units < cLine) (bnd : L.length + 1 ≤ 76) {Q : Bool → Shared → Prop}
    (h : ∀ b h' L' es' ep' t', Heap.SameBut a s.heap h' → PsR P w h' a L' es' ep' t' → (k ∈ L.map (·.2) → L' = L) → (k ∉ L.map (·.2) → L'.Perm ((x, k) :: L)) → Q b { s with heap := h' }) :
    wpAny (model P w) A (setAddHashed a (.ref x) (thash P w k)) Q E s := by
  by_cases few : L.length + 1 < 64
  · exact add_at (R.small (by omega)) hx hu few fun b h' L' es' ep' t' sb R' c1 c2 => h b h' L' es' ep' t' sb (PsR.of R') c1 c2
  · obtain ⟨o, ho, hex, hd⟩ := R.obj
    have m127 : t.mask = 127 := by
      have := R.rm
      rcases R.tb.mok with e | e | e <;> omega
    unfold setAddHashed
    refine wpAny_holding ?_
    show wpAny (model P w) A (setAddHashedIn a (.ref x) (thash P w k) (99999 + 1)) Q E s
    rw [setAddHashedIn_succ]
    refine wpAny_bind (wpAny_setState_of ho hd R.fts ?_)
    dsimp only
    refine wp_if_neg (by simp [byScan, Value.scannable]) ?_
    try refine wpAny_bind (wpAny_pure ?_)
    refine wpAny_bind (psearch0 R hx hu true (fun i m => ?_) fun N m n1 n2 => ?_)
    · dsimp only
      exact wpAny_pure (h false s.heap L es ep t (Heap.SameBut.refl a s.heap) R (fun _ => rfl) fun z => absurd m z)
    · dsimp only
      refine wpAny_bind (wpAny_setState_of ho hd R.fts ?_)
      dsimp only
      obtain ⟨q1, q2, q3, q4, q5, q6, q7, q8, q9⟩ := R.tb.put n1 n2
      have e0 : way t.mask (thash P w k) N = slAt P w t k N := rfl
      rw [e0] at q1 q2 q3 q4 q5 q6 q7 q8 q9
      generalize slAt P w t k N = sl at q1 q2 q3 q4 q5 q6 q7 q8 q9 ⊢
      rw [q1]
      generalize (t.put sl).1 = t1 at q3 q4 q5 q6 q7 q8 q9 ⊢
      generalize SetTable.below t.place sl = b at q2 q3 ⊢
      have plain1 : t1.plain = true := by rw [q6]; exact R.pln
      refine wp_if_pos plain1 (wpAny_bind (hashBy_tup hx ?_))
      simp only [if_true, Bool.not_false, Bool.true_and]
      have pm : (L.take b ++ (x, k) :: L.drop b).Perm ((x, k) :: L) := put_perm L b (x, k)
      have rows : (SetTable.insertAt es b (thash P w k, Value.ref x)).toList = rowsOf P w (L.take b ++ (x, k) :: L.drop b) := by
        rw [rows_put, ← R.rw_]
        exact SetTable.toList_insertAt _ _ _
      have tabs : TabOk t1 ((L.take b ++ (x, k) :: L.drop b).map fun p => thash P w p.2) := by
        rw [List.map_append, List.map_cons, List.map_take, List.map_drop]
        exact q3
      generalize SetTable.insertAt es b (thash P w k, Value.ref x) = es1 at rows ⊢
      generalize L.take b ++ (x, k) :: L.drop b = L1 at pm rows tabs
      have len1 : L1.length = L.length + 1 := pm.length_eq
      have size1 : es1.size = L.length + 1 := by
        have e := congrArg List.length rows
        rw [Array.length_toList] at e
        rw [e, ← len1]
        exact List.length_map _
      have notFull : ¬ t1.tooFull = true := fun z => by
        have z2 : decide (t1.fill * 5 ≥ t1.mask * 3) = true := z
        rw [decide_eq_true_eq, q9, List.length_map, q4, m127] at z2
        omega
      refine wpAny_bind (wpAny_storeSet_of ho hd ?_ (by rw [size1, sizeLine_eq]; omega))
      refine wp_if_neg notFull ?_
      have sb : Heap.SameBut a s.heap (s.heap.update a (Obj.putSet es1 t1)) := Heap.SameBut.update ..
      refine wpAny_pure (h true _ L1 es1 (ep + 1) t1 sb ⟨⟨_, store_at ho hd, ⟨hex.1, hex.2.1, hex.2.2⟩, rfl⟩, rows, tabs, ?_, fun p hp => ?_, plain1, by rw [q5]; exact R.ld, by rw [len1, q4, m127]; omega⟩ (fun z => absurd z m) fun _ => pm)
      · refine (pm.map (·.2)).nodup_iff.mpr ?_
        rw [List.map_cons]
        exact List.nodup_cons.mpr ⟨m, R.nod⟩
      · rcases List.mem_cons.mp (pm.mem_iff.mp hp) with e | hp2
        · rw [e]
          exact isT_same hx ho hd sb
        · exact isT_same (R.tps p hp2) ho hd sb
end

/-! ### as rules of the layer: a set of pairs of ints -/
theorem perm_map {α β : Type} {f : α → β} {l m : List β} (h : l.Perm m) : ∀ L : List α, m = L.map f → ∃ L' : List α, List.Perm L' L ∧ l = List.map f L' := by
  induction h with
  | nil => intro L e; exact ⟨[], by rw [List.map_eq_nil_iff.mp e.symm], rfl⟩
  | cons x _ ih =>
    intro L e
    cases L with
    | nil => cases e
    | cons y L =>
      obtain ⟨e1, e2⟩ := List.cons.inj e
      obtain ⟨L', p, e3⟩ := ih L e2
      exact ⟨y :: L', p.cons y, by rw [List.map_cons, e1, e3]⟩
  | swap x y l =>
    intro L e
    match L, e with
    | y' :: x' :: L, e =>
      obtain ⟨e1, e2⟩ := List.cons.inj e
      obtain ⟨e3, e4⟩ := List.cons.inj e2
      exact ⟨x' :: y' :: L, List.Perm.swap y' x' L, by rw [List.map_cons, List.map_cons, ← e1, ← e3, ← e4]⟩
  | trans _ _ ih1 ih2 =>
    intro L e
    obtain ⟨L1, p1, e1⟩ := ih2 L e
    obtain ⟨L2, p2, e2⟩ := ih1 L1 e1
    exact ⟨L2, p2.trans p1, e2⟩
def pr2 : List Int → Pr
  | [x, y] => (x, y)
  | _ => (0, 0)
section
variable {P : Program} {w : World} {A : Around} {E : Value → Shared → Prop} {s : Shared}
variable {a : Addr} {L : List (Addr × List Int)} {es : Array (Int × Value)} {ep : Nat} {t : SetTable}
theorem IsT.pair {h : Heap} {b : Addr} {x y : Int} (q : IsT P w h [x, y] b) : Srt.IsPair h (.ref b) x y := by
  obtain ⟨o, items, n, ho, hc, hd, hi⟩ := q
  obtain ⟨its⟩ := items
  cases hi with
  | cons h1 h2 =>
    cases h2 with
    | cons h3 h4 =>
      cases h4
      obtain ⟨t1, rfl⟩ := Value.isInt_shape h1
      obtain ⟨t2, rfl⟩ := Value.isInt_shape h3
      exact ⟨b, o, t1, t2, n, rfl, ho, hc, hd⟩
/-- the pair that stands at a value -/
def kL (L : List (Addr × List Int)) (v : Value) : Pr := match v with
  | .ref b => pr2 ((L.lookup b).getD [])
  | _ => (0, 0)
theorem kL_of {h : Heap} (tps : ∀ p ∈ L, IsT P w h p.2 p.1) {q : Addr × List Int} (m : q ∈ L) : kL L (.ref q.1) = pr2 q.2 := by
  have key : ∀ L : List (Addr × List Int), (∀ p ∈ L, IsT P w h p.2 p.1) → q ∈ L → L.lookup q.1 = some q.2 := by
    intro L
    induction L with
    | nil => intro _ z; cases z
    | cons p L ih =>
      intro tps m
      obtain ⟨b, k⟩ := p
      by_cases e : q.1 = b
      · have t1 := tps _ m
        have t2 := tps (b, k) List.mem_cons_self
        rw [e] at t1
        have e2 : q.2 = k := t1.inj t2
        rw [List.lookup_cons, e, beq_self_eq_true, e2]
      · have m2 : q ∈ L := by
          rcases List.mem_cons.mp m with z | z
          · rw [z] at e
            exact absurd rfl e
          · exact z
        rw [List.lookup_cons, beq_eq_false_iff_ne.mpr e]
        exact ih (fun p hp => tps p (List.mem_cons_of_mem _ hp)) m2
  show pr2 ((L.lookup q.1).getD []) = _
  rw [key L tps m]
  rfl
/-- sorted(set) -/
theorem psorted (R : PsR P w s.heap a L es ep t) (hh : A.handled = none) (two : ∀ p ∈ L, ∃ x y, p.2 = [x, y]) (few : L.length ≤ 1000) {Q : Value → Shared → Prop}
    (h : ∀ s' p c (L' : List (Addr × List Int)), (∀ b o, s.heap.get? b = some o → s'.heap.get? b = some o) → s'.gens = s.gens → s'.os = s.os → s.heap.objs.size ≤ p → s'.heap.get? p = some (seqObj "list" (L'.map fun q => Value.ref q.1).toArray c) → L'.Perm L →
      L'.Pairwise (fun q r => ¬ lt2 (pr2 r.2) (pr2 q.2)) → Q (.ref p) s') : wpAny (model P w) A (call (.builtin "sorted") [.ref a]) Q E s := by
  obtain ⟨o, ho, hex, hd⟩ := R.obj
  have sz := R.sz
  refine Calls.call_function_entry kind_sorted plain_sorted entry_sorted (args_sorted1 _) ?_
  unfold Builtin.«sorted»; refine wpAny_bind (m := checkCount "sorted" 1 1 _) (wpAny_pure ?_)
  refine wpAny_bind (collect_set (A := A.in1) hh ⟨o, ho, hex.1, hd⟩ R.fts (by rw [sz]; unfold scanBound; omega) R.tb.ris R.ld fun s1 vs keep grow g1 o1 pm => ?_)
  have e1 : es.toList.map (·.2) = L.map fun q => Value.ref q.1 := by
    rw [R.rw_]
    show List.map _ (L.map _) = _
    rw [List.map_map]
    rfl
  rw [e1] at pm
  have lv : vs.length ≤ sizeLine := by
    rw [pm.length_eq, List.length_map, sizeLine_eq]
    omega
  refine wpAny_bind (wpAny_newList ?_ lv)
  have new : (s1.heap.push (seqObj "list" vs.toArray 0)).get? s1.heap.objs.size = some (seqObj "list" vs.toArray 0) := Heap.get?_push_size _ rfl
  have pairs : ∀ v ∈ vs, Srt.IsPair (s1.heap.push (seqObj "list" vs.toArray 0)) v (kL L v).1 (kL L v).2 := fun v hv => by
    obtain ⟨q, hq, rfl⟩ := List.mem_map.mp (pm.mem_iff.mp hv)
    rw [kL_of R.tps hq]
    obtain ⟨x, y, e2⟩ := two q hq
    have t1 := R.tps q hq
    rw [e2] at t1 ⊢
    exact Srt.IsPair.keeps (IsT.pair t1) fun b u e _ => Heap.get?_push_of_some _ (keep b u e)
  refine wpAny_bind (wpAny_holding (wpAny_call_entry slot_list_sort ⟨_, new, rfl⟩ entry_list_sort (SrtO.list_sort_ord (s := { s1 with heap := s1.heap.push (seqObj "list" vs.toArray 0) }) (SrtO.swo_lex (kL L)) new lv (fun h2 => SrtO.pairs_sortableO (by omega) pairs fun o e c => ?_) fun out so st => ⟨_, rfl, ?_⟩) (args_list_sort _)))
  · have e3 : some o = some (seqObj "list" vs.toArray 0) := e.symm.trans new
    cases e3
    exact absurd (Value.type.inj c) (by decide)
  · obtain ⟨L', p1, p2⟩ := perm_map (st.perm.trans pm) L rfl
    obtain ⟨c, hc⟩ := sortedHeap_at (vs := vs) (out := out.toArray) new
    refine wpAny_pure ⟨_, rfl, h _ s1.heap.objs.size c L' (fun b u e => ?_) g1 o1 grow ?_ p1 ?_⟩
    · have e4 := keep b u e
      have lt := Heap.lt_size e4
      show (sortedHeap (s1.heap.push (seqObj "list" vs.toArray 0)) s1.heap.objs.size vs out.toArray).get? b = some u
      rw [sortedHeap_old (Nat.ne_of_lt lt) (by rw [size_push']; exact Nat.lt_succ_of_lt lt)]
      exact Heap.get?_push_of_some _ e4
    · rw [← p2]
      exact hc
    · rw [p2] at so
      refine List.Pairwise.imp_of_mem (fun {q r} hq hr z => ?_) (List.pairwise_map.mp so)
      have z2 : SrtO.lexB (kL L (Value.ref r.1)) (kL L (Value.ref q.1)) = false := z
      rw [kL_of R.tps (p1.mem_iff.mp hq), kL_of R.tps (p1.mem_iff.mp hr)] at z2
      exact SrtO.lexB_no.mp z2
end
/-- the set at a without its tuples -/
structure Ps0 (P : Program) (w : World) (h : Heap) (a : Addr) (L : List (Addr × List Int)) : Prop where
  ex : ∃ (es : Array (Int × Value)) (ep : Nat) (t : SetTable), (∃ o, h.get? a = some o ∧ o.ExactSet ∧ o.data = .set es ep t) ∧ es.toList = rowsOf P w L ∧ TabOk t (L.map fun p => thash P w p.2) ∧ (L.map (·.2)).Nodup ∧ t.plain = true ∧ (w.params.followText "set-order" = true ∨ t.led = true) ∧ L.length * 5 < t.mask * 3
def PsO (P : Program) (w : World) (a : Addr) (L : List (Addr × List Int)) : HO := .ext fun h => Ps0 P w h a L
theorem PsR.p0 {P : Program} {w : World} {h : Heap} {a : Addr} {L : List (Addr × List Int)} {es : Array (Int × Value)} {ep : Nat} {t : SetTable} (R : PsR P w h a L es ep t) : Ps0 P w h a L := ⟨es, ep, t, R.obj, R.rw_, R.tb, R.nod, R.pln, R.ld, R.rm⟩
theorem Ps0.full {P : Program} {w : World} {h : Heap} {a : Addr} {L : List (Addr × List Int)} (R : Ps0 P w h a L) (tp : ∀ p ∈ L, IsT P w h p.2 p.1) : ∃ es ep t, PsR P w h a L es ep t := by
  obtain ⟨es, ep, t, h1, h2, h3, h4, h5, h6, h7⟩ := R.ex
  exact ⟨es, ep, t, ⟨h1, h2, h3, h4, tp, h5, h6, h7⟩⟩
theorem psO_new {P : Program} {w : World} {H : Hp} {h : Heap} {a : Addr} {L : List (Addr × List Int)} (R : Ps0 P w h a L) : ObjOk P w H h a (PsO P w a L) := by
  refine ⟨R, ?_, fun h1 h2 p k => ?_⟩
  · obtain ⟨_, _, _, ⟨o, ho, _⟩, _⟩ := R.ex
    exact ⟨o, ho⟩
  · obtain ⟨es, ep, t, ⟨o, ho, r⟩, q⟩ := Ps0.ex p
    exact ⟨es, ep, t, ⟨o, k o ho, r⟩, q⟩
section
variable {X : Cx}
theorem ps_get {pins : List (Addr × Obj)} {σ : L2.St} {H : Hp} {s : Shared} {a : Addr} {L : List (Addr × List Int)} (I : Inv X pins σ H s) (ha : H a = some (PsO X.prog X.w a L)) (tp : ∀ p ∈ L, SqT X.K H p.1 (p.2.map V.int)) : ∃ es ep t, PsR X.prog X.w s.heap a L es ep t :=
  Ps0.full (I.hok a _ ha).1 fun p hp => I.isT (tp p hp)
/-- set(), to be filled with pairs -/
def rPs0 (P : Program) (w : World) : List V → Hp → VK → Prop := fun xs H Q => xs = [] ∧ ∀ p, H p = none → Q (.ref p) (upd H p (PsO P w p []))
theorem cr_ps0 : CallR X (.type "set") (rPs0 X.prog X.w) := by
  intro pins s σ H xs us Q I r h
  obtain ⟨rfl, q⟩ := h
  cases r
  refine setR_new fun _ => ?_
  exact ⟨.ref _, upd H s.heap.objs.size (PsO X.prog X.w s.heap.objs.size []), I.laid (t' := s.toks) (fun b u e => Heap.get?_push_of_some _ e) (Nat.le_refl _) (psO_new (PsR.of (setTR_fresh (Heap.get?_push_size _ rfl))).p0), rfl, q _ (I.hok.fresh (Nat.le_refl _))⟩
/-- (a, b) in seen -/
def rPsIn (K : PySem.W.Frag) (P : Program) (w : World) : V → V → Hp → VK → Prop := fun x y H Q => ∃ b k a L, x = V.ref b ∧ y = V.ref a ∧ H a = some (PsO P w a L) ∧ (∀ p ∈ L, SqT K H p.1 (p.2.map V.int)) ∧ SqT K H b (k.map V.int) ∧ Q (.bl (decide (k ∈ L.map (·.2)))) H
theorem op_psIn (hu : X.A.units + 64 < cLine) : OpR X (compareOp .In) (rPsIn X.K X.prog X.w) := by
  intro pins s σ H x y v u Q I rx ry h
  obtain ⟨b, k, a, L, rfl, rfl, ha, tp, hb, q⟩ := h
  cases (show v = Value.ref b from rx)
  cases (show u = Value.ref a from ry)
  obtain ⟨es, ep, t, R⟩ := ps_get I ha tp
  exact pis_in R (I.isT hb) (by omega) ⟨.bl _, H, I.tok _, rfl, q⟩
/-- seen.add((a, b)) -/
def rPsAdd (K : PySem.W.Frag) (P : Program) (w : World) : V → List V → Hp → VK → Prop := fun x xs H Q => ∃ b k a L, x = V.ref a ∧ xs = [V.ref b] ∧ H a = some (PsO P w a L) ∧ (∀ p ∈ L, SqT K H p.1 (p.2.map V.int)) ∧ SqT K H b (k.map V.int) ∧ L.length + 1 ≤ 76 ∧
  ∀ L', (k ∈ L.map (·.2) → L' = L) → (k ∉ L.map (·.2) → L'.Perm ((b, k) :: L)) → Q .non (upd H a (PsO P w a L'))
theorem mt_psAdd (hu : X.A.units + 64 < cLine) : MtR X "set.add" (rPsAdd X.K X.prog X.w) := by
  intro pins s σ H x xs v us Q I rx rxs h
  obtain ⟨b, k, a, L, rfl, rfl, ha, tp, hb, bnd, q⟩ := h
  cases rx
  cases rxs with
  | cons ry rt =>
    cases rt
    cases (show _ = Value.ref b from ry)
    obtain ⟨es, ep, t, R⟩ := ps_get I ha tp
    have hx := I.isT hb
    refine wpAny_call_entry F.slot_set_add R.ty F.entry_set_add ?_ (F.args_set_add_2 _ _)
    simp only [Builtin.«set.add», Builtin.Frozenset.oneOther, Builtin.Frozenset.addrOf, setAdd, List.isEmpty_nil, bind_assoc]
    refine wpAny_bind (wpAny_pure ?_); try dsimp only
    refine wpAny_bind (wpAny_pure ?_); try dsimp only
    refine wpAny_bind (wpAny_holding (wpAny_bind (wpAny_pyHash_tuple (by show X.A.units + 1 < cLine; omega) hx ?_)))
    refine padd (s := { s with toks := s.toks + (k.length + 1) }) R hx (by show X.A.units + 1 < cLine; omega) bnd fun c h' L' es' ep' t' sb R' c1 c2 => ?_
    show wpAny _ _ (ret Value.none) _ _ _
    have he : ∃ u, h'.get? a = some u := by
      obtain ⟨o, ho, _⟩ := R'.obj
      exact ⟨o, ho⟩
    exact wpAny_pure ⟨_, rfl, .non, upd H a (PsO X.prog X.w a L'), I.write (e := a) (t' := s.toks + (k.length + 1)) (by rw [ha]; trivial) (.inl rfl) (fun b u hb hu => (sb.2 b hb).trans hu) he (psO_new R'.p0), rfl, q L' c1 c2⟩
/-- sorted(seen) -/
def rPsSort (K : PySem.W.Frag) (P : Program) (w : World) : List V → Hp → VK → Prop := fun vs H Q => ∃ a L, vs = [V.ref a] ∧ H a = some (PsO P w a L) ∧ (∀ p ∈ L, SqT K H p.1 (p.2.map V.int)) ∧ (∀ p ∈ L, ∃ x y, p.2 = [x, y]) ∧ L.length ≤ 1000 ∧
  ∀ (L' : List (Addr × List Int)) (p : Addr), L'.Perm L → (L'.map (·.2)).Nodup → L'.Pairwise (fun q r => ¬ lt2 (pr2 r.2) (pr2 q.2)) → H p = none → Q (.ref p) (upd H p (.lst (L'.map fun q => V.ref q.1)))
theorem cr_psSort (hc : X.calm = true) : CallR X (.builtin "sorted") (rPsSort X.K X.prog X.w) := by
  intro pins s σ H vs us Q I r h
  obtain ⟨a, L, rfl, ha, tp, two, few, q⟩ := h
  obtain ⟨es, ep, t, R⟩ := ps_get I ha tp
  rw [Vals.ref1 r]
  refine psorted R (I.ok.hd hc) two few fun s' p c L' keep g o hp hg pm pw => ?_
  have hn : H p = none := I.hok.fresh hp
  have ll : (L'.map fun q => V.ref q.1).length ≤ sizeLine := by
    rw [List.length_map, pm.length_eq, sizeLine_eq]
    omega
  have J : Inv X pins σ (upd H p (.lst (L'.map fun q => V.ref q.1))) { s with heap := s'.heap, gens := s'.gens, drawn := s'.drawn, toks := s'.toks } :=
    I.call (ch := []) (Un.laid keep hp hn) (I.hok.laid keep hp ⟨ll, _, c, vals_of_refs L', hg⟩) (by rw [g]; exact I.bare) (fun _ z => nomatch z)
  have e : s' = { s with heap := s'.heap, gens := s'.gens, drawn := s'.drawn, toks := s'.toks } := by
    cases s'
    cases s
    cases o
    rfl
  rw [e]
  exact ⟨.ref p, _, J, rfl, q L' p pm ((pm.map (·.2)).nodup_iff.mpr R.nod) pw hn⟩
/-- the call of the method -/
def tPsAdd (K : PySem.W.Frag) (P : Program) (w : World) (to : TE) (t : TA) : TE := fun σ H Q => to σ H fun x H1 => (∃ a L, x = V.ref a ∧ H1 a = some (PsO P w a L)) ∧ t σ H1 fun xs H2 => rPsAdd K P w x xs H2 Q
theorem ps_look {pins : List (Addr × Obj)} {σ : L2.St} {H : Hp} {s : Shared} {a : Addr} {L : List (Addr × List Int)} (I : Inv X pins σ H s) (ha : H a = some (PsO X.prog X.w a L)) : s.TypeIs (.ref a) "set" ∧ ∀ b, Value.ref a = .ref b → ∃ ob, s.heap.get? b = some ob ∧ ob.dict = none := by
  obtain ⟨_, _, _, ⟨o, ho, hx, _⟩, _⟩ := Ps0.ex (I.hok a _ ha).1
  refine ⟨⟨o, ho, hx.1⟩, fun b e => ?_⟩
  injection e with e
  subst e
  exact ⟨o, ho, hx.2.1⟩
theorem pe_psAdd {o e : Expr} {es : List Expr} {to : TE} {t : TA} {apos cpos : Pos} (hu : X.A.units + 64 < cLine) (ho : PE X o to) (ha : PA X (e :: es) t)
    (b1 : attributeBase o "add" X.env (eval o X.env) = eval o X.env := by rfl)
    (b2 : ((backTo cpos (starEach (e :: es) X.env)).all (fun x => !x.1) && (backToKw cpos (keywordEach [] X.env)).all (fun x => x.1.isSome) && decide ((e :: es).length + ([] : List Keyword).length + (if ([] : List Keyword).isEmpty then 0 else 1) < 30)) = true := by rfl)
    (b3 : (apos.endLine == cpos.line) = true := by rfl) (b4 : starEach (e :: es) X.env = (false, eval e X.env) :: starEach es X.env := by rfl) (b5 : (backTo cpos (starEach es X.env)).any (·.1) = false := by rfl) :
    PE X (.Call (.Attribute o "add" apos) (e :: es) [] cpos) (tPsAdd X.K X.prog X.w to t) := by
  refine ⟨fun pins s σ H Q I h => wpAny_Call_method_late b1 b2 b3 rfl (thn (ho.run pins s σ H _ I h) ?_)⟩
  rintro v s1 ⟨x, H1, I1, r1, ⟨a, L, rfl, hka⟩, q1⟩
  cases r1
  obtain ⟨k1, k2⟩ := ps_look I1 hka
  refine ⟨"set", "set.add", F.plainAttrs_set, F.slot_set_add, F.type_set_add, k1, k2, ?_⟩
  have run := ha.run cpos pins s1 σ H1 _ I1 q1
  rw [b4] at run ⊢
  refine Calls.callWith_builtin ?_ (Calls.evalArgs_plain (thn run ?_))
  · show (false || (backTo cpos (starEach es X.env)).any (·.1)) = false
    rw [b5]
    rfl
  · rintro us s2 ⟨vs, H2, I2, r2, q2⟩
    exact mt_psAdd hu pins s2 σ H2 (.ref a) vs (.ref a) us Q I2 rfl r2 q2
end

abbrev sHouse : Stmt := topS 8
abbrev sHinit : Stmt := inClass sHouse 2
abbrev sHcount : Stmt := inClass sHouse 3
abbrev sHdoors : Stmt := inClass sHouse 4
abbrev sHnear : Stmt := inClass sHouse 5
abbrev sHhas : Stmt := inClass sHouse 6
abbrev sRoom : Stmt := topS 9
abbrev sChk : Stmt := topS 10
/-- what the walk asks of the class House -/
structure Hs (K : PySem.W.Frag) (mg : Str → Option Value) (C : Addr) : Prop where
  cl : Cls K C
  nR : NoAttr K C "rooms"
  nD : NoAttr K C "_doors"
  nN : NoAttr K C "_near"
  mgC : mg "House" = some (.ref C)
  rd : ∃ mc u, ClX.CRead K C mc ∧ ClX.CVal K C mc "MOST_ROOMS" (.int 12) u
theorem for_enum {K : PySem.W.Frag} {a : Addr} {xs : List V} {g : TG} {tb : TS} {D : Ends} {σ : L2.St} {H : Hp} (Pv : Nat → L2.St → Hp → Prop) (h0 : Pv 0 σ H) (hl : ∀ i σ H, Pv i σ H → SqL K H a xs)
    (hs : ∀ (i : Nat) (x : V) (t : Addr) (σ : L2.St) (H : Hp), xs[i]? = some x → Pv i σ H → H t = none → g (.ref t) σ (upd H t (.tup [.int (i : Nat), x])) fun σ2 H2 => tb { D with nx := Pv (i + 1), ct := Pv (i + 1), bk := D.nx } σ2 H2) (hd : ∀ σ H, Pv xs.length σ H → D.nx σ H) :
    tFor (fun _ H R => R (Ite K a) H) g tb D σ H := by
  refine ⟨fun i m σ H => m = xs.length - i ∧ i ≤ xs.length ∧ Pv i σ H, ⟨xs.length, rfl, Nat.zero_le _, h0⟩, ?_⟩
  rintro i m σ H ⟨rfl, hi, p⟩
  have q := hl i σ H p
  by_cases lt : i < xs.length
  · refine .inr ⟨⟨xs, xs[i], q, List.getElem?_eq_getElem lt⟩, Pv (i + 1), fun σ' H' p' => ⟨xs.length - (i + 1), by omega, rfl, lt, p'⟩, ?_⟩
    rintro v H' ⟨t, x, rfl, nt, rfl, f⟩
    exact hs i x t σ H (f xs q) p nt
  · have e : i = xs.length := by omega
    subst e
    exact .inl ⟨⟨xs, q, Nat.le_refl _⟩, hd σ H p⟩
section
variable {P : Program} {w : World} {K : PySem.W.Frag} {mg : Str → Option Value} {base : Heap}
theorem scRoom : FnScope ["rooms"] ["rooms"] (defScope sRoom) := ⟨rfl, rfl, rfl, by decide +kernel, rfl, by decide +kernel, by decide +kernel⟩
def spRoom : Sp := fun vs H Q _ => ∃ r : Int, vs = [.int r] ∧ 1 ≤ r ∧ r ≤ 12 ∧ Q .non H
theorem ok_room {f C : Addr} {fd : FuncData} (F : Fun K "check_room_count" "check_room_count" sRoom f fd) (T : Hs K mg C) : FnOk P w K mg base CX0 1 f fd ["rooms"] spRoom := by
  refine F.ok scRoom (fun vs H Q E h => ?_) (fun cdv A outer s H vs Q E hr h => ?_)
  · obtain ⟨r, rfl, _⟩ := h
    rfl
  · obtain ⟨r, rfl, h1, h2, q⟩ := h
    refine ⟨_, (pss_one (ps_if (pt_not (pt_chain op_le op_le pe_int (pv 0) (ClX.pe_cval (pe_glob (v := .ref C) (by rfl) T.mgC rfl))))
      (pss_one (ps_never))
      pss_nil)), ?_⟩
    obtain ⟨mc, u, c1, c2⟩ := T.rd
    walk_at "rd"
    rw [if_pos h1]
    refine ⟨C, mc, .int 12, u, rfl, c1, c2, 12, rfl, ?_⟩
    rw [decide_eq_true h2]
    exact iteF q
theorem scChk : FnScope ["rooms", "doors", "seen", "place", "a", "b"] ["rooms", "doors"] (defScope sChk) := ⟨rfl, rfl, rfl, by decide +kernel, rfl, by decide +kernel, by decide +kernel⟩
def two (d : Pr) : List Int := [d.1, d.2]
theorem psO_ne {P : Program} {w : World} {a : Addr} {L : List (Addr × List Int)} {xs : List V} : PsO P w a L ≠ .tup xs := fun h => by
  unfold PsO at h
  cases h
theorem two_inj {d e : Pr} (h : two d = two e) : d = e := by
  unfold two at h
  obtain ⟨h1, h2⟩ := List.cons.inj h
  exact Prod.ext h1 (List.cons.inj h2).1
theorem not_taken {D : List Pr} (nd : D.Nodup) {i : Nat} {d : Pr} (g : D[i]? = some d) : d ∉ D.take i := fun z => by
  obtain ⟨j, gj⟩ := List.getElem?_of_mem z
  have lt : j < (D.take i).length := (List.getElem?_eq_some_iff.mp gj).1
  rw [List.length_take] at lt
  rw [List.getElem?_take_of_lt (by omega)] at gj
  have := nd_ix nd gj g
  omega
def spChk : Sp := fun vs H Q _ => ∃ (r : Nat) (l : Addr) (us : List V) (D : List Pr), vs = [.int r, .ref l] ∧ H l = some (.lst us) ∧ PL H us D ∧ D.Nodup ∧ (∀ d ∈ D, 0 ≤ d.1 ∧ d.1 < d.2 ∧ d.2 < r) ∧ r ≤ 12 ∧
  ∀ D' ws p H', Asc D' → (∀ d, d ∈ D' ↔ d ∈ D) → Same H H' → H p = none → H' p = some (.lst ws) → PL H' ws D' → Q (.ref p) H'
theorem ok_chk {f : Addr} {fd : FuncData} (F : Fun K "checked_doors" "checked_doors" sChk f fd) (T : Bi mg) : FnOk P w K mg base CX0 1 f fd ["rooms", "doors"] spChk := by
  refine F.ok scChk (fun vs H Q E h => ?_) (fun cdv A outer s H vs Q E hr h => ?_)
  · obtain ⟨r, l, us, D, rfl, _⟩ := h
    rfl
  · obtain ⟨r, l, us, D, rfl, hl, pl, nd, ok, hr12, q⟩ := h
    refine ⟨_, (pss_cons (ps_set (i := 2) scChk.nd rfl (Or.inl rfl) (pe_callTy0 cr_ps0 (by rfl) T.set (by decide +kernel)))
      (pss_cons (ps_for PassesOwn.never rfl (pi_enum (by rfl) T.enumerate (pa_cons (pv 1) pa_nil)) (pg_tup rfl (pgs_cons (pg_name (i := 3) scChk.nd rfl (Or.inl rfl)) (pgs_cons (pg_tup rfl (pgs_cons (pg_name (i := 4) scChk.nd rfl (Or.inl rfl)) (pgs_cons (pg_name (i := 5) scChk.nd rfl (Or.inl rfl)) pgs_nil))) pgs_nil)))
      (pss_cons (ps_if (PW.pt (pw_or (pt_not (PW.pt (pw_and (pt_chain op_le op_lt pe_int (pv 4) (pv 0)) (pw_and1 (pt_chain op_le op_lt pe_int (pv 5) (pv 0)))))) (pw_or (pt_cmpR op_eqI (pv 4) (pv 5) (nomark _)) (pw_or1 (pt_cmpR (op_psIn hr.units) (pe_tup (pa_cons (pv 4) (pa_cons (pv 5) pa_nil))) (pv 2) (by rfl))))))
        (pss_one (ps_never))
        pss_nil)
        (pss_one (ps_expr (pe_psAdd hr.units (pv 2) (pa_cons (pe_tup (pa_cons (pv 4) (pa_cons (pv 5) pa_nil))) pa_nil))))))
      (pss_one (ps_ret (pe_callB (cr_psSort rfl) (by rfl) T.sorted (by decide +kernel) (pa_cons (pv 2) pa_nil)))))), ?_⟩
    walk_at "rd"
    refine ⟨rfl, fun p np => ?_⟩
    obtain ⟨Pv, hPv⟩ : ∃ Pv : Nat → L2.St → Hp → Prop, Pv = (fun i σ H' => ∃ (L : List (Addr × List Int)) (v3 v4 v5 : Option V), σ = [some (.int r), some (.ref l), some (.ref p), v3, v4, v5] ∧ Same H H' ∧ H' p = some (PsO P w p L) ∧ (∀ q ∈ L, H' q.1 = some (.tup (q.2.map V.int))) ∧ List.Perm (L.map (·.2)) ((D.take i).map two)) := ⟨_, rfl⟩
    have hul : us.length = D.length := pl.len
    have dlen := drs_len' hr12 nd ok
    refine ⟨_, rfl, l, us, rfl, SqL.of (same_upd np l _ hl), for_enum (xs := us) Pv (by rw [hPv]; exact ⟨[], none, none, none, rfl, same_upd np, upd_same, fun q hq => (by cases hq), List.Perm.refl _⟩) (fun i σ H' pv => ?_) ?_ ?_⟩
    · rw [hPv] at pv
      obtain ⟨L, v3, v4, v5, _, sm, _⟩ := pv
      exact SqL.of (sm l _ hl)
    · rintro i v t σ H' gv pv nt
      have nxt : ∀ (L : List (Addr × List Int)) (v3 v4 v5 : Option V) (H' : Hp), Same H H' → H' p = some (PsO P w p L) → (∀ q ∈ L, H' q.1 = some (.tup (q.2.map V.int))) → List.Perm (L.map (·.2)) ((D.take (i + 1)).map two) → Pv (i + 1) [some (.int r), some (.ref l), some (.ref p), v3, v4, v5] H' := fun L v3 v4 v5 H' h1 h2 h3 h4 => by
        rw [hPv]
        exact ⟨L, v3, v4, v5, rfl, h1, h2, h3, h4⟩
      rw [hPv] at pv
      obtain ⟨L, v3, v4, v5, rfl, sm, hp, tp, pm⟩ := pv
      obtain ⟨d, gd, td, rfl, htd⟩ := pl.get gv
      have hid : i < D.length := (List.getElem?_eq_some_iff.mp gd).1
      have md : d ∈ D := List.mem_of_getElem? gd
      have okd := ok d md
      have hl1 := sm l _ hl
      have htd1 := sm td _ htd
      have ntd : td ≠ t := ne_of_none htd1 nt
      have htd2 : upd H' t (HO.tup [V.int i, V.ref td]) td = some (.tup [.int d.1, .int d.2]) := by rw [upd_ne ntd]; exact htd1
      walk_at "rd"
      refine ⟨[.int i, .ref td], SqT.of upd_same, rfl, .int i, [.ref td], rfl, .ref td, [], rfl, td, rfl, [.int d.1, .int d.2], SqT.of htd2, rfl, .int d.1, [.int d.2], rfl, .int d.2, [], rfl, rfl, rfl, d.1, rfl, ?_⟩
      rw [if_pos okd.1]
      refine ⟨d.1, rfl, ?_⟩
      rw [if_pos (show d.1 < (r : Int) by omega)]
      refine ⟨d.2, rfl, ?_⟩
      rw [if_pos (show 0 ≤ d.2 by omega)]
      refine ⟨d.2, rfl, ?_⟩
      rw [decide_eq_true okd.2.2]
      refine iteF ?_
      refine ⟨d.1, rfl, d.2, rfl, ?_⟩
      rw [if_neg (show ¬ d.1 = d.2 by omega)]
      refine ⟨by decide, fun t1 nt1 => ?_⟩
      have ne1 : t1 ≠ p := fun e => by
        rw [e, upd_ne (show p ≠ t from ne_of_none hp nt), hp] at nt1
        cases nt1
      have s1 : Same H' (upd (upd H' t (HO.tup [V.int i, V.ref td])) t1 (HO.tup [V.int d.1, V.int d.2])) := (same_upd nt).trans (same_upd nt1)
      have out : two d ∉ L.map (·.2) := fun z => by
        obtain ⟨e, he, ee⟩ := List.mem_map.mp (pm.mem_iff.mp z)
        rw [two_inj ee] at he
        exact not_taken nd gd he
      have lenL : L.length ≤ 66 := by
        have e := pm.length_eq
        rw [List.length_map, List.length_map, List.length_take] at e
        omega
      refine ⟨t1, two d, p, L, rfl, rfl, s1 p _ hp, fun q hq => SqT.of (s1 _ _ (tp q hq)), SqT.of upd_same, ?_⟩
      rw [decide_eq_false out]
      refine ⟨false, rfl, iteF ?_⟩
      generalize upd (upd H' t (HO.tup [V.int i, V.ref td])) t1 (HO.tup [V.int d.1, V.int d.2]) = H1 at s1
      have hp1 := s1 p _ hp
      refine ⟨_, rfl, ⟨p, L, rfl, hp1⟩, _, rfl, _, rfl, (by show 2 ≤ sizeLine; decide), fun t2 nt2 => ?_⟩
      have s2 : Same H1 (upd H1 t2 (HO.tup [V.int d.1, V.int d.2])) := same_upd nt2
      have hp2 := s2 p _ hp1
      refine ⟨t2, two d, p, L, rfl, rfl, hp2, fun q hq => SqT.of (s2 _ _ (s1 _ _ (tp q hq))), SqT.of upd_same, by omega, fun L' _ c2 => ?_⟩
      have pm2 := c2 out
      have keep : ∀ b xs, upd H1 t2 (HO.tup [V.int d.1, V.int d.2]) b = some (.tup xs) → upd (upd H1 t2 (HO.tup [V.int d.1, V.int d.2])) p (PsO P w p L') b = some (.tup xs) := fun b xs e => by
        rw [upd_ne]
        · exact e
        · rintro rfl
          rw [hp2] at e
          exact psO_ne (Option.some.inj e)
      refine nxt L' _ _ _ _ (same_ch ((sm.trans s1).trans s2) np) upd_same (fun q hq => ?_) ?_
      · refine keep _ _ ?_
        rcases List.mem_cons.mp (pm2.mem_iff.mp hq) with e | hq2
        · rw [e]
          exact upd_same
        · exact s2 _ _ (s1 _ _ (tp q hq2))
      · refine (pm2.map (·.2)).trans ?_
        rw [List.map_cons, List.take_add_one, gd, List.map_append]
        exact (List.Perm.cons _ pm).trans (List.perm_append_singleton _ _).symm
    · intro σ H' pv
      rw [hPv] at pv
      obtain ⟨L, v3, v4, v5, rfl, sm, hp, tp, pm⟩ := pv
      rw [hul, List.take_length] at pm
      have shape : ∀ q ∈ L, ∃ d ∈ D, q.2 = two d := fun q hq => by
        obtain ⟨d, hd, e⟩ := List.mem_map.mp (pm.mem_iff.mp (List.mem_map.mpr ⟨q, hq, rfl⟩))
        exact ⟨d, hd, e.symm⟩
      have lenL : L.length = D.length := by
        have e := pm.length_eq
        rw [List.length_map, List.length_map] at e
        exact e
      walk_at "rd"
      refine ⟨p, L, rfl, hp, fun q hq => SqT.of (tp q hq), fun q hq => ?_, by omega, fun L' t p1 n1 w1 nt => ?_⟩
      · obtain ⟨d, _, e⟩ := shape q hq
        exact ⟨d.1, d.2, e⟩
      · have hl' : ∀ q ∈ L', pr2 q.2 ∈ D ∧ H' q.1 = some (.tup [.int (pr2 q.2).1, .int (pr2 q.2).2]) := fun q hq => by
          have hq2 := p1.mem_iff.mp hq
          obtain ⟨d, hd, e⟩ := shape q hq2
          have e2 := tp q hq2
          rw [e] at e2 ⊢
          exact ⟨hd, e2⟩
        have back : ∀ q ∈ L', two (pr2 q.2) = q.2 := fun q hq => by
          obtain ⟨d, hd, e⟩ := shape q (p1.mem_iff.mp hq)
          rw [e]
          rfl
        refine q (L'.map fun q => pr2 q.2) (L'.map fun q => V.ref q.1) t _ (asc_of ?_ ?_) (fun d => ?_) (sm.trans (same_upd nt)) (sm.free nt) upd_same ?_
        · refine List.pairwise_map.mpr (List.Pairwise.imp_of_mem (fun {x y} hx hy hne e => hne ?_) (List.pairwise_map.mp n1))
          rw [← back x hx, ← back y hy, e]
        · exact List.pairwise_map.mpr w1
        · constructor
          · intro hd
            obtain ⟨q, hq, rfl⟩ := List.mem_map.mp hd
            exact (hl' q hq).1
          · intro hd
            have m1 : two d ∈ L.map (·.2) := pm.mem_iff.mpr (List.mem_map.mpr ⟨d, hd, rfl⟩)
            obtain ⟨q, hq, e⟩ := List.mem_map.mp m1
            refine List.mem_map.mpr ⟨q, p1.mem_iff.mpr hq, ?_⟩
            rw [e]
            rfl
        · have all : ∀ M : List (Addr × List Int), (∀ q ∈ M, H' q.1 = some (.tup [.int (pr2 q.2).1, .int (pr2 q.2).2])) → PL H' (M.map fun q => V.ref q.1) (M.map fun q => pr2 q.2) := by
            intro M
            induction M with
            | nil => intro _; exact Paired.nil
            | cons q M ih => intro h; exact Paired.cons ⟨q.1, rfl, h q List.mem_cons_self⟩ (ih fun z hz => h z (List.mem_cons_of_mem _ hz))
          exact (all L' fun q hq => (hl' q hq).2).kt (KT.new nt)
end

/-! ### the house as an object -/
def hf (r : Int) (l m : Addr) : List (Str × V) := putF "_near" (.ref m) (putF "_doors" (.ref l) (putF "rooms" (.int r) []))
theorem hn1 : ¬ (("rooms" : Str) = "_doors") := by decide +kernel
theorem hn2 : ¬ (("rooms" : Str) = "_near") := by decide +kernel
theorem hn3 : ¬ (("_doors" : Str) = "_near") := by decide +kernel
theorem hf_rooms (r : Int) (l m : Addr) : (hf r l m).lookup ("rooms" : Str) = some (.int r) := by
  unfold hf
  rw [lookup_putF, if_neg hn2, lookup_putF, if_neg hn1, lookup_putF, if_pos rfl]
theorem hf_doors (r : Int) (l m : Addr) : (hf r l m).lookup ("_doors" : Str) = some (.ref l) := by
  unfold hf
  rw [lookup_putF, if_neg hn3, lookup_putF, if_pos rfl]
theorem hf_near (r : Int) (l m : Addr) : (hf r l m).lookup ("_near" : Str) = some (.ref m) := by
  unfold hf
  rw [lookup_putF, if_pos rfl]
theorem hf_no (r : Int) (l m : Addr) {x : Str} (h1 : ¬ x = "_near") (h2 : ¬ x = "_doors") (h3 : ¬ x = "rooms") : (hf r l m).lookup x = none := by
  unfold hf
  rw [lookup_putF, if_neg h1, lookup_putF, if_neg h2, lookup_putF, if_neg h3]
  rfl
/-- the neighbours of room i by the doors D, in the order in which they are met -/
def nearF (i : Int) (D : List Pr) : List Int := D.filterMap fun d => if d.1 = i then some d.2 else if d.2 = i then some d.1 else none
/-- a house with these rooms and doors stands at p -/
structure HouseAt (C : Addr) (H : Hp) (p : Addr) (r : Nat) (D : List Pr) (own : List Addr) : Prop where
  ex : ∃ (dx l m : Addr) (ls : List V) (ns : List Addr), H p = some (.ins C dx (hf r l m)) ∧ H l = some (.lst ls) ∧ PL H ls D ∧ H m = some (.lst (ns.map V.ref)) ∧ ns.length = r ∧ (∀ i n, ns[i]? = some n → H n = some (.lst ((nearF (i : Nat) D).map V.int))) ∧ own = p :: l :: m :: ns
  ok : Drs r D
  r1 : 1 ≤ r
  r12 : r ≤ 12
theorem nearF_snoc (j : Int) (D : List Pr) (d : Pr) : nearF j (D ++ [d]) = nearF j D ++ (if d.1 = j then [d.2] else if d.2 = j then [d.1] else []) := by
  unfold nearF
  rw [List.filterMap_append]
  congr 1
  show List.filterMap _ [d] = _
  rw [List.filterMap_cons]
  by_cases h1 : d.1 = j
  · simp [h1]
  · by_cases h2 : d.2 = j
    · simp [h1, h2]
    · simp [h1, h2]
def mm2 (d : Pr) : Pr := (if d.2 < d.1 then d.2 else d.1, if d.2 > d.1 then d.2 else d.1)
section
variable {P : Program} {w : World} {K : PySem.W.Frag} {mg : Str → Option Value} {base : Heap}
theorem scHinit : FnScope ["self", "rooms", "doors", "a", "b", "_"] ["self", "rooms", "doors"] (defScope sHinit) := ⟨rfl, rfl, rfl, by decide +kernel, rfl, by decide +kernel, by decide +kernel⟩
def spHinit (C : Addr) : Sp := fun vs H Q _ => ∃ (p dx l : Addr) (r : Nat) (us : List V) (D E : List Pr), vs = [.ref p, .int r, .ref l] ∧ H p = some (.ins C dx []) ∧ H l = some (.lst us) ∧ PL H us D ∧ D.map mm2 = E ∧ E.Nodup ∧ (∀ d ∈ E, 0 ≤ d.1 ∧ d.1 < d.2 ∧ d.2 < r) ∧ 1 ≤ r ∧ r ≤ 12 ∧
  ∀ D' own H', (∀ d, d ∈ D' ↔ d ∈ E) → HouseAt C H' p r D' own → (∀ b o, H b = some o → b ≠ p → H' b = some o) → (∀ b ∈ own, b ≠ p → H b = none) → Q .non H'
theorem ok_hinit {f C fR fC : Addr} {fd fdR fdC : FuncData} (F : Fun K "__init__" "House.__init__" sHinit f fd) (T : Bi mg) (U : Hs K mg C) (d_check_room_count : Df P w K mg base "check_room_count" ["rooms"] 1 spRoom fR fdR)
    (d_checked_doors : Df P w K mg base "checked_doors" ["rooms", "doors"] 1 spChk fC fdC) : FnOk P w K mg base CX0 2 f fd ["self", "rooms", "doors"] (spHinit C) := by
  refine F.ok scHinit (fun vs H Q E h => ?_) (fun cdv A outer s H vs Q E hr h => ?_)
  · obtain ⟨p, dx, l, r, us, D, E, rfl, _⟩ := h
    rfl
  · obtain ⟨p, dx, l, r, us, D, E, rfl, hp, hl, pl, eE, nd, ok, hr1, hr12, q⟩ := h
    refine ⟨_, (pss_cons (ps_expr (pe_call d_check_room_count.ok (hr.mono (by decide)) (by rfl) d_check_room_count.at_ d_check_room_count.kp d_check_room_count.b .nil pass0 (pa_cons (pv 1) pa_nil)))
      (pss_cons (ps_fld (pv 0) (pv 1) rfl)
      (pss_cons (ps_fld (pv 0) (pe_call d_checked_doors.ok (hr.mono (by decide)) (by rfl) d_checked_doors.at_ d_checked_doors.kp d_checked_doors.b .nil pass0 (pa_cons (pv 1) (pa_cons (pe_lc (own := [("a", 3), ("b", 4)]) (g := gTup K 2 (gCons (gName 3) (gCons (gName 4) gNil))) (by rfl) scHinit.nd (pi_list (pv 2)) (blkOk_by (N := ["self", "rooms", "doors", "a", "b", "_"]) (sc := defScope sHinit) (by decide +kernel)) (fun _ _ _ _ _ => pg_tup rfl (pgs_cons (pg_name (i := 3) scHinit.nd rfl (Or.inl rfl)) (pgs_cons (pg_name (i := 4) scHinit.nd rfl (Or.inl rfl)) pgs_nil))) (fun _ _ _ _ _ => pts_nil) (fun _ _ _ _ _ => (pe_tup (pa_cons (pe_callB (call_min2 rfl) (by rfl) T.min (by decide +kernel) (pa_cons (pv 3) (pa_cons (pv 4) pa_nil))) (pa_cons (pe_callB (call_max2 rfl) (by rfl) T.max (by decide +kernel) (pa_cons (pv 3) (pa_cons (pv 4) pa_nil))) pa_nil))))) pa_nil))) rfl)
      (pss_cons (ps_fld (pv 0) (pe_lc (own := [("_", 5)]) (by rfl) scHinit.nd (pi_range1 (by rfl) T.range (pa_cons (pv 1) pa_nil)) (blkOk_by (N := ["self", "rooms", "doors", "a", "b", "_"]) (sc := defScope sHinit) (by decide +kernel)) (fun _ _ _ _ _ => pg_name (i := 5) scHinit.nd rfl (Or.inl rfl)) (fun _ _ _ _ _ => pts_nil) (fun _ _ _ _ _ => (pe_lst pa_nil))) rfl)
      (pss_one (ps_for PassesOwn.never rfl (pi_list (pe_fld (pv 0) rfl)) (pg_tup rfl (pgs_cons (pg_name (i := 3) scHinit.nd rfl (Or.inl rfl)) (pgs_cons (pg_name (i := 4) scHinit.nd rfl (Or.inl rfl)) pgs_nil)))
      (pss_cons (ps_expr (pe_bm PySem.F.plainAttrs_list PySem.F.slot_list_append PySem.F.type_list_append mt_append (pe_ix ix_list (pe_fld (pv 0) rfl) (pv 3) (fun _ _ => rfl)) (pa_cons (pv 4) pa_nil)))
        (pss_one (ps_expr (pe_bm PySem.F.plainAttrs_list PySem.F.slot_list_append PySem.F.type_list_append mt_append (pe_ix ix_list (pe_fld (pv 0) rfl) (pv 4) (fun _ _ => rfl)) (pa_cons (pv 3) pa_nil))))))))))), ?_⟩
    walk_at "rd"
    refine ⟨r, rfl, by omega, by omega, ?_⟩
    have npl : l ≠ p := ne_of hl hp (by intro z; cases z)
    refine ⟨C, dx, [], hp, U.cl, U.nR, (by show 0 < 1000; decide), ?_⟩
    have hl1 : upd H p (HO.ins C dx (putF "rooms" (V.int r) [])) l = some (.lst us) := by rw [upd_ne npl]; exact hl
    have pl1 : PL (upd H p (HO.ins C dx (putF "rooms" (V.int r) []))) us D := pl.kt (KT.ch hp (fun _ z => by cases z))
    have hp1 : upd H p (HO.ins C dx (putF "rooms" (V.int r) [])) p = some (HO.ins C dx (putF "rooms" (V.int r) [])) := upd_same
    have old1 : ∀ b o, H b = some o → b ≠ p → upd H p (HO.ins C dx (putF "rooms" (V.int r) [])) b = some o := fun b o e h => by rw [upd_ne h]; exact e
    have free1 : ∀ b, upd H p (HO.ins C dx (putF "rooms" (V.int r) [])) b = none → H b = none ∧ b ≠ p := fun b e => by
      have h : b ≠ p := fun z => by
        rw [z, upd_same] at e
        cases e
      rw [upd_ne h] at e
      exact ⟨e, h⟩
    generalize upd H p (HO.ins C dx (putF "rooms" (V.int r) [])) = H1 at hl1 pl1 hp1 old1 free1
    have dlen : D.length ≤ 66 := by
      have e := drs_len' hr12 nd ok
      rw [← eE, List.length_map] at e
      exact e
    have ul : us.length = D.length := pl.len
    -- [(min(a, b), max(a, b)) for a, b in doors]
    refine ⟨_, rfl, l, rfl, ⟨_, SqL.of hl1⟩, fun c nc => ?_⟩
    obtain ⟨Pv, hPv⟩ : ∃ Pv : Nat → Hp → Prop, Pv = (fun i H' => ∃ ws, Same H1 H' ∧ H' c = some (.lst ws) ∧ PL H' ws ((D.take i).map mm2)) := ⟨_, rfl⟩
    refine lc_list (K := K) (a := l) (xs := us) Pv (by rw [hPv]; exact ⟨[], same_upd nc, upd_same, PL.nil0 _⟩) (fun i H' _ pv => by rw [hPv] at pv; obtain ⟨_, sm, _⟩ := pv; exact SqL.of (sm _ _ hl1)) (fun i v H' gv pv => ?_) (fun H' pv => ?_)
    · have nxt : ∀ ws H', Same H1 H' → H' c = some (.lst ws) → PL H' ws ((D.take (i + 1)).map mm2) → Pv (i + 1) H' := fun ws H' h1 h2 h3 => by
        rw [hPv]
        exact ⟨ws, h1, h2, h3⟩
      rw [hPv] at pv
      obtain ⟨ws, sm, hc, pw⟩ := pv
      obtain ⟨d, gd, td, rfl, htd⟩ := pl1.get gv
      have hid : i < D.length := (List.getElem?_eq_some_iff.mp gd).1
      have htd1 := sm _ _ htd
      have lw : ws.length ≤ 66 := by
        rw [pw.len, List.length_map, List.length_take]
        omega
      simp only [wipe]
      walk_at "rd"
      refine ⟨_, SqT.of htd1, rfl, _, _, rfl, _, _, rfl, rfl, ?_⟩
      walk_at "rd"
      refine ⟨(by show 2 ≤ sizeLine; decide), fun t nt => ?_⟩
      have nct : c ≠ t := ne_of_none hc nt
      refine ⟨ws, by rw [upd_ne nct]; exact hc, len_big (by omega), nxt (ws ++ [.ref t]) _ (same_ch (sm.trans (same_upd nt)) nc) upd_same ?_⟩
      rw [List.take_add_one, gd, List.map_append]
      refine PL.snoc ((pw.kt (KT.new nt)).kt (KT.lst (by rw [upd_ne nct]; exact hc))) ⟨t, rfl, ?_⟩
      rw [upd_ne nct.symm, upd_same]
      rfl
    · rw [hPv] at pv
      obtain ⟨ws, s2, hc, pw⟩ := pv
      rw [ul, List.take_length, eE] at pw
      -- checked_doors
      refine ⟨r, c, ws, E, rfl, hc, pw, nd, ok, hr12, fun D' ls q0 H2 asc mem s3 nq hq pq => ?_⟩
      have s13 : Same H1 H2 := s2.trans s3
      have hp2 := s13 _ _ hp1
      have nqp : q0 ≠ p := ne_of hq hp2 (by intro z; cases z)
      refine ⟨C, dx, _, hp2, U.cl, U.nD, (by show 1 < 1000; decide), ?_⟩
      have hq3 : upd H2 p (HO.ins C dx (putF "_doors" (V.ref q0) (putF "rooms" (V.int r) []))) q0 = some (.lst ls) := by rw [upd_ne nqp]; exact hq
      have hp3 : upd H2 p (HO.ins C dx (putF "_doors" (V.ref q0) (putF "rooms" (V.int r) []))) p = some (HO.ins C dx (putF "_doors" (V.ref q0) (putF "rooms" (V.int r) []))) := upd_same
      have pq3 : PL (upd H2 p (HO.ins C dx (putF "_doors" (V.ref q0) (putF "rooms" (V.int r) [])))) ls D' := pq.kt (KT.ch hp2 (fun _ z => by cases z))
      have old3 : ∀ b o, H b = some o → b ≠ p → upd H2 p (HO.ins C dx (putF "_doors" (V.ref q0) (putF "rooms" (V.int r) []))) b = some o := fun b o e h => by
        rw [upd_ne h]
        exact s13 _ _ (old1 b o e h)
      have free3 : ∀ b, upd H2 p (HO.ins C dx (putF "_doors" (V.ref q0) (putF "rooms" (V.int r) []))) b = none → H b = none ∧ b ≠ p := fun b e => by
        have h : b ≠ p := fun z => by
          rw [z, upd_same] at e
          cases e
        rw [upd_ne h] at e
        exact free1 b (s13.free e)
      have fq : H q0 = none := (free1 q0 (s2.free nq)).1
      generalize upd H2 p (HO.ins C dx (putF "_doors" (V.ref q0) (putF "rooms" (V.int r) []))) = H3 at hq3 hp3 pq3 old3 free3
      -- [[] for _ in range(rooms)]
      refine ⟨_, rfl, r, rfl, by omega, by omega, fun m nm => ?_⟩
      obtain ⟨Pv, hPv⟩ : ∃ Pv : Nat → Hp → Prop, Pv = (fun i H' => ∃ ns : List Addr, Same H3 H' ∧ H' m = some (.lst (ns.map V.ref)) ∧ ns.length = i ∧ ns.Nodup ∧ (∀ n ∈ ns, H' n = some (.lst []) ∧ H3 n = none ∧ n ≠ m)) := ⟨_, rfl⟩
      refine lc_range (lo := 0) (n := ((r : Nat) : Int).toNat) Pv (by rw [hPv]; exact ⟨[], same_upd nm, upd_same, rfl, List.nodup_nil, fun n hn => by cases hn⟩) (fun i H' hi pv => ?_) (fun H' pv => ?_)
      · have nxt : ∀ (ns : List Addr) H', Same H3 H' → H' m = some (.lst (ns.map V.ref)) → ns.length = i + 1 → ns.Nodup → (∀ n ∈ ns, H' n = some (.lst []) ∧ H3 n = none ∧ n ≠ m) → Pv (i + 1) H' := fun ns H' h1 h2 h3 h4 h5 => by
          rw [hPv]
          exact ⟨ns, h1, h2, h3, h4, h5⟩
        rw [hPv] at pv
        obtain ⟨ns, sm, hm, ln, nn, hn⟩ := pv
        simp only [wipe]
        walk_at "rd"
        refine ⟨by decide, fun e ne => ?_⟩
        have nem : m ≠ e := ne_of_none hm ne
        refine ⟨ns.map V.ref, by rw [upd_ne nem]; exact hm, len_big (by rw [List.length_map]; omega), nxt (ns ++ [e]) _ (same_ch (sm.trans (same_upd ne)) nm) (by rw [upd_same, List.map_append]; rfl) (by rw [List.length_append, ln]; rfl) ?_ fun n hn2 => ?_⟩
        · refine List.nodup_append.mpr ⟨nn, by simp, fun a ha b hb => ?_⟩
          rw [List.mem_singleton.mp hb]
          exact ne_of_none (hn a ha).1 ne
        · rcases List.mem_append.mp hn2 with h | h
          · obtain ⟨h1, h2, h3⟩ := hn n h
            refine ⟨?_, h2, h3⟩
            rw [upd_ne h3, upd_ne (ne_of_none h1 ne)]
            exact h1
          · rw [List.mem_singleton.mp h]
            refine ⟨?_, sm.free ne, nem.symm⟩
            rw [upd_ne nem.symm, upd_same]
      · rw [hPv] at pv
        obtain ⟨ns, s4, hm, ln, nn, hn⟩ := pv
        have hp4 := s4 _ _ hp3
        have nmp : m ≠ p := (ne_of_none hp3 nm).symm
        refine ⟨C, dx, _, hp4, U.cl, U.nN, (by show 2 < 1000; decide), ?_⟩
        have ehf : putF "_near" (V.ref m) (putF "_doors" (V.ref q0) (putF "rooms" (V.int r) [])) = hf r q0 m := rfl
        rw [ehf]
        have npn : ∀ n ∈ ns, n ≠ p := fun n h => (ne_of_none hp3 (hn n h).2.1).symm
        have nqn : ∀ n ∈ ns, n ≠ q0 := fun n h => (ne_of_none hq3 (hn n h).2.1).symm
        have hp5 : upd H' p (HO.ins C dx (hf r q0 m)) p = some (HO.ins C dx (hf r q0 m)) := upd_same
        have hq5 : upd H' p (HO.ins C dx (hf r q0 m)) q0 = some (.lst ls) := by rw [upd_ne nqp]; exact s4 _ _ hq3
        have hm5 : upd H' p (HO.ins C dx (hf r q0 m)) m = some (.lst (ns.map V.ref)) := by rw [upd_ne nmp]; exact hm
        have hn5 : ∀ n ∈ ns, upd H' p (HO.ins C dx (hf r q0 m)) n = some (.lst []) := fun n h => by rw [upd_ne (npn n h)]; exact (hn n h).1
        have pq5 : PL (upd H' p (HO.ins C dx (hf r q0 m))) ls D' := (pq3.kt (KT.same s4)).kt (KT.ch hp4 (fun _ z => by cases z))
        have old5 : ∀ b o, H b = some o → b ≠ p → upd H' p (HO.ins C dx (hf r q0 m)) b = some o := fun b o e h => by
          rw [upd_ne h]
          exact s4 _ _ (old3 b o e h)
        have fm : H m = none := (free3 m nm).1
        have fn : ∀ n ∈ ns, H n = none := fun n h => (free3 n (hn n h).2.1).1
        have nmn : ∀ n ∈ ns, n ≠ m := fun n h => (hn n h).2.2
        generalize upd H' p (HO.ins C dx (hf r q0 m)) = H5 at hp5 hq5 hm5 hn5 pq5 old5
        have drs : Drs r D' := ⟨asc, fun d hd => ok d ((mem d).mp hd)⟩
        have dl : D'.length ≤ 66 := drs.len hr12
        have ll : ls.length = D'.length := pq.len
        -- the rooms' neighbours
        obtain ⟨Pw, hPw⟩ : ∃ Pw : Nat → L2.St → Hp → Prop, Pw = (fun i σ H' => ∃ v3 v4 : Option V, σ = [some (.ref p), some (.int r), some (.ref l), v3, v4, none] ∧ (∀ b o, H5 b = some o → b ∉ ns → H' b = some o) ∧ (∀ (j : Nat) n, ns[j]? = some n → H' n = some (.lst ((nearF (j : Nat) (D'.take i)).map V.int)))) := ⟨_, rfl⟩
        refine ⟨_, rfl, p, C, dx, _, .ref q0, rfl, hp5, U.cl, U.nD, hf_doors _ _ _, q0, rfl, ⟨_, SqL.of hq5⟩, for_list (K := K) (a := q0) (xs := ls) Pw (by rw [hPw]; exact ⟨none, none, rfl, fun b o e _ => e, fun j n g => hn5 n (List.mem_of_getElem? g)⟩) (fun i σ H' _ pv => ?_) (fun i v σ H' gv pv => ?_) (fun σ H' pv => ?_)⟩
        · rw [hPw] at pv
          obtain ⟨_, _, _, k1, _⟩ := pv
          exact SqL.of (k1 _ _ hq5 fun z => nqn _ z rfl)
        · have nxt : ∀ v3 v4 H', (∀ b o, H5 b = some o → b ∉ ns → H' b = some o) → (∀ (j : Nat) n, ns[j]? = some n → H' n = some (.lst ((nearF (j : Nat) (D'.take (i + 1))).map V.int))) → Pw (i + 1) [some (.ref p), some (.int r), some (.ref l), v3, v4, none] H' := fun v3 v4 H' h1 h2 => by
            rw [hPw]
            exact ⟨v3, v4, rfl, h1, h2⟩
          rw [hPw] at pv
          obtain ⟨v3, v4, rfl, k1, k2⟩ := pv
          obtain ⟨d, gd, td, rfl, htd⟩ := pq5.get gv
          have okd := drs.ok d (List.mem_of_getElem? gd)
          have htd1 : H' td = some (.tup [.int d.1, .int d.2]) := k1 _ _ htd fun z => by
            have e := hn5 td z
            rw [htd] at e
            cases e
          obtain ⟨ja, eja⟩ : ∃ ja : Nat, d.1 = ja := ⟨d.1.toNat, by omega⟩
          obtain ⟨jb, ejb⟩ : ∃ jb : Nat, d.2 = jb := ⟨d.2.toNat, by omega⟩
          obtain ⟨na, gna⟩ : ∃ n, ns[ja]? = some n := ⟨_, List.getElem?_eq_getElem (by omega)⟩
          obtain ⟨nb, gnb⟩ : ∃ n, ns[jb]? = some n := ⟨_, List.getElem?_eq_getElem (by omega)⟩
          have nab : na ≠ nb := fun z => by
            rw [← z] at gnb
            have := nd_ix nn gna gnb
            omega
          have mna := List.mem_of_getElem? gna
          have mnb := List.mem_of_getElem? gnb
          have hp6 := k1 _ _ hp5 fun z => npn _ z rfl
          have hm6 := k1 _ _ hm5 fun z => nmn _ z rfl
          have short : ∀ j : Int, (nearF j (D'.take i)).length ≤ 66 := fun j => by
            have := List.length_filterMap_le (fun d : Pr => if d.1 = j then some d.2 else if d.2 = j then some d.1 else none) (D'.take i)
            rw [List.length_take] at this
            show (List.filterMap _ _).length ≤ 66
            omega
          have ga := k2 ja na gna
          have gb := k2 jb nb gnb
          walk_at "rd"
          refine ⟨_, SqT.of htd1, rfl, _, _, rfl, _, _, rfl, rfl, ?_⟩
          walk_at "rd"
          have npa : p ≠ na := fun z => npn na mna z.symm
          have nma : m ≠ na := fun z => nmn na mna z.symm
          have big : ∀ j : Int, ((nearF j (D'.take i)).map V.int).length < sizeLine := fun j => len_big (by rw [List.length_map]; have := short j; omega)
          refine ⟨C, dx, _, hp6, U.cl, U.nN, .ref m, hf_near _ _ _, m, rfl, _, SqL.of hm6, .ref na, at_of (j := ja) eja (by rw [List.getElem?_map, gna]; rfl), .inl ⟨rfl, _, SqL.of ga⟩, na, rfl, _, ga, big _, ?_⟩
          refine ⟨C, dx, _, by rw [upd_ne npa]; exact hp6, U.cl, U.nN, .ref m, hf_near _ _ _, m, rfl, _, SqL.of (by rw [upd_ne nma]; exact hm6), .ref nb, at_of (j := jb) ejb (by rw [List.getElem?_map, gnb]; rfl), ?_⟩
          have gb2 : upd H' na (HO.lst ((nearF (ja : Nat) (D'.take i)).map V.int ++ [V.int d.2])) nb = some (.lst ((nearF (jb : Nat) (D'.take i)).map V.int)) := by rw [upd_ne nab.symm]; exact gb
          refine ⟨.inl ⟨rfl, _, SqL.of gb2⟩, nb, rfl, _, gb2, big _, ?_⟩
          refine nxt _ _ _ (fun b o e h => ?_) (fun j n gn => ?_)
          · rw [upd_ne (show b ≠ nb from fun z => h (by rw [z]; exact mnb)), upd_ne (show b ≠ na from fun z => h (by rw [z]; exact mna))]
            exact k1 b o e h
          · rw [List.take_add_one, gd]
            show _ = some (HO.lst ((nearF (j : Nat) (D'.take i ++ [d])).map V.int))
            rw [nearF_snoc]
            by_cases e1 : n = nb
            · subst e1
              have ej := nd_ix nn gn gnb
              subst ej
              rw [upd_same, if_neg (by omega), if_pos ejb, List.map_append, eja]
              rfl
            · rw [upd_ne e1]
              by_cases e2 : n = na
              · subst e2
                have ej := nd_ix nn gn gna
                subst ej
                rw [upd_same, if_pos eja, List.map_append]
                rfl
              · have j1 : ¬ d.1 = (j : Int) := fun z => e2 (by
                  have ej : j = ja := by omega
                  rw [ej, gna] at gn
                  exact (Option.some.inj gn).symm)
                have j2 : ¬ d.2 = (j : Int) := fun z => e1 (by
                  have ej : j = jb := by omega
                  rw [ej, gnb] at gn
                  exact (Option.some.inj gn).symm)
                rw [upd_ne e2, if_neg j1, if_neg j2, List.append_nil]
                exact k2 j n gn
        · rw [hPw] at pv
          obtain ⟨v3, v4, rfl, k1, k2⟩ := pv
          rw [ll, List.take_length] at k2
          refine q D' (p :: q0 :: m :: ns) H' mem ⟨⟨dx, q0, m, ls, ns, k1 _ _ hp5 fun z => npn _ z rfl, k1 _ _ hq5 fun z => nqn _ z rfl, ?_, k1 _ _ hm5 fun z => nmn _ z rfl, by omega, k2, rfl⟩, drs, hr1, hr12⟩ (fun b o e h => ?_) fun b hb h => ?_
          · refine Paired.mapP pq5 fun v d ⟨t, e, ht⟩ => ⟨t, e, k1 _ _ ht fun z => ?_⟩
            have e2 := hn5 t z
            rw [ht] at e2
            cases e2
          · refine k1 _ _ (old5 b o e h) fun z => ?_
            rw [fn b z] at e
            cases e
          · rcases List.mem_cons.mp hb with z | hb
            · exact absurd z h
            · rcases List.mem_cons.mp hb with z | hb
              · rw [z]; exact fq
              · rcases List.mem_cons.mp hb with z | hb
                · rw [z]; exact fm
                · exact fn b hb
end

theorem HouseAt.keep {C : Addr} {H H' : Hp} {p : Addr} {r : Nat} {D : List Pr} {own : List Addr} (h : HouseAt C H p r D own) (k : ∀ b o, b ∈ own → H b = some o → H' b = some o) (kt : KT H H') : HouseAt C H' p r D own := by
  obtain ⟨dx, l, m, ls, ns, h1, h2, h3, h4, h5, h6, rfl⟩ := h.ex
  refine ⟨⟨dx, l, m, ls, ns, k _ _ List.mem_cons_self h1, k _ _ (by simp) h2, h3.kt kt, k _ _ (by simp) h4, h5, fun i n g => k _ _ (by have := List.mem_of_getElem? g; simp [this]) (h6 i n g), rfl⟩, h.ok, h.r1, h.r12⟩
theorem HouseAt.same {C : Addr} {H H' : Hp} {p : Addr} {r : Nat} {D : List Pr} {own : List Addr} (h : HouseAt C H p r D own) (s : Same H H') : HouseAt C H' p r D own := h.keep (fun b o _ e => s b o e) (KT.same s)
theorem HouseAt.stands {C : Addr} {H : Hp} {p : Addr} {r : Nat} {D : List Pr} {own : List Addr} (h : HouseAt C H p r D own) : ∀ b ∈ own, ∃ o, H b = some o := by
  obtain ⟨dx, l, m, ls, ns, h1, h2, h3, h4, h5, h6, rfl⟩ := h.ex
  intro b hb
  rcases List.mem_cons.mp hb with z | hb
  · exact ⟨_, by rw [z]; exact h1⟩
  · rcases List.mem_cons.mp hb with z | hb
    · exact ⟨_, by rw [z]; exact h2⟩
    · rcases List.mem_cons.mp hb with z | hb
      · exact ⟨_, by rw [z]; exact h4⟩
      · obtain ⟨i, g⟩ := List.getElem?_of_mem hb
        exact ⟨_, h6 i b g⟩
section
variable {P : Program} {w : World} {K : PySem.W.Frag} {mg : Str → Option Value} {base : Heap}
theorem scHdoors : FnScope ["self"] ["self"] (defScope sHdoors) := ⟨rfl, rfl, rfl, by decide +kernel, rfl, by decide +kernel, by decide +kernel⟩
def spHdoors (C : Addr) : Sp := fun vs H Q _ => ∃ (p : Addr) (r : Nat) (D : List Pr) (own : List Addr), vs = [.ref p] ∧ HouseAt C H p r D own ∧ ∀ ls q, PL H ls D → H q = none → Q (.ref q) (upd H q (.lst ls))
theorem ok_hdoors {f C : Addr} {fd : FuncData} (F : Fun K "doors" "House.doors" sHdoors f fd) (T : Bi mg) (U : Hs K mg C) : FnOk P w K mg base CX0 1 f fd ["self"] (spHdoors C) := by
  refine F.ok scHdoors (fun vs H Q E h => ?_) (fun cdv A outer s H vs Q E hr h => ?_)
  · obtain ⟨p, r, D, own, rfl, _⟩ := h
    rfl
  · obtain ⟨p, r, D, own, rfl, hh, q⟩ := h
    obtain ⟨dx, l, m, ls, ns, h1, h2, h3, h4, h5, h6, rfl⟩ := hh.ex
    refine ⟨_, (pss_one (ps_ret (pe_callTy call_list_of (by rfl) T.list (by decide +kernel) (pa_cons (pe_fld (pv 0) rfl) pa_nil)))), ?_⟩
    walk_at "rd"
    exact ⟨C, dx, _, h1, U.cl, U.nD, .ref l, hf_doors _ _ _, l, rfl, _, .inl (SqL.of h2), fun t nt => q ls t h3 nt⟩
theorem scHnear : FnScope ["self", "room"] ["self", "room"] (defScope sHnear) := ⟨rfl, rfl, rfl, by decide +kernel, rfl, by decide +kernel, by decide +kernel⟩
def spHnear (C : Addr) : Sp := fun vs H Q _ => ∃ (p : Addr) (r : Nat) (D : List Pr) (own : List Addr) (i : Nat), vs = [.ref p, .int i] ∧ HouseAt C H p r D own ∧ i < r ∧ ∀ q, H q = none → Q (.ref q) (upd H q (.lst ((nearF (i : Nat) D).map V.int)))
theorem ok_hnear {f C : Addr} {fd : FuncData} (F : Fun K "neighbours" "House.neighbours" sHnear f fd) (T : Bi mg) (U : Hs K mg C) : FnOk P w K mg base CX0 1 f fd ["self", "room"] (spHnear C) := by
  refine F.ok scHnear (fun vs H Q E h => ?_) (fun cdv A outer s H vs Q E hr h => ?_)
  · obtain ⟨p, r, D, own, i, rfl, _⟩ := h
    rfl
  · obtain ⟨p, r, D, own, i, rfl, hh, hi, q⟩ := h
    obtain ⟨dx, l, m, ls, ns, h1, h2, h3, h4, h5, h6, rfl⟩ := hh.ex
    obtain ⟨n, gn⟩ : ∃ n, ns[i]? = some n := ⟨_, List.getElem?_eq_getElem (by omega)⟩
    refine ⟨_, (pss_one (ps_ret (pe_callTy call_list_of (by rfl) T.list (by decide +kernel) (pa_cons (pe_ix ix_list (pe_fld (pv 0) rfl) (pv 1) (fun _ _ => rfl)) pa_nil)))), ?_⟩
    walk_at "rd"
    refine ⟨C, dx, _, h1, U.cl, U.nN, .ref m, hf_near _ _ _, m, rfl, _, SqL.of h4, .ref n, atI_nat (by rw [List.getElem?_map, gn]; rfl), n, rfl, _, .inl (SqL.of (h6 i n gn)), fun t nt => q t nt⟩
end

/-! ### a bound method as a value, and its call -/
def tBnd (C : Addr) (m : Str) (g : Addr) (ta : TE) : TE := fun σ H Q => ta σ H fun x H1 => ∃ a dx fs, x = .ref a ∧ H1 a = some (.ins C dx fs) ∧ fs.lookup m = none ∧ ∀ q, H1 q = none → Q (.ref q) (upd H1 q (.met g a))
theorem pe_bnd {X : Cx} {C g : Addr} {m : Str} {e : Expr} {ta : TE} {pos : Pos} (he : PE X e ta) (c : Cls X.K C) (k : BMeth X.K C m g) (hb : attributeBase e m X.env (eval e X.env) = eval e X.env := by rfl) : PE X (.Attribute e m pos) (tBnd C m g ta) := by
  refine ⟨fun pins s σ H Q I h => ?_⟩
  refine attr_of hb (thn (he.run pins s σ H _ I h) fun u s1 ⟨x, H1, I1, rx, a, dx, fs, ex, ea, l, q⟩ => ?_)
  subst ex
  obtain rfl : u = Value.ref a := rx
  exact getbound_ok I1 ea c k l fun p s2 hp I2 => ⟨.ref p, _, I2, rfl, q p hp⟩
/-- f(e, ..), the i-th slot a bound method of the def at g -/
def tCallM (i : Nat) (g : Addr) (sp : Sp) (E : XK) (t : TA) : TE := fun σ H Q => ∃ q a, σ[i]? = some (some (.ref q)) ∧ t σ H fun vs H1 => H1 q = some (.met g a) ∧ sp (.ref a :: vs) H1 Q E
theorem pe_callM {X : Cx} {CX : CXT} {k i : Nat} {g : Addr} {sp : Sp} {E : XK} {x : Str} {p pos : Pos} {e : Expr} {es : List Expr} {t : TA} (F : FnR X.prog X.w X.K X.mg X.base CX k g sp) (hr : Room k X.A) (hN : X.N[i]? = some x) (hv : L2.Vis X.env.scope x) (hf : PySem.W.fnIn X.K g = true) (hx : Passes CX X E) (ha : PA X (e :: es) t)
    (hdb : (x == ("__debug__" : Str)) = false := by decide) (hcd : (x == ("__classdict__" : Str)) = false := by decide)
    (he : starEach (e :: es) X.env = (false, eval e X.env) :: starEach es X.env := by rfl) (hpl : (backTo pos (starEach es X.env)).any (·.1) = false := by rfl) : PE X (.Call (.Name x p) (e :: es) [] pos) (tCallM i g sp E t) := by
  refine ⟨fun pins s σ H Q I h => ?_⟩
  obtain ⟨q, a, hs, ht⟩ := h
  refine wpAny_Call_Name_kw (thn ((pe_var (pos := p) hN hv hdb hcd).run pins s σ H (fun v H1 => v = .ref q ∧ H1 = H) I ⟨.ref q, hs, rfl, rfl⟩) fun u s1 ⟨v, H1, I1, r1, q1⟩ => ?_)
  obtain ⟨rfl, rfl⟩ := q1
  cases r1
  have h2 : wpAny (model X.prog X.w) X.A (spliced (backTo pos (starEach (e :: es) X.env))) (fun us s2 => PySem.W.MethP X.K q g (.ref a) s2.heap ∧ wpAny (model X.prog X.w) X.A (call (.ref q) ([] ++ us)) (EP X pins σ Q) X.xe s2) X.xe s1 :=
    thn (ha.run pos pins s1 σ _ _ I1 ht) fun us s2 ⟨vs, H2, I2, r, hm, hsp⟩ => ⟨met_P I2 hm, wpAny_call (call_met I2 hm (run_fnR (us := Value.ref a :: us) (vs := V.ref a :: vs) F hr hx I2 (.cons rfl r) hsp))⟩
  rw [he] at h2 ⊢
  exact PySem.W.callWith_of (P := PySem.W.MethP X.K q g (.ref a)) (by show ((false || (backTo pos (starEach es X.env)).any (·.1)) || false) = false; rw [hpl]; rfl) (PySem.W.keeps_M hf) (PySem.Calls.evalArgs_plain h2)

/-! ### pieces of a house -/
def Adj (D : List Pr) (a b : Int) : Prop := (a, b) ∈ D ∨ (b, a) ∈ D
theorem mem_nearF {D : List Pr} {a b : Int} (ok : ∀ d ∈ D, d.1 < d.2) : b ∈ nearF a D ↔ Adj D a b := by
  unfold nearF Adj
  rw [List.mem_filterMap]
  constructor
  · rintro ⟨d, hd, e⟩
    by_cases h1 : d.1 = a
    · rw [if_pos h1] at e
      have e := Option.some.inj e
      subst h1
      subst e
      exact .inl hd
    · rw [if_neg h1] at e
      by_cases h2 : d.2 = a
      · rw [if_pos h2] at e
        have e := Option.some.inj e
        subst h2
        subst e
        exact .inr hd
      · rw [if_neg h2] at e
        cases e
  · rintro (h | h)
    · exact ⟨_, h, if_pos rfl⟩
    · have := ok _ h
      refine ⟨_, h, ?_⟩
      rw [if_neg (by simp only at this ⊢; omega), if_pos rfl]
inductive Rch (D : List Pr) (R : List Int) (s : Int) : Int → Prop
  | base : s ∈ R → Rch D R s s
  | step {a b : Int} : Rch D R s a → Adj D a b → b ∈ R → Rch D R s b
theorem Rch.mem {D : List Pr} {R : List Int} {s x : Int} (h : Rch D R s x) : x ∈ R := by
  cases h with
  | base h => exact h
  | step _ _ h => exact h
theorem Rch.start {D : List Pr} {R : List Int} {s x : Int} (h : Rch D R s x) : s ∈ R := by
  induction h with
  | base h => exact h
  | step _ _ _ ih => exact ih
theorem Rch.trans {D : List Pr} {R : List Int} {s x y : Int} (h : Rch D R s x) (k : Rch D R x y) : Rch D R s y := by
  induction k with
  | base _ => exact h
  | step _ a b ih => exact ih.step a b
theorem Rch.symm {D : List Pr} {R : List Int} {s x : Int} (h : Rch D R s x) : Rch D R x s := by
  induction h with
  | base h => exact .base h
  | step k a b ih => exact Rch.trans (.step (.base b) a.symm k.mem) ih
theorem Rch.mono {D : List Pr} {R R' : List Int} {s x : Int} (h : Rch D R s x) (m : ∀ x, x ∈ R → x ∈ R') : Rch D R' s x := by
  induction h with
  | base h => exact .base (m _ h)
  | step _ a b ih => exact ih.step a (m _ b)
theorem pw_uniq {α : Type} {r : α → α → Prop} (asy : ∀ a b, r a b → r b a → False) : ∀ {D E : List α}, D.Pairwise r → E.Pairwise r → (∀ p, p ∈ D ↔ p ∈ E) → D = E
  | [], [], _, _, _ => rfl
  | [], q :: E, _, _, h => by
    have := (h q).mpr List.mem_cons_self
    cases this
  | p :: D, [], _, _, h => by
    have := (h p).mp List.mem_cons_self
    cases this
  | p :: D, q :: E, hD, hE, h => by
    obtain ⟨a1, a2⟩ := List.pairwise_cons.mp hD
    obtain ⟨b1, b2⟩ := List.pairwise_cons.mp hE
    have e : p = q := by
      rcases List.mem_cons.mp ((h p).mp List.mem_cons_self) with e | hp
      · exact e
      · rcases List.mem_cons.mp ((h q).mpr List.mem_cons_self) with e | hq
        · exact e.symm
        · exact (asy _ _ (b1 p hp) (a1 q hq)).elim
    subst e
    rw [pw_uniq asy a2 b2 fun z => ?_]
    constructor
    · intro hz
      rcases List.mem_cons.mp ((h z).mp (List.mem_cons_of_mem _ hz)) with e | m
      · subst e
        exact (asy _ _ (a1 z hz) (a1 z hz)).elim
      · exact m
    · intro hz
      rcases List.mem_cons.mp ((h z).mpr (List.mem_cons_of_mem _ hz)) with e | m
      · subst e
        exact (asy _ _ (b1 z hz) (b1 z hz)).elim
      · exact m
def Up (ys : List Int) : Prop := ys.Pairwise (· < ·)
theorem up_uniq {ys zs : List Int} (h1 : Up ys) (h2 : Up zs) (h : ∀ x, x ∈ ys ↔ x ∈ zs) : ys = zs := pw_uniq (fun a b h1 h2 => by omega) h1 h2 h
def hdI : List Int → Int
  | [] => 0
  | x :: _ => x
theorem hdI_mem {ys : List Int} {x : Int} (h : x ∈ ys) : hdI ys ∈ ys := by
  cases ys with
  | nil => cases h
  | cons y ys => exact List.mem_cons_self
theorem hdI_le {ys : List Int} {x : Int} (u : Up ys) (h : x ∈ ys) : hdI ys ≤ x := by
  cases ys with
  | nil => cases h
  | cons y ys =>
    rcases List.mem_cons.mp h with e | m
    · rw [e]; exact Int.le_refl _
    · exact Int.le_of_lt ((List.pairwise_cons.mp u).1 x m)
/-- the piece of s among the rooms R -/
def Pc (D : List Pr) (R : List Int) (s : Int) (ys : List Int) : Prop := Up ys ∧ ∀ x, x ∈ ys ↔ Rch D R s x
/-- all pieces of the rooms R, by their least rooms -/
structure Pcs (D : List Pr) (R : List Int) (P : List (List Int)) : Prop where
  pc : ∀ ys ∈ P, ∃ s ∈ R, Pc D R s ys
  cov : ∀ s ∈ R, ∃ ys ∈ P, s ∈ ys
  asc : P.Pairwise fun a b => hdI a < hdI b
theorem Pc.of {D : List Pr} {R : List Int} {s t : Int} {ys : List Int} (h : Pc D R s ys) (m : t ∈ ys) : Pc D R t ys :=
  ⟨h.1, fun x => ⟨fun hx => (((h.2 t).mp m).symm).trans ((h.2 x).mp hx), fun hx => (h.2 x).mpr (((h.2 t).mp m).trans hx)⟩⟩
theorem Pc.congr {D : List Pr} {R R' : List Int} {s : Int} {ys : List Int} (h : Pc D R s ys) (e : ∀ x, x ∈ R ↔ x ∈ R') : Pc D R' s ys :=
  ⟨h.1, fun x => (h.2 x).trans ⟨fun z => z.mono fun x => (e x).mp, fun z => z.mono fun x => (e x).mpr⟩⟩
theorem Pc.uniq {D : List Pr} {R : List Int} {s : Int} {ys zs : List Int} (h : Pc D R s ys) (k : Pc D R s zs) : ys = zs := up_uniq h.1 k.1 fun x => (h.2 x).trans (k.2 x).symm
theorem Pc.self {D : List Pr} {R : List Int} {s : Int} {ys : List Int} (h : Pc D R s ys) (m : s ∈ R) : s ∈ ys := (h.2 s).mpr (.base m)
theorem Pcs.sub {D : List Pr} {R R' : List Int} {P P' : List (List Int)} (h : Pcs D R P) (k : Pcs D R' P') (e : ∀ x, x ∈ R ↔ x ∈ R') {ys : List Int} (m : ys ∈ P) : ys ∈ P' := by
  obtain ⟨s, hs, hc⟩ := h.pc ys m
  obtain ⟨zs, hz, sz⟩ := k.cov s ((e s).mp hs)
  obtain ⟨t, ht, hk⟩ := k.pc zs hz
  rw [(hc.congr e).uniq (hk.of sz)]
  exact hz
theorem Pcs.uniq {D : List Pr} {R R' : List Int} {P P' : List (List Int)} (h : Pcs D R P) (k : Pcs D R' P') (e : ∀ x, x ∈ R ↔ x ∈ R') : P = P' :=
  pw_uniq (fun a b h1 h2 => by omega) h.asc k.asc fun ys => ⟨fun m => h.sub k e m, fun m => k.sub h (fun x => (e x).symm) m⟩
theorem Pcs.nil (D : List Pr) : Pcs D [] [] := ⟨fun ys m => (by cases m), fun s m => (by cases m), List.Pairwise.nil⟩
/-- a piece is one piece -/
theorem Pc.one {D : List Pr} {R R' : List Int} {s : Int} {ys : List Int} (h : Pc D R s ys) (m : s ∈ R) (e : ∀ x, x ∈ R' ↔ x ∈ ys) : Pcs D R' [ys] := by
  have key : ∀ x, Rch D R s x → Rch D R' s x := fun x k => by
    induction k with
    | base k => exact .base ((e s).mpr (h.self m))
    | step k a b ih => exact ih.step a ((e _).mpr ((h.2 _).mpr (k.step a b)))
  refine ⟨fun zs hz => ?_, fun t ht => ⟨ys, List.mem_cons_self, (e t).mp ht⟩, List.pairwise_singleton _ _⟩
  rw [List.mem_singleton.mp hz]
  exact ⟨s, (e s).mpr (h.self m), h.1, fun x => ⟨fun hx => key x ((h.2 x).mp hx), fun hx => (e x).mp hx.mem⟩⟩
/-- two pieces are not one -/
theorem Pc.two {D : List Pr} {R R' : List Int} {s t : Int} {ys zs : List Int} {P : List (List Int)} (h : Pc D R s ys) (k : Pc D R t zs) (hs : s ∈ R) (ht : t ∈ R) (ne : ys ≠ zs) (e : ∀ x, x ∈ R' ↔ x ∈ ys ∨ x ∈ zs) (p : Pcs D R' P) : P.length ≠ 1 := by
  intro z
  obtain ⟨c, rfl⟩ : ∃ c, P = [c] := by
    cases P with
    | nil => cases z
    | cons c P =>
      cases P with
      | nil => exact ⟨c, rfl⟩
      | cons d P => exact absurd z (by rw [List.length_cons, List.length_cons]; omega)
  obtain ⟨c1, m1, s1⟩ := p.cov s ((e s).mpr (.inl (h.self hs)))
  obtain ⟨c2, m2, t2⟩ := p.cov t ((e t).mpr (.inr (k.self ht)))
  rw [List.mem_singleton.mp m1] at s1
  rw [List.mem_singleton.mp m2] at t2
  obtain ⟨u, hu, hc⟩ := p.pc c List.mem_cons_self
  have st : Rch D R' s t := (((hc.2 s).mp s1).symm).trans ((hc.2 t).mp t2)
  have st2 : Rch D R s t := st.mono fun x hx => by
    rcases (e x).mp hx with m | m
    · exact ((h.2 x).mp m).mem
    · exact ((k.2 x).mp m).mem
  exact ne ((h.of ((h.2 t).mpr st2)).uniq k)
/-! the program's way -/
structure PInv (D : List Pr) (R : List Int) (P : List (List Int)) (Lf : List Int) : Prop where
  pc : ∀ ys ∈ P, ∃ s ∈ R, Pc D R s ys
  lf : ∀ x, x ∈ Lf ↔ x ∈ R ∧ ∀ ys ∈ P, x ∉ ys
  asc : P.Pairwise fun a b => hdI a < hdI b
  lo : ∀ ys ∈ P, ∀ x ∈ Lf, hdI ys < x
  up : Lf.Pairwise (· ≤ ·)
theorem PInv.start {D : List Pr} {R Lf : List Int} (m : ∀ x, x ∈ Lf ↔ x ∈ R) (u : Lf.Pairwise (· ≤ ·)) : PInv D R [] Lf :=
  ⟨fun ys h => (by cases h), fun x => ⟨fun h => ⟨(m x).mp h, fun ys z => (by cases z)⟩, fun h => (m x).mpr h.1⟩, List.Pairwise.nil, fun ys h => (by cases h), u⟩
theorem PInv.done {D : List Pr} {R : List Int} {P : List (List Int)} (h : PInv D R P []) : Pcs D R P :=
  ⟨h.pc, fun s hs => Classical.byContradiction fun z => List.not_mem_nil ((h.lf s).mpr ⟨hs, fun ys hy m => z ⟨ys, hy, m⟩⟩), h.asc⟩
theorem PInv.rch {D : List Pr} {R : List Int} {P : List (List Int)} {Lf : List Int} (h : PInv D R P Lf) {s x : Int} : Rch D Lf s x ↔ s ∈ Lf ∧ Rch D R s x := by
  constructor
  · exact fun k => ⟨k.start, k.mono fun x hx => ((h.lf x).mp hx).1⟩
  · rintro ⟨m, k⟩
    induction k with
    | base _ => exact .base m
    | step k a b ih =>
      rename_i a' b'
      refine ih.step a ((h.lf _).mpr ⟨b, fun ys hy z => ?_⟩)
      obtain ⟨t, ht, hc⟩ := h.pc ys hy
      exact ((h.lf _).mp ih.mem).2 ys hy ((hc.2 _).mpr (((hc.2 _).mp z).step a.symm k.mem))
theorem PInv.step {D : List Pr} {R : List Int} {P : List (List Int)} {l0 : Int} {Lf ys : List Int} (h : PInv D R P (l0 :: Lf)) (k : Pc D (l0 :: Lf) l0 ys) : PInv D R (P ++ [ys]) ((l0 :: Lf).filter fun x => decide (x ∉ ys)) := by
  have m0 : l0 ∈ l0 :: Lf := List.mem_cons_self
  have r0 := ((h.lf l0).mp m0).1
  have kR : Pc D R l0 ys := ⟨k.1, fun x => (k.2 x).trans (h.rch.trans ⟨fun z => z.2, fun z => ⟨m0, z⟩⟩)⟩
  have hd : hdI ys = l0 := by
    have a1 := hdI_le k.1 (k.self m0)
    have a2 := ((k.2 _).mp (hdI_mem (k.self m0))).mem
    rcases List.mem_cons.mp a2 with e | e
    · exact e
    · have := (List.pairwise_cons.mp h.up).1 _ e
      omega
  refine ⟨fun zs hz => ?_, fun x => ?_, ?_, fun zs hz x hx => ?_, h.up.filter _⟩
  · rcases List.mem_append.mp hz with m | m
    · exact h.pc zs m
    · rw [List.mem_singleton.mp m]
      exact ⟨l0, r0, kR⟩
  · rw [List.mem_filter, h.lf x]
    constructor
    · rintro ⟨⟨h1, h2⟩, h3⟩
      refine ⟨h1, fun zs hz => ?_⟩
      rcases List.mem_append.mp hz with m | m
      · exact h2 zs m
      · rw [List.mem_singleton.mp m]
        exact of_decide_eq_true h3
    · rintro ⟨h1, h2⟩
      exact ⟨⟨h1, fun zs hz => h2 zs (List.mem_append_left _ hz)⟩, decide_eq_true (h2 ys (List.mem_append_right _ List.mem_cons_self))⟩
  · refine List.pairwise_append.mpr ⟨h.asc, List.pairwise_singleton _ _, fun a ha b hb => ?_⟩
    rw [List.mem_singleton.mp hb, hd]
    exact h.lo a ha l0 m0
  · obtain ⟨hx1, hx2⟩ := List.mem_filter.mp hx
    rcases List.mem_append.mp hz with m | m
    · exact h.lo zs m x hx1
    · rw [List.mem_singleton.mp m, hd]
      rcases List.mem_cons.mp hx1 with e | e
      · exact absurd (k.self m0) (by rw [← e]; exact of_decide_eq_true hx2)
      · have := (List.pairwise_cons.mp h.up).1 _ e
        have ne : x ≠ l0 := fun z => of_decide_eq_true hx2 (by rw [z]; exact k.self m0)
        omega
/-! the law's way -/
structure LInv (D : List Pr) (R S : List Int) (j : Nat) (P : List (List Int)) (dn : List Int) : Prop where
  pc : ∀ ys ∈ P, ∃ s ∈ R, Pc D R s ys
  dnm : ∀ x, x ∈ dn ↔ ∃ ys ∈ P, x ∈ ys
  asc : P.Pairwise fun a b => hdI a < hdI b
  seen : ∀ x ∈ S.take j, x ∈ dn
  hds : ∀ ys ∈ P, hdI ys ∈ S.take j
theorem LInv.start (D : List Pr) (R S : List Int) : LInv D R S 0 [] [] :=
  ⟨fun ys h => (by cases h), fun x => ⟨fun h => (by cases h), fun ⟨ys, h, _⟩ => (by cases h)⟩, List.Pairwise.nil, fun x h => (by rw [List.take_zero] at h; cases h), fun ys h => (by cases h)⟩
theorem LInv.skip {D : List Pr} {R S : List Int} {j : Nat} {P : List (List Int)} {dn : List Int} {x : Int} (h : LInv D R S j P dn) (g : S[j]? = some x) (m : x ∈ dn) : LInv D R S (j + 1) P dn := by
  refine ⟨h.pc, h.dnm, h.asc, fun y hy => ?_, fun ys hy => ?_⟩
  · rw [List.take_add_one, g] at hy
    rcases List.mem_append.mp hy with z | z
    · exact h.seen y z
    · rw [show y = x from List.mem_singleton.mp z]
      exact m
  · rw [List.take_add_one]
    exact List.mem_append_left _ (h.hds ys hy)
theorem LInv.step {D : List Pr} {R S : List Int} {j : Nat} {P : List (List Int)} {dn ys : List Int} {x : Int} (h : LInv D R S j P dn) (g : S[j]? = some x) (sm : ∀ x, x ∈ S ↔ x ∈ R) (su : S.Pairwise (· ≤ ·)) (m : x ∉ dn) (k : Pc D R x ys) : LInv D R S (j + 1) (P ++ [ys]) (dn ++ ys) := by
  have xR : x ∈ R := (sm x).mp (List.mem_of_getElem? g)
  have hj : j < S.length := (List.getElem?_eq_some_iff.mp g).1
  have split : S = S.take j ++ x :: S.drop (j + 1) := by
    have e := (List.take_append_drop j S).symm
    rw [List.drop_eq_getElem_cons hj] at e
    rw [List.getElem?_eq_getElem hj] at g
    rw [Option.some.inj g] at e
    exact e
  have su2 := su
  rw [split] at su2
  obtain ⟨_, sb, sc⟩ := List.pairwise_append.mp su2
  have hd : hdI ys = x := by
    have a1 := hdI_le k.1 (k.self xR)
    have a2 := (k.2 _).mp (hdI_mem (k.self xR))
    have a3 := (sm _).mpr a2.mem
    rw [split] at a3
    rcases List.mem_append.mp a3 with e | e
    · obtain ⟨zs, hz, mz⟩ := (h.dnm _).mp (h.seen _ e)
      obtain ⟨t, ht, hc⟩ := h.pc zs hz
      exact absurd ((h.dnm x).mpr ⟨zs, hz, (hc.2 x).mpr (((hc.2 _).mp mz).trans a2.symm)⟩) m
    · rcases List.mem_cons.mp e with e | e
      · exact e
      · have := (List.pairwise_cons.mp sb).1 _ e
        omega
  refine ⟨fun zs hz => ?_, fun y => ?_, ?_, fun y hy => ?_, fun zs hz => ?_⟩
  · rcases List.mem_append.mp hz with q | q
    · exact h.pc zs q
    · rw [List.mem_singleton.mp q]
      exact ⟨x, xR, k⟩
  · rw [List.mem_append, h.dnm y]
    constructor
    · rintro (⟨zs, hz, mz⟩ | z)
      · exact ⟨zs, List.mem_append_left _ hz, mz⟩
      · exact ⟨ys, List.mem_append_right _ List.mem_cons_self, z⟩
    · rintro ⟨zs, hz, mz⟩
      rcases List.mem_append.mp hz with q | q
      · exact .inl ⟨zs, q, mz⟩
      · rw [List.mem_singleton.mp q] at mz
        exact .inr mz
  · refine List.pairwise_append.mpr ⟨h.asc, List.pairwise_singleton _ _, fun a ha b hb => ?_⟩
    rw [List.mem_singleton.mp hb, hd]
    have m1 := h.hds a ha
    have le := sc _ m1 x List.mem_cons_self
    have ne : hdI a ≠ x := fun z => m (by rw [← z]; exact h.seen _ m1)
    omega
  · rw [List.take_add_one, g] at hy
    rcases List.mem_append.mp hy with z | z
    · exact List.mem_append_left _ (h.seen y z)
    · rw [show y = x from List.mem_singleton.mp z]
      exact List.mem_append_right _ (k.self xR)
  · rw [List.take_add_one, g]
    rcases List.mem_append.mp hz with q | q
    · exact List.mem_append_left _ (h.hds zs q)
    · rw [List.mem_singleton.mp q, hd]
      exact List.mem_append_right _ (by simp)
theorem LInv.fin {D : List Pr} {R S : List Int} {P : List (List Int)} {dn : List Int} (h : LInv D R S S.length P dn) (sm : ∀ x, x ∈ S ↔ x ∈ R) : Pcs D R P :=
  ⟨h.pc, fun s hs => (h.dnm s).mp (h.seen s (by rw [List.take_length]; exact (sm s).mpr hs)), h.asc⟩
/-! reaching by rounds -/
structure FInv (D : List Pr) (R : List Int) (s : Int) (F : List Int) : Prop where
  nd : F.Nodup
  rc : ∀ x ∈ F, Rch D R s x
  st : s ∈ R → s ∈ F
def Clo (D : List Pr) (R F : List Int) : Prop := ∀ a ∈ F, ∀ b ∈ R, Adj D a b → b ∈ F
theorem FInv.all {D : List Pr} {R F : List Int} {s : Int} (h : FInv D R s F) (c : Clo D R F) (x : Int) : x ∈ F ↔ Rch D R s x := by
  refine ⟨h.rc x, fun k => ?_⟩
  induction k with
  | base m => exact h.st m
  | step _ a b ih => exact c _ ih _ b a
theorem FInv.add {D : List Pr} {R F : List Int} {s a b : Int} (h : FInv D R s F) (ha : a ∈ F) (hb : b ∈ R) (ab : Adj D a b) (n : b ∉ F) : FInv D R s (F ++ [b]) := by
  refine ⟨?_, fun x hx => ?_, fun m => List.mem_append_left _ (h.st m)⟩
  · refine List.nodup_append.mpr ⟨h.nd, by simp, fun x hx y hy z => ?_⟩
    rw [List.mem_singleton.mp hy] at z
    exact n (by rw [← z]; exact hx)
  · rcases List.mem_append.mp hx with z | z
    · exact h.rc x z
    · rw [List.mem_singleton.mp z]
      exact (h.rc a ha).step ab hb

theorem nearF_lt {i : Int} {D : List Pr} (asc : Asc D) (ok : ∀ d ∈ D, d.1 < d.2) : (nearF i D).Pairwise (· < ·) := by
  unfold nearF
  refine List.Pairwise.filterMap _ (fun d e h b hb c hc => ?_) (List.Pairwise.imp_of_mem (fun {x y} hx hy h => (⟨h, ok x hx, ok y hy⟩ : lt2 x y ∧ x.1 < x.2 ∧ y.1 < y.2)) asc)
  obtain ⟨h, h1, h2⟩ := h
  unfold lt2 at h
  by_cases c1 : d.1 = i
  · rw [if_pos c1] at hb
    have eb := Option.some.inj hb
    by_cases c2 : e.1 = i
    · rw [if_pos c2] at hc
      have ec := Option.some.inj hc
      omega
    · rw [if_neg c2] at hc
      by_cases c3 : e.2 = i
      · rw [if_pos c3] at hc
        have ec := Option.some.inj hc
        omega
      · rw [if_neg c3] at hc
        cases hc
  · rw [if_neg c1] at hb
    by_cases c4 : d.2 = i
    · rw [if_pos c4] at hb
      have eb := Option.some.inj hb
      by_cases c2 : e.1 = i
      · rw [if_pos c2] at hc
        have ec := Option.some.inj hc
        omega
      · rw [if_neg c2] at hc
        by_cases c3 : e.2 = i
        · rw [if_pos c3] at hc
          have ec := Option.some.inj hc
          omega
        · rw [if_neg c3] at hc
          cases hc
    · rw [if_neg c4] at hb
      cases hb
/-! ### least paths -/
def ltL : List Int → List Int → Prop
  | [], [] => False
  | [], _ :: _ => True
  | _ :: _, [] => False
  | a :: s, b :: t => a < b ∨ (a = b ∧ ltL s t)
theorem ltL_irr : ∀ p, ¬ ltL p p
  | [], h => h
  | a :: s, h => by
    rcases h with h | ⟨_, h⟩
    · omega
    · exact ltL_irr s h
theorem ltL_trans : ∀ {p q r}, ltL p q → ltL q r → ltL p r
  | [], [], _, h, _ => h.elim
  | [], _ :: _, [], _, k => k.elim
  | [], _ :: _, _ :: _, _, _ => trivial
  | _ :: _, [], _, h, _ => h.elim
  | _ :: _, _ :: _, [], _, k => k.elim
  | a :: s, b :: t, c :: u, h, k => by
    rcases h with h | ⟨h1, h2⟩
    · rcases k with k | ⟨k1, k2⟩
      · exact .inl (by omega)
      · exact .inl (by omega)
    · rcases k with k | ⟨k1, k2⟩
      · exact .inl (by omega)
      · exact .inr ⟨by omega, ltL_trans h2 k2⟩
theorem ltL_tri : ∀ p q, p = q ∨ ltL p q ∨ ltL q p
  | [], [] => .inl rfl
  | [], _ :: _ => .inr (.inl trivial)
  | _ :: _, [] => .inr (.inr trivial)
  | a :: s, b :: t => by
    rcases Int.lt_trichotomy a b with h | h | h
    · exact .inr (.inl (.inl h))
    · subst h
      rcases ltL_tri s t with e | e | e
      · exact .inl (by rw [e])
      · exact .inr (.inl (.inr ⟨rfl, e⟩))
      · exact .inr (.inr (.inr ⟨rfl, e⟩))
    · exact .inr (.inr (.inl h))
theorem ltL_app : ∀ {p q : List Int} (x y : List Int), p.length = q.length → ltL p q → ltL (p ++ x) (q ++ y)
  | [], [], _, _, _, h => h.elim
  | [], _ :: _, _, _, e, _ => by cases e
  | _ :: _, [], _, _, e, _ => by cases e
  | a :: s, b :: t, x, y, e, h => by
    rcases h with h | ⟨h1, h2⟩
    · exact .inl h
    · exact .inr ⟨h1, ltL_app x y (Nat.succ.inj e) h2⟩
theorem ltL_last : ∀ (p : List Int) {x y : Int}, x < y → ltL (p ++ [x]) (p ++ [y])
  | [], _, _, h => .inl h
  | a :: s, _, _, h => .inr ⟨rfl, ltL_last s h⟩
/-- fewer rooms, or as many and less -/
def slt (p q : List Int) : Prop := p.length < q.length ∨ (p.length = q.length ∧ ltL p q)
theorem slt_irr (p : List Int) : ¬ slt p p := fun h => by
  rcases h with h | ⟨_, h⟩
  · omega
  · exact ltL_irr p h
theorem slt_trans {p q r : List Int} (h : slt p q) (k : slt q r) : slt p r := by
  rcases h with h | ⟨h1, h2⟩ <;> rcases k with k | ⟨k1, k2⟩
  · exact .inl (by omega)
  · exact .inl (by omega)
  · exact .inl (by omega)
  · exact .inr ⟨by omega, ltL_trans h2 k2⟩
theorem slt_tri (p q : List Int) : p = q ∨ slt p q ∨ slt q p := by
  rcases Nat.lt_trichotomy p.length q.length with h | h | h
  · exact .inr (.inl (.inl h))
  · rcases ltL_tri p q with e | e | e
    · exact .inl e
    · exact .inr (.inl (.inr ⟨h, e⟩))
    · exact .inr (.inr (.inr ⟨h.symm, e⟩))
  · exact .inr (.inr (.inl h))
theorem slt_app {p q : List Int} (x y : Int) (h : slt p q) : slt (p ++ [x]) (q ++ [y]) := by
  rcases h with h | ⟨h1, h2⟩
  · exact .inl (by rw [List.length_append, List.length_append]; exact Nat.add_lt_add_right h 1)
  · exact .inr ⟨by rw [List.length_append, List.length_append, h1]; rfl, ltL_app [x] [y] h1 h2⟩
theorem slt_last (p : List Int) {x y : Int} (h : x < y) : slt (p ++ [x]) (p ++ [y]) := .inr ⟨by rw [List.length_append, List.length_append]; rfl, ltL_last p h⟩
def sle (p q : List Int) : Prop := p = q ∨ slt p q
theorem sle_trans {p q r : List Int} (h : sle p q) (k : sle q r) : sle p r := by
  rcases h with h | h
  · rw [h]; exact k
  · rcases k with k | k
    · rw [← k]; exact .inr h
    · exact .inr (slt_trans h k)
theorem sle_len {p q : List Int} (h : sle p q) : p.length ≤ q.length := by
  rcases h with h | h | h
  · rw [h]; exact Nat.le_refl _
  · omega
  · omega
theorem sle_app {p q : List Int} (x : Int) (h : sle p q) : sle (p ++ [x]) (q ++ [x]) := by
  rcases h with h | h
  · exact .inl (by rw [h])
  · exact .inr (slt_app x x h)
theorem sle_anti {p q : List Int} (h : sle p q) (k : sle q p) : p = q := by
  rcases h with h | h
  · exact h
  · rcases k with k | k
    · exact k.symm
    · exact (slt_irr _ (slt_trans h k)).elim
theorem sle_of_len {p q : List Int} (h : p.length < q.length) : sle p q := .inr (.inl h)
inductive Pth (D : List Pr) (R : List Int) (s : Int) : Int → List Int → Prop
  | base : s ∈ R → Pth D R s s [s]
  | step {a b : Int} {p : List Int} : Pth D R s a p → Adj D a b → b ∈ R → Pth D R s b (p ++ [b])
theorem Pth.mem {D : List Pr} {R : List Int} {s x : Int} {p : List Int} (h : Pth D R s x p) : x ∈ R := by
  cases h with
  | base h => exact h
  | step _ _ h => exact h
theorem Pth.start {D : List Pr} {R : List Int} {s x : Int} {p : List Int} (h : Pth D R s x p) : s ∈ R := by
  induction h with
  | base h => exact h
  | step _ _ _ ih => exact ih
theorem Pth.ne {D : List Pr} {R : List Int} {s x : Int} {p : List Int} (h : Pth D R s x p) : 1 ≤ p.length := by
  cases h with
  | base h => exact Nat.le_refl _
  | step _ _ h => rw [List.length_append]; exact Nat.le_add_left _ _
theorem Pth.one {D : List Pr} {R : List Int} {s x : Int} {p : List Int} (h : Pth D R s x p) (l : p.length ≤ 1) : x = s ∧ p = [s] := by
  cases h with
  | base h => exact ⟨rfl, rfl⟩
  | step k _ h =>
    rw [List.length_append] at l
    have := k.ne
    have l2 : _ + 1 ≤ 1 := l
    omega
theorem Pth.inR {D : List Pr} {R : List Int} {s x : Int} {p : List Int} (h : Pth D R s x p) : ∀ y ∈ p, y ∈ R := by
  induction h with
  | base h => intro y hy; rw [List.mem_singleton.mp hy]; exact h
  | step _ _ h ih =>
    intro y hy
    rcases List.mem_append.mp hy with m | m
    · exact ih y m
    · rw [List.mem_singleton.mp m]; exact h
/-- the first path -/
def Lst (D : List Pr) (R : List Int) (s x : Int) (p : List Int) : Prop := Pth D R s x p ∧ ∀ q, Pth D R s x q → sle p q
theorem Lst.uniq {D : List Pr} {R : List Int} {s x : Int} {p q : List Int} (h : Lst D R s x p) (k : Lst D R s x q) : p = q := sle_anti (h.2 _ k.1) (k.2 _ h.1)
abbrev En := Int × List Int
def keysE (L : List En) : List Int := L.map (·.1)
theorem keysE_mem {L : List En} {x : Int} {p : List Int} (h : (x, p) ∈ L) : x ∈ keysE L := List.mem_map.mpr ⟨_, h, rfl⟩
theorem of_keysE {L : List En} {x : Int} (h : x ∈ keysE L) : ∃ p, (x, p) ∈ L := by
  obtain ⟨e, m, rfl⟩ := List.mem_map.mp h
  exact ⟨e.2, m⟩
/-- all first paths -/
structure AllP (D : List Pr) (R : List Int) (s : Int) (L : List En) : Prop where
  nd : (keysE L).Nodup
  le : ∀ e ∈ L, Lst D R s e.1 e.2
  all : ∀ x p, Pth D R s x p → x ∈ keysE L
theorem AllP.get {D : List Pr} {R : List Int} {s x : Int} {p : List Int} {L : List En} (h : AllP D R s L) : (x, p) ∈ L ↔ Lst D R s x p := by
  constructor
  · exact fun m => h.le _ m
  · intro k
    obtain ⟨q, m⟩ := of_keysE (h.all x p k.1)
    rw [k.uniq (h.le _ m)]
    exact m
theorem AllP.no {D : List Pr} {R : List Int} {s x : Int} {L : List En} (h : AllP D R s L) : x ∉ keysE L ↔ ∀ p, ¬ Pth D R s x p := by
  constructor
  · exact fun m p k => m (h.all x p k)
  · intro k m
    obtain ⟨q, m⟩ := of_keysE m
    exact k _ (h.le _ m).1
/-- in the midst of the search: A done, a at work (its neighbours N already seen), W waiting -/
structure BIn (D : List Pr) (R : List Int) (s : Int) (A : List En) (a : En) (W : List En) (N : List Int) : Prop where
  nd : (keysE (A ++ a :: W)).Nodup
  le : ∀ e ∈ A ++ a :: W, Lst D R s e.1 e.2
  srt : (A ++ a :: W).Pairwise fun e f => slt e.2 f.2
  cl : ∀ e ∈ A, ∀ b ∈ R, Adj D e.1 b → b ∈ keysE (A ++ a :: W)
  cn : ∀ b ∈ N, b ∈ R → b ∈ keysE (A ++ a :: W)
  st : s ∈ keysE (A ++ a :: W)
  par : ∀ e ∈ A ++ a :: W, e.2.length = 1 ∨ (∃ c ∈ A, ∃ b, e.2 = c.2 ++ [b]) ∨ ∃ b ∈ N, e.2 = a.2 ++ [b]
/-- between two rooms at work -/
structure BOut (D : List Pr) (R : List Int) (s : Int) (A W : List En) : Prop where
  nd : (keysE (A ++ W)).Nodup
  le : ∀ e ∈ A ++ W, Lst D R s e.1 e.2
  srt : (A ++ W).Pairwise fun e f => slt e.2 f.2
  cl : ∀ e ∈ A, ∀ b ∈ R, Adj D e.1 b → b ∈ keysE (A ++ W)
  st : s ∈ R → s ∈ keysE (A ++ W)
  par : ∀ e ∈ A ++ W, e.2.length = 1 ∨ ∃ c ∈ A, ∃ b, e.2 = c.2 ++ [b]
theorem BOut.go {D : List Pr} {R : List Int} {s : Int} {A W : List En} {a : En} (h : BOut D R s A (a :: W)) : BIn D R s A a W [] :=
  ⟨h.nd, h.le, h.srt, h.cl, fun b m => (by cases m), h.st (h.le a (by simp)).1.start, fun e m => (h.par e m).imp id Or.inl⟩
theorem BIn.done {D : List Pr} {R : List Int} {s : Int} {A W : List En} {a : En} {N : List Int} (h : BIn D R s A a W N) (n : ∀ b ∈ R, Adj D a.1 b → b ∈ N) : BOut D R s (A ++ [a]) W := by
  have e : A ++ [a] ++ W = A ++ a :: W := by rw [List.append_assoc]; rfl
  refine ⟨by rw [e]; exact h.nd, by rw [e]; exact h.le, by rw [e]; exact h.srt, ?_, fun _ => by rw [e]; exact h.st, ?_⟩
  · rw [e]
    intro c hc b hb ab
    rcases List.mem_append.mp hc with m | m
    · exact h.cl c m b hb ab
    · rw [List.mem_singleton.mp m] at ab
      exact h.cn b (n b hb ab) hb
  · rw [e]
    intro f hf
    rcases h.par f hf with m | ⟨c, hc, b, e2⟩ | ⟨b, _, e2⟩
    · exact .inl m
    · exact .inr ⟨c, List.mem_append_left _ hc, b, e2⟩
    · exact .inr ⟨a, by simp, b, e2⟩
theorem BIn.skip {D : List Pr} {R : List Int} {s : Int} {A W : List En} {a : En} {N : List Int} {b : Int} (h : BIn D R s A a W N) (k : b ∈ R → b ∈ keysE (A ++ a :: W)) : BIn D R s A a W (N ++ [b]) :=
  ⟨h.nd, h.le, h.srt, h.cl, fun c m hc => (by
    rcases List.mem_append.mp m with m | m
    · exact h.cn c m hc
    · have := List.mem_singleton.mp m
      subst this
      exact k hc), h.st, fun e m => by
    rcases h.par e m with m | m | ⟨b, hb, e2⟩
    · exact .inl m
    · exact .inr (.inl m)
    · exact .inr (.inr ⟨b, List.mem_append_left _ hb, e2⟩)⟩
/-- a path that leaves what is done goes through a room that waits -/
theorem BIn.front {D : List Pr} {R : List Int} {s : Int} {A W : List En} {a : En} {N : List Int} (h : BIn D R s A a W N) {c : Int} {q : List Int} (k : Pth D R s c q) (n : c ∉ keysE A) : sle a.2 q := by
  have key : ∀ {c : Int} {q : List Int}, Pth D R s c q → c ∉ keysE A → ∃ e ∈ a :: W, ∃ q', Pth D R s e.1 q' ∧ (q' = q ∨ q'.length < q.length) := by
    intro c q k
    have inK : ∀ x, x ∈ keysE (A ++ a :: W) → x ∉ keysE A → ∃ e ∈ a :: W, e.1 = x := by
      intro x hx hn
      obtain ⟨p, hp⟩ := of_keysE hx
      rcases List.mem_append.mp hp with m | m
      · exact absurd (keysE_mem m) hn
      · exact ⟨_, m, rfl⟩
    induction k with
    | base hs =>
      intro n
      obtain ⟨e, he, rfl⟩ := inK _ h.st n
      exact ⟨e, he, _, .base hs, .inl rfl⟩
    | @step x y p k ab hb ih =>
      intro n
      by_cases m : x ∈ keysE A
      · obtain ⟨p', hp'⟩ := of_keysE m
        obtain ⟨e, he, rfl⟩ := inK _ (h.cl _ hp' _ hb ab) n
        exact ⟨e, he, _, k.step ab hb, .inl rfl⟩
      · obtain ⟨e, he, q', h1, h2⟩ := ih m
        refine ⟨e, he, q', h1, .inr ?_⟩
        rw [List.length_append]
        show _ < _ + 1
        rcases h2 with h2 | h2
        · rw [h2]; omega
        · omega
  obtain ⟨e, he, q', h1, h2⟩ := key k n
  have l1 : sle e.2 q' := (h.le e (List.mem_append_right _ he)).2 _ h1
  have l2 : sle a.2 e.2 := by
    rcases List.mem_cons.mp he with m | m
    · rw [m]; exact .inl rfl
    · exact .inr ((List.pairwise_cons.mp (List.pairwise_append.mp h.srt).2.1).1 e m)
  refine sle_trans l2 (sle_trans l1 ?_)
  rcases h2 with h2 | h2
  · exact .inl h2
  · exact sle_of_len h2
theorem BIn.add {D : List Pr} {R : List Int} {s : Int} {A W : List En} {a : En} {N : List Int} {b : Int} (h : BIn D R s A a W N) (ab : Adj D a.1 b) (bR : b ∈ R) (bn : b ∉ keysE (A ++ a :: W)) (up : ∀ c ∈ N, c < b) : BIn D R s A a (W ++ [(b, a.2 ++ [b])]) (N ++ [b]) := by
  have e : A ++ a :: (W ++ [(b, a.2 ++ [b])]) = (A ++ a :: W) ++ [(b, a.2 ++ [b])] := by rw [List.append_assoc]; rfl
  have ke : keysE (A ++ a :: (W ++ [(b, a.2 ++ [b])])) = keysE (A ++ a :: W) ++ [b] := by rw [e]; unfold keysE; rw [List.map_append]; rfl
  have aL := h.le a (by simp)
  have new : Lst D R s b (a.2 ++ [b]) := by
    refine ⟨aL.1.step ab bR, fun q k => ?_⟩
    cases k with
    | base _ => exact absurd h.st bn
    | @step c _ p k cb _ =>
      refine sle_app b (h.front k fun m => ?_)
      obtain ⟨p', hp'⟩ := of_keysE m
      exact bn (h.cl _ hp' _ bR cb)
  refine ⟨?_, ?_, ?_, ?_, ?_, ?_, ?_⟩
  · rw [ke]
    refine List.nodup_append.mpr ⟨h.nd, List.pairwise_singleton _ _, fun x hx y hy e => ?_⟩
    rw [List.mem_singleton.mp hy] at e
    rw [e] at hx
    exact bn hx
  · rw [e]
    intro f hf
    rcases List.mem_append.mp hf with m | m
    · exact h.le f m
    · rw [List.mem_singleton.mp m]; exact new
  · rw [e]
    refine List.pairwise_append.mpr ⟨h.srt, List.pairwise_singleton _ _, fun f hf g hg => ?_⟩
    rw [List.mem_singleton.mp hg]
    show slt f.2 (a.2 ++ [b])
    rcases h.par f hf with m | ⟨c, hc, x, e2⟩ | ⟨x, hx, e2⟩
    · refine .inl ?_
      have := aL.1.ne
      rw [List.length_append, m]
      show 1 < _ + 1
      omega
    · rw [e2]
      exact slt_app _ _ ((List.pairwise_append.mp h.srt).2.2 c hc a List.mem_cons_self)
    · rw [e2]
      exact slt_last _ (up x hx)
  · intro c hc x hx cx
    rw [ke]
    exact List.mem_append_left _ (h.cl c hc x hx cx)
  · intro x hx xR
    rw [ke]
    rcases List.mem_append.mp hx with m | m
    · exact List.mem_append_left _ (h.cn x m xR)
    · exact List.mem_append_right _ m
  · rw [ke]; exact List.mem_append_left _ h.st
  · rw [e]
    intro f hf
    rcases List.mem_append.mp hf with m | m
    · rcases h.par f m with m | m | ⟨x, hx, e2⟩
      · exact .inl m
      · exact .inr (.inl m)
      · exact .inr (.inr ⟨x, List.mem_append_left _ hx, e2⟩)
    · rw [List.mem_singleton.mp m]
      exact .inr (.inr ⟨b, by simp, rfl⟩)
theorem BOut.end {D : List Pr} {R : List Int} {s : Int} {A : List En} (h : BOut D R s A []) : AllP D R s A := by
  have e : A ++ [] = A := List.append_nil A
  refine ⟨by have := h.nd; rw [e] at this; exact this, by have := h.le; rw [e] at this; exact this, fun x p k => ?_⟩
  have cl := h.cl
  have st := h.st
  rw [e] at cl st
  induction k with
  | base hs => exact st hs
  | step k ab hb ih =>
    obtain ⟨p', hp'⟩ := of_keysE ih
    exact cl _ hp' _ hb ab
theorem BOut.start {D : List Pr} {R : List Int} {s : Int} (m : s ∈ R) : BOut D R s [] [(s, [s])] := by
  refine ⟨by simp [keysE], fun e he => ?_, List.pairwise_singleton _ _, fun e he => (by cases he), fun _ => by simp [keysE], fun e he => ?_⟩
  · rw [List.mem_singleton.mp he]
    refine ⟨.base m, fun q k => ?_⟩
    have := k.ne
    by_cases l : q.length ≤ 1
    · exact .inl (k.one l).2.symm
    · exact sle_of_len (show 1 < q.length by omega)
  · rw [List.mem_singleton.mp he]
    exact .inl rfl
theorem BOut.none {D : List Pr} {R : List Int} {s : Int} (m : s ∉ R) : BOut D R s [] [] :=
  ⟨List.nodup_nil, fun e he => (by cases he), List.Pairwise.nil, fun e he => (by cases he), fun h => absurd h m, fun e he => (by cases he)⟩

/-! the layers of the law -/
/-- k layers are found: L all, M those of the last layer -/
structure Lay (D : List Pr) (R : List Int) (s : Int) (k : Nat) (L M : List En) : Prop where
  nd : (keysE L).Nodup
  le : ∀ e ∈ L, Lst D R s e.1 e.2 ∧ e.2.length ≤ k
  all : ∀ x p, Pth D R s x p → p.length ≤ k → x ∈ keysE L
  mm : ∀ e, e ∈ M ↔ e ∈ L ∧ e.2.length = k
  sz : s ∈ R → k ≤ L.length
/-- the next layer, the steps E taken -/
structure Fur (R : List Int) (L M : List En) (E : Int → Int → Prop) (F : List En) : Prop where
  nd : (keysE F).Nodup
  of : ∀ e ∈ F, e.1 ∈ R ∧ e.1 ∉ keysE L ∧ ∃ u ∈ M, E u.1 e.1 ∧ e.2 = u.2 ++ [e.1]
  all : ∀ u ∈ M, ∀ v, E u.1 v → v ∈ R → v ∉ keysE L → ∃ p, (v, p) ∈ F ∧ sle p (u.2 ++ [v])
theorem Lay.start {D : List Pr} {R : List Int} {s : Int} (m : s ∈ R) : Lay D R s 1 [(s, [s])] [(s, [s])] := by
  refine ⟨by simp [keysE], fun e he => ?_, fun x p k l => ?_, fun e => ?_, fun _ => Nat.le_refl _⟩
  · have := (BOut.start (D := D) m).le e he
    rw [List.mem_singleton.mp he] at this ⊢
    exact ⟨this, Nat.le_refl _⟩
  · rw [(k.one l).1]
    simp [keysE]
  · constructor
    · intro h
      refine ⟨h, ?_⟩
      rw [List.mem_singleton.mp h]
      rfl
    · exact fun h => h.1
theorem Lay.none {D : List Pr} {R : List Int} {s : Int} (m : s ∉ R) (k : Nat) : Lay D R s k [] [] :=
  ⟨List.nodup_nil, fun e he => (by cases he), fun x p k l => absurd k.start m, fun e => ⟨fun h => (by cases h), fun h => (by cases h.1)⟩, fun h => absurd h m⟩
theorem Lay.via {D : List Pr} {R : List Int} {s : Int} {k : Nat} {L M : List En} (h : Lay D R s k L M) {v : Int} {q : List Int} (p : Pth D R s v q) (n : v ∉ keysE L) : k < q.length ∧ (q.length = k + 1 → 1 ≤ k → ∃ u ∈ M, Adj D u.1 v ∧ sle (u.2 ++ [v]) q) := by
  have l0 : k < q.length := Nat.lt_of_not_le fun l => n (h.all v q p l)
  refine ⟨l0, fun l k1 => ?_⟩
  cases p with
  | base hs =>
    have : 1 = k + 1 := l
    omega
  | @step c _ p kc ab hb =>
    rw [List.length_append] at l
    have l2 : p.length = k := Nat.succ.inj l
    obtain ⟨pc, hc⟩ := of_keysE (h.all c p kc (Nat.le_of_eq l2))
    obtain ⟨lc, lk⟩ := h.le _ hc
    have lk2 : pc.length = k := by
      rcases Nat.lt_or_ge pc.length k with g | g
      · refine absurd (h.all v _ (lc.1.step ab hb) ?_) n
        rw [List.length_append]
        exact g
      · exact Nat.le_antisymm lk g
    exact ⟨(c, pc), (h.mm _).mpr ⟨hc, lk2⟩, ab, sle_app v (lc.2 _ kc)⟩
theorem Lay.next {D : List Pr} {R : List Int} {s : Int} {k : Nat} {L M F : List En} (h : Lay D R s k L M) (k1 : 1 ≤ k) (f : Fur R L M (Adj D) F) (ne : F ≠ []) : Lay D R s (k + 1) (L ++ F) F := by
  have ke : keysE (L ++ F) = keysE L ++ keysE F := List.map_append
  have fl : ∀ e ∈ F, Lst D R s e.1 e.2 ∧ e.2.length = k + 1 := by
    intro e he
    obtain ⟨h1, h2, u, hu, h3, h4⟩ := f.of e he
    obtain ⟨hu1, hu2⟩ := (h.mm u).mp hu
    have el : e.2.length = k + 1 := by rw [h4, List.length_append, hu2]; rfl
    refine ⟨⟨by rw [h4]; exact (h.le u hu1).1.1.step h3 h1, fun q p => ?_⟩, el⟩
    obtain ⟨g1, g2⟩ := h.via p h2
    rcases Nat.lt_or_ge (k + 1) q.length with g | g
    · exact sle_of_len (by omega)
    · obtain ⟨w, hw, ab, l⟩ := g2 (by omega) k1
      obtain ⟨p', hp', l'⟩ := f.all w hw e.1 ab h1 h2
      have : e.2 = p' := by
        have : ∀ {G : List En}, (keysE G).Nodup → ∀ {x : Int} {a b : List Int}, (x, a) ∈ G → (x, b) ∈ G → a = b := by
          intro G
          induction G with
          | nil => intro _ x a b m; cases m
          | cons g G ih =>
            intro nd x a b ma mb
            obtain ⟨n1, n2⟩ := List.nodup_cons.mp nd
            rcases List.mem_cons.mp ma with ma | ma
            · rcases List.mem_cons.mp mb with mb | mb
              · have := ma.trans mb.symm
                exact congrArg Prod.snd this
              · rw [← ma] at n1
                exact absurd (keysE_mem mb) n1
            · rcases List.mem_cons.mp mb with mb | mb
              · rw [← mb] at n1
                exact absurd (keysE_mem ma) n1
              · exact ih n2 ma mb
        exact this f.nd (show (e.1, e.2) ∈ F from he) hp'
      rw [this]
      exact sle_trans l' l
  refine ⟨?_, ?_, ?_, ?_, ?_⟩
  · rw [ke]
    refine List.nodup_append.mpr ⟨h.nd, f.nd, fun x hx y hy e => ?_⟩
    obtain ⟨p, hp⟩ := of_keysE hy
    rw [e] at hx
    exact (f.of _ hp).2.1 hx
  · intro e he
    rcases List.mem_append.mp he with m | m
    · exact ⟨(h.le e m).1, Nat.le_succ_of_le (h.le e m).2⟩
    · exact ⟨(fl e m).1, Nat.le_of_eq (fl e m).2⟩
  · intro x p kp l
    rw [ke]
    by_cases m : x ∈ keysE L
    · exact List.mem_append_left _ m
    · obtain ⟨g1, g2⟩ := h.via kp m
      obtain ⟨w, hw, ab, l⟩ := g2 (by omega) k1
      obtain ⟨p', hp', _⟩ := f.all w hw x ab kp.mem m
      exact List.mem_append_right _ (keysE_mem hp')
  · intro e
    constructor
    · exact fun m => ⟨List.mem_append_right _ m, (fl e m).2⟩
    · rintro ⟨m, l⟩
      rcases List.mem_append.mp m with m | m
      · have := (h.le e m).2
        omega
      · exact m
  · intro m
    rw [List.length_append]
    have := h.sz m
    have : 1 ≤ F.length := by
      cases F with
      | nil => exact absurd rfl ne
      | cons _ _ => exact Nat.le_add_left _ _
    omega
theorem Lay.stop {D : List Pr} {R : List Int} {s : Int} {k : Nat} {L M : List En} (h : Lay D R s k L M) (k1 : 1 ≤ k) (f : Fur R L M (Adj D) []) : AllP D R s L := by
  refine ⟨h.nd, fun e he => (h.le e he).1, fun x p kp => ?_⟩
  induction kp with
  | base hs => exact h.all s [s] (.base hs) k1
  | @step c v p kc ab hb ih =>
    obtain ⟨pc, hc⟩ := of_keysE ih
    obtain ⟨lc, lk⟩ := h.le _ hc
    by_cases m : v ∈ keysE L
    · exact m
    · exfalso
      obtain ⟨g1, _⟩ := h.via (lc.1.step ab hb) m
      rw [List.length_append] at g1
      have g3 : k < pc.length + 1 := g1
      obtain ⟨p', hp', _⟩ := f.all (c, pc) ((h.mm _).mpr ⟨hc, Nat.le_antisymm lk (Nat.lt_succ_iff.mp g3)⟩) v ab hb m
      cases hp'
theorem Lay.full {D : List Pr} {R : List Int} {s : Int} {k : Nat} {L M : List En} (h : Lay D R s k L M) (l : R.length < k) (sub : ∀ l : List Int, l.Nodup → (∀ x ∈ l, x ∈ R) → l.length ≤ R.length) : AllP D R s L := by
  refine ⟨h.nd, fun e he => (h.le e he).1, fun x p kp => ?_⟩
  have h1 := h.sz kp.start
  have h2 := sub (keysE L) h.nd fun x hx => by
    obtain ⟨p, hp⟩ := of_keysE hx
    exact (h.le _ hp).1.1.mem
  unfold keysE at h2
  rw [List.length_map] at h2
  omega
theorem Fur.start (R : List Int) (L M : List En) : Fur R L M (fun _ _ => False) [] :=
  ⟨List.nodup_nil, fun e he => (by cases he), fun _ _ _ h => h.elim⟩
theorem Fur.more {R : List Int} {L M F : List En} {E E' : Int → Int → Prop} (h : Fur R L M E F) (i : ∀ x y, E x y ↔ E' x y) : Fur R L M E' F :=
  ⟨h.nd, fun e he => by
    obtain ⟨h1, h2, u, hu, h3, h4⟩ := h.of e he
    exact ⟨h1, h2, u, hu, (i _ _).mp h3, h4⟩, fun u hu v e => h.all u hu v ((i _ _).mpr e)⟩
/-- a step that is none -/
theorem Fur.skip {R : List Int} {L M F : List En} {E : Int → Int → Prop} (h : Fur R L M E F) (u v : Int) (n : u ∉ keysE M ∨ v ∉ R ∨ v ∈ keysE L) : Fur R L M (fun x y => E x y ∨ x = u ∧ y = v) F :=
  ⟨h.nd, fun e he => by
    obtain ⟨h1, h2, u, hu, h3, h4⟩ := h.of e he
    exact ⟨h1, h2, u, hu, .inl h3, h4⟩, fun w hw v' e h1 h2 => by
    rcases e with e | ⟨rfl, rfl⟩
    · exact h.all w hw v' e h1 h2
    · rcases n with n | n | n
      · exact absurd (keysE_mem (p := w.2) hw) n
      · exact absurd h1 n
      · exact absurd n h2⟩
/-- a step that does not better -/
theorem Fur.worse {R : List Int} {L M F : List En} {E : Int → Int → Prop} (h : Fur R L M E F) {u v : Int} {pu p : List Int} (ndM : ∀ w ∈ M, w.1 = u → w.2 = pu) (m : (v, p) ∈ F) (l : sle p (pu ++ [v])) : Fur R L M (fun x y => E x y ∨ x = u ∧ y = v) F :=
  ⟨h.nd, fun e he => by
    obtain ⟨h1, h2, u, hu, h3, h4⟩ := h.of e he
    exact ⟨h1, h2, u, hu, .inl h3, h4⟩, fun w hw v' e h1 h2 => by
    rcases e with e | ⟨e1, rfl⟩
    · exact h.all w hw v' e h1 h2
    · rw [ndM w hw e1]
      exact ⟨p, m, l⟩⟩
theorem Fur.new {R : List Int} {L M F : List En} {E : Int → Int → Prop} (h : Fur R L M E F) {u v : Int} {pu : List Int} (ndM : ∀ w ∈ M, w.1 = u → w.2 = pu) (um : (u, pu) ∈ M) (vR : v ∈ R) (vL : v ∉ keysE L) (n : v ∉ keysE F) : Fur R L M (fun x y => E x y ∨ x = u ∧ y = v) (F ++ [(v, pu ++ [v])]) := by
  refine ⟨?_, fun e he => ?_, fun w hw v' e h1 h2 => ?_⟩
  · show (List.map _ _).Nodup
    rw [List.map_append]
    refine List.nodup_append.mpr ⟨h.nd, List.pairwise_singleton _ _, fun x hx y hy e => ?_⟩
    rw [List.mem_singleton.mp hy] at e
    rw [e] at hx
    exact n hx
  · rcases List.mem_append.mp he with m | m
    · obtain ⟨h1, h2, u, hu, h3, h4⟩ := h.of e m
      exact ⟨h1, h2, u, hu, .inl h3, h4⟩
    · rw [List.mem_singleton.mp m]
      exact ⟨vR, vL, _, um, .inr ⟨rfl, rfl⟩, rfl⟩
  · rcases e with e | ⟨e1, rfl⟩
    · obtain ⟨p, hp, l⟩ := h.all w hw v' e h1 h2
      exact ⟨p, List.mem_append_left _ hp, l⟩
    · rw [ndM w hw e1]
      exact ⟨_, List.mem_append_right _ (List.mem_singleton.mpr rfl), .inl rfl⟩
def setE (L : List En) (x : Int) (p : List Int) : List En := L.map fun e => if e.1 = x then (x, p) else e
theorem setE_keys (L : List En) (x : Int) (p : List Int) : keysE (setE L x p) = keysE L := by
  unfold keysE setE
  rw [List.map_map]
  refine List.map_congr_left fun e _ => ?_
  show (if e.1 = x then (x, p) else e).1 = e.1
  by_cases h : e.1 = x
  · rw [if_pos h]; exact h.symm
  · rw [if_neg h]
theorem mem_setE {L : List En} {x : Int} {p : List Int} {e : En} (h : e ∈ setE L x p) : e = (x, p) ∨ (e ∈ L ∧ e.1 ≠ x) := by
  obtain ⟨f, hf, e2⟩ := List.mem_map.mp h
  by_cases c : f.1 = x
  · rw [if_pos c] at e2; exact .inl e2.symm
  · rw [if_neg c] at e2; rw [← e2]; exact .inr ⟨hf, c⟩
theorem setE_mem {L : List En} {x : Int} {p : List Int} (h : x ∈ keysE L) : (x, p) ∈ setE L x p := by
  obtain ⟨q, hq⟩ := of_keysE h
  exact List.mem_map.mpr ⟨_, hq, if_pos rfl⟩
theorem setE_old {L : List En} {x : Int} {p : List Int} {e : En} (h : e ∈ L) (n : e.1 ≠ x) : e ∈ setE L x p := List.mem_map.mpr ⟨e, h, if_neg n⟩
theorem Fur.better {R : List Int} {L M F : List En} {E : Int → Int → Prop} (h : Fur R L M E F) {u v : Int} {pu p : List Int} (ndM : ∀ w ∈ M, w.1 = u → w.2 = pu) (um : (u, pu) ∈ M) (vR : v ∈ R) (vL : v ∉ keysE L) (m : (v, p) ∈ F) (uq : ∀ q, (v, q) ∈ F → q = p) (l : sle (pu ++ [v]) p) : Fur R L M (fun x y => E x y ∨ x = u ∧ y = v) (setE F v (pu ++ [v])) := by
  refine ⟨by rw [setE_keys]; exact h.nd, fun e he => ?_, fun w hw v' e h1 h2 => ?_⟩
  · rcases mem_setE he with m | ⟨m, _⟩
    · rw [m]
      exact ⟨vR, vL, _, um, .inr ⟨rfl, rfl⟩, rfl⟩
    · obtain ⟨h1, h2, u, hu, h3, h4⟩ := h.of e m
      exact ⟨h1, h2, u, hu, .inl h3, h4⟩
  · have here : (v, pu ++ [v]) ∈ setE F v (pu ++ [v]) := setE_mem (keysE_mem m)
    rcases e with e | ⟨e1, rfl⟩
    · obtain ⟨q, hq, l2⟩ := h.all w hw v' e h1 h2
      by_cases c : v' = v
      · subst c
        rw [uq q hq] at l2
        exact ⟨_, here, sle_trans l l2⟩
      · exact ⟨q, setE_old hq c, l2⟩
    · rw [ndM w hw e1]
      exact ⟨_, here, .inl rfl⟩

abbrev sFp : Stmt := topS 13
abbrev sRea : Stmt := topS 0
abbrev sPcs : Stmt := topS 0
theorem u1 {u : Nat} (h : u + 64 < cLine) : u + 1 < cLine := by omega
theorem ints_len {r : Nat} {l : List Int} (nd : l.Nodup) (h : ∀ x ∈ l, 0 ≤ x ∧ x < r) : l.length ≤ r := by
  have h1 : (l.map Int.toNat).Nodup := by
    refine List.pairwise_map.mpr (List.Pairwise.imp_of_mem (fun {x y} hx hy ne e => ?_) nd)
    have b1 := h x hx
    have b2 := h y hy
    omega
  have h2 := nat_nodup_len _ (List.range r) h1 fun c hc => by
    obtain ⟨x, hx, rfl⟩ := List.mem_map.mp hc
    have := h x hx
    exact List.mem_range.mpr (by omega)
  rw [List.length_map, List.length_range] at h2
  exact h2
theorem inI (j : Int) (l : List Int) : inV (.int j) (l.map V.int) = decide (j ∈ l) := by
  induction l with
  | nil => rfl
  | cons x l ih =>
    have e : inV (.int j) ((x :: l).map V.int) = (eqV (.int x) (.int j) || inV (.int j) (l.map V.int)) := rfl
    rw [e, ih]
    have e2 : eqV (.int x) (.int j) = decide (x = j) := by
      unfold eqV
      by_cases h : x = j
      · subst h
        simp
      · simp [h]
    rw [e2]
    by_cases h : j = x
    · subst h
      simp
    · have h' : ¬ x = j := fun z => h z.symm
      simp [h, h']
theorem flI (l : List Int) : (l.map V.int).all flatV = true := by
  rw [List.all_eq_true]
  intro v hv
  obtain ⟨x, _, rfl⟩ := List.mem_map.mp hv
  rfl
theorem same_sqT {K : PySem.W.Frag} {H H' : Hp} {a : Addr} {xs : List V} (e : Same H H') (h : SqT K H a xs) : SqT K H' a xs := by
  rcases h with (h | ⟨o, h⟩) | h
  · exact .inl (.inl (e _ _ h))
  · exact .inl (.inr ⟨o, e _ _ h⟩)
  · exact .inr h
/-- what the dict of first_paths holds: rooms and their paths -/
def IsE (H : Hp) (kv : Key × V) (e : En) : Prop := kv.1 = Sum.inl e.1 ∧ ∃ t, kv.2 = V.ref t ∧ H t = some (.tup (e.2.map V.int))
structure Dq (H : Hp) (d : Addr) (kvs : List (Key × V)) (L : List En) : Prop where
  at_ : H d = some (.dK kvs)
  pr : Paired (IsE H) kvs L
  vl : ∀ e ∈ L, e.2.length ≤ L.length
theorem Dq.len {H : Hp} {d : Addr} {kvs : List (Key × V)} {L : List En} (h : Dq H d kvs L) : kvs.length = L.length := Paired.length h.pr
theorem pr_keys {H : Hp} : ∀ {kvs : List (Key × V)} {L : List En}, Paired (IsE H) kvs L → kvs.map (·.1) = (keysE L).map Sum.inl
  | _, _, .nil => rfl
  | _, _, .cons h t => by
    have e : _ :: _ = _ :: _ := congr (congrArg List.cons h.1) (pr_keys t)
    exact e
theorem pr_get {H : Hp} {x : Int} : ∀ {kvs : List (Key × V)} {L : List En}, Paired (IsE H) kvs L → (valV kvs (Sum.inl x : Key) = none ∧ x ∉ keysE L) ∨ ∃ p t, (x, p) ∈ L ∧ valV kvs (Sum.inl x : Key) = some (V.ref t) ∧ H t = some (.tup (p.map V.int))
  | _, _, .nil => .inl ⟨rfl, fun h => by cases h⟩
  | kv :: kvs, e :: L, .cons h t => by
    obtain ⟨h1, u, h2, h3⟩ := h
    by_cases c : e.1 = x
    · refine .inr ⟨e.2, u, ?_, ?_, h3⟩
      · rw [← c]; exact List.mem_cons_self
      · rw [valV_pos (h1.trans (by rw [c])), h2]
    · have n : ¬ kv.1 = (Sum.inl x : Key) := fun z => c (Sum.inl.inj (h1.symm.trans z))
      rw [valV_neg n]
      rcases pr_get t with ⟨g1, g2⟩ | ⟨p, w, g1, g2, g3⟩
      · refine .inl ⟨g1, fun m => ?_⟩
        rcases List.mem_cons.mp m with m | m
        · exact c m.symm
        · exact g2 m
      · exact .inr ⟨p, w, List.mem_cons_of_mem _ g1, g2, g3⟩
theorem Dq.same {H H' : Hp} {d : Addr} {kvs : List (Key × V)} {L : List En} (h : Dq H d kvs L) (s : Same H H') : Dq H' d kvs L := ⟨s _ _ h.at_, Paired.mapP h.pr fun _ _ q => ⟨q.1, by
  obtain ⟨t, e1, e2⟩ := q.2
  exact ⟨t, e1, s _ _ e2⟩⟩, h.vl⟩
theorem pr_upd {H : Hp} {a : Addr} {o o' : HO} {kvs : List (Key × V)} {L : List En} (h : Paired (IsE H) kvs L) (ha : H a = some o) (n : ∀ xs, o ≠ .tup xs) : Paired (IsE (upd H a o')) kvs L := Paired.mapP h fun _ _ q => ⟨q.1, by
  obtain ⟨t, e1, e2⟩ := q.2
  exact ⟨t, e1, by rw [upd_ne (ne_of e2 ha (n _).symm)]; exact e2⟩⟩
theorem Dq.ch {H : Hp} {d wt : Addr} {us vs : List V} {kvs : List (Key × V)} {L : List En} (h : Dq H d kvs L) (ne : d ≠ wt) (hw : H wt = some (.lst us)) : Dq (upd H wt (.lst vs)) d kvs L := ⟨by rw [upd_ne ne]; exact h.at_, pr_upd h.pr hw (fun _ z => by cases z), h.vl⟩
theorem Dq.put {H : Hp} {d t : Addr} {b : Int} {p : List Int} {kvs : List (Key × V)} {L : List En} (h : Dq H d kvs L) (n : valV kvs (Sum.inl b : Key) = none) (ht : H t = some (.tup (p.map V.int))) (hx : p.length ≤ L.length + 1) : Dq (upd H d (.dK (putK kvs (Sum.inl b) (.ref t)))) d (putK kvs (Sum.inl b) (.ref t)) (L ++ [(b, p)]) := by
  have e := putK_new (V.ref t) n
  refine ⟨upd_same, ?_, fun f hf => ?_⟩
  · rw [e]
    exact Paired.snoc (pr_upd h.pr h.at_ (fun _ z => by cases z)) ⟨rfl, t, rfl, by rw [upd_ne (ne_of ht h.at_ (by intro z; cases z))]; exact ht⟩
  · rw [List.length_append]
    rcases List.mem_append.mp hf with m | m
    · have := h.vl f m
      exact Nat.le_add_right_of_le this
    · rw [List.mem_singleton.mp m]
      exact hx
theorem for_iterW {wi : TI} {g : TG} {tb : TS} {D : Ends} {σ : L2.St} {H : Hp} (h : wi σ H fun J H1 => tFor (fun _ H R => R J H) g tb D σ H1) : tFor wi g tb D σ H := h
def SeqI (K : PySem.W.Frag) (H : Hp) (o : Addr) (R : List Int) : Prop := SqL K H o (R.map V.int) ∨ SqT K H o (R.map V.int)
section
variable {P : Program} {w : World} {K : PySem.W.Frag} {mg : Str → Option Value} {base : Heap}
theorem scFp : FnScope ["steps", "start", "inside", "paths", "waiting", "room", "other"] ["steps", "start", "inside"] (defScope sFp) := ⟨rfl, rfl, rfl, by decide +kernel, rfl, by decide +kernel, by decide +kernel⟩
def spFq (K : PySem.W.Frag) (C g : Addr) : Sp := fun vs H Q _ => ∃ (q o p : Addr) (s : Int) (R : List Int) (r : Nat) (D : List Pr) (own : List Addr), vs = [.ref q, .int s, .ref o] ∧ H q = some (.met g p) ∧ HouseAt C H p r D own ∧ SeqI K H o R ∧ (∀ x ∈ R, 0 ≤ x ∧ x < r) ∧
  ∀ (d : Addr) (kvs : List (Key × V)) (L : List En) (H' : Hp), Same H H' → H d = none → Dq H' d kvs L → AllP D R s L → Q (.ref d) H'
theorem ok_fq {f C g : Addr} {fd fdn : FuncData} (F : Fun K "first_paths" "first_paths" sFp f fd) (T : Bi mg) (U : Hs K mg C) (bm : BMeth K C "neighbours" g) (Gn : FnOk P w K mg base CX0 1 g fdn ["self", "room"] (spHnear C)) (bn : Binds K fdn ["self", "room"] []) : FnOk P w K mg base CX0 2 f fd ["steps", "start", "inside"] (spFq K C g) := by
  refine F.ok scFp (fun vs H Q E h => ?_) (fun cdv A outer s0 H vs Q E hr h => ?_)
  · obtain ⟨q, o, p, s, R, r, D, own, rfl, _⟩ := h
    rfl
  · obtain ⟨q, o, p, s, R, r, D, own, rfl, hq, hh, ho, hR, ret⟩ := h
    refine ⟨_, (pss_cons (ps_set (i := 3) scFp.nd rfl (Or.inl rfl) pe_dnewK)
      (pss_cons (ps_if (pt_cmpR op_in_seq (pv 1) (pv 2) (by rfl))
      (pss_one (ps_dput (u1 hr.units) (pv 3) (pv 1) (pe_tup (pa_cons (pv 1) pa_nil)) rfl))
      pss_nil)
      (pss_cons (ps_set (i := 4) scFp.nd rfl (Or.inl rfl) (pe_callTy (call_listD rfl) (by rfl) T.list (by decide +kernel) (pa_cons (pv 3) pa_nil)))
      (pss_cons (ps_while PassesOwn.never (pt_truth (pv 4) (by intro _; rfl))
      (pss_cons (ps_set (i := 5) scFp.nd rfl (Or.inl rfl) (pe_bm PySem.F.plainAttrs_list PySem.F.slot_list_pop PySem.F.type_list_pop mt_popAt (pv 4) (pa_cons pe_int pa_nil)))
        (pss_one (ps_for PassesOwn.never rfl (pi_list (pe_callM (i := 0) (Gn.raw bn .nil) (hr.mono (by decide)) (by rfl) (.inl rfl) bm.fi pass0 (pa_cons (pv 5) pa_nil))) (pg_name (i := 6) scFp.nd rfl (Or.inl rfl))
        (pss_one (ps_if (PW.pt (pw_and (pt_cmpR op_in_seq (pv 6) (pv 2) (by rfl)) (pw_and1 (pt_cmp (pc_dnotin (u1 hr.units) (pv 6) (pv 3))))))
          (pss_cons (ps_dput (u1 hr.units) (pv 3) (pv 6) (pe_op op_catT (pe_dget (u1 hr.units) (pv 3) (pv 5) (fun _ _ => rfl)) (pe_tup (pa_cons (pv 6) pa_nil))) rfl)
            (pss_one (ps_expr (pe_bm PySem.F.plainAttrs_list PySem.F.slot_list_append PySem.F.type_list_append mt_append (pv 4) (pa_cons (pv 6) pa_nil)))))
          pss_nil))))))
      (pss_one (ps_ret (pv 3))))))), ?_⟩
    walk_at "rd"
    intro d nd
    have s1 : Same H (upd H d (HO.dK [])) := same_upd nd
    have hd1 : upd H d (HO.dK []) d = some (.dK []) := upd_same
    have hoS : ∀ H', Same H H' → SeqI K H' o R := fun H' sm => by
      rcases ho with h | h
      · exact .inl (sm.seq h)
      · exact .inr (same_sqT sm h)
    refine ⟨o, _, rfl, hoS _ s1, rfl, flI _, ?_⟩
    rw [inI]
    refine ⟨_, rfl, ?_⟩
    by_cases m : s ∈ R
    rw [decide_eq_true m]
    refine iteT ⟨_, rfl, (by show 1 ≤ sizeLine; decide), fun t nt => ⟨_, rfl, _, rfl, d, _, rfl, DPut.k (k := Sum.inl s) (same_upd nt _ _ hd1) (by decide), ?_⟩⟩
    have s2 : Same H (upd (upd (upd H d (HO.dK [])) t (HO.tup [V.int s])) d (HO.dK (putK [] (Sum.inl s) (V.ref t)))) := same_ch (s1.trans (same_upd nt)) nd
    have pk : ∃ kvs L, Dq (upd (upd (upd H d (HO.dK [])) t (HO.tup [V.int s])) d (HO.dK (putK [] (Sum.inl s) (V.ref t)))) d kvs L ∧ BOut D R s [] L := by
      have ntd : t ≠ d := fun z => by
        rw [z, upd_same] at nt
        cases nt
      refine ⟨[(Sum.inl s, V.ref t)], [(s, [s])], ⟨upd_same, .cons ⟨rfl, t, rfl, by rw [upd_ne ntd]; exact upd_same⟩ .nil, fun e he => ?_⟩, BOut.start m⟩
      rw [List.mem_singleton.mp he]
      exact Nat.le_refl _
    generalize upd (upd (upd H d (HO.dK [])) t (HO.tup [V.int s])) d (HO.dK (putK [] (Sum.inl s) (V.ref t))) = H1 at s2 pk
    clear nt hd1
    rotate_left
    rw [decide_eq_false m]
    refine iteF ?_
    have s2 := s1
    have pk : ∃ kvs L, Dq (upd H d (HO.dK [])) d kvs L ∧ BOut D R s [] L := ⟨[], [], ⟨upd_same, .nil, fun e he => by cases he⟩, BOut.none m⟩
    generalize upd H d (HO.dK []) = H1 at s1 s2 hd1 pk
    clear hd1
    all_goals
      clear s1
      obtain ⟨kvs, L, dk, fi⟩ := pk
      walk_at "rd"
      refine ⟨_, .inl dk.at_, fun wt nwt => ?_⟩
      have r12 := hh.r12
      have dok : ∀ d ∈ D, d.1 < d.2 := fun d hd => (hh.ok.ok d hd).2.1
      have klen : ∀ L : List En, (keysE L).Nodup → (∀ e ∈ L, Lst D R s e.1 e.2) → L.length ≤ r := fun L nd le => by
        have := ints_len nd fun x hx => by
          obtain ⟨p, hp⟩ := of_keysE hx
          exact hR x (le _ hp).1.mem
        unfold keysE at this
        rw [List.length_map] at this
        exact this
      have dwt : d ≠ wt := ne_of_none dk.at_ nwt
      have nw0 : H wt = none := s2.free nwt
      have e0 : kvs.map (fun kv => kV kv.1) = (keysE L).map V.int := by
        rw [show kvs.map (fun kv => kV kv.1) = (kvs.map (·.1)).map kV by rw [List.map_map]; rfl, pr_keys dk.pr, List.map_map]
        rfl
      rw [e0]
      obtain ⟨Pv, hPv⟩ : ∃ Pv : L2.St → Hp → Prop, Pv = (fun σ H' => ∃ (kvs : List (Key × V)) (A W : List En) (v5 v6 : Option V), σ = [some (.ref q), some (.int s), some (.ref o), some (.ref d), some (.ref wt), v5, v6] ∧ Same H H' ∧ Dq H' d kvs (A ++ W) ∧ BOut D R s A W ∧ H' wt = some (.lst ((keysE W).map V.int)) ∧ 2 * (r - kvs.length) + W.length ≤ 100) := ⟨_, rfl⟩
      obtain ⟨mu, hmu⟩ : ∃ mu : L2.St → Hp → Nat, mu = (fun _ H' => match H' d, H' wt with
        | some (.dK kvs), some (.lst ws) => 2 * (r - kvs.length) + ws.length
        | _, _ => 0) := ⟨_, rfl⟩
      refine while_by Pv mu ?h0 (fun σ H2 pv => ?hs) (fun σ H2 Q1 Q2 hi h => ?mono)
      case h0 =>
        rw [hPv]
        have kl := klen L fi.nd fi.le
        have dl := dk.len
        exact ⟨kvs, [], L, none, none, rfl, s2.trans (same_upd nwt), dk.same (same_upd nwt), fi, upd_same, by omega⟩
      case mono =>
        obtain ⟨v, g1, k, tv, q1⟩ := h
        exact ⟨v, g1, k, tv, hi _ _ q1⟩
      case hs =>
        rw [hPv] at pv
        obtain ⟨kvs, A, W, v5, v6, rfl, sm, dk, fi, hw, bd⟩ := pv
        refine ⟨.ref wt, rfl, !((keysE W).map V.int).isEmpty, .inl ⟨_, SqL.of hw, rfl⟩, ?_⟩
        cases W with
        | nil =>
          refine iteF ?_
          walk_at "rd"
          rw [List.append_nil] at dk
          exact ret d kvs A H2 sm nd dk fi.end
        | cons w0 ws =>
          have w0R := hR w0.1 (fi.le w0 (by simp)).1.mem
          obtain ⟨w0, p0⟩ := w0
          obtain ⟨n0, rfl⟩ : ∃ n : Nat, w0 = (n : Int) := ⟨w0.toNat, by have := w0R.1; simp only at this; omega⟩
          have fi := fi.go
          refine iteT ?_
          walk_at "rd"
          refine ⟨.inl ⟨rfl, _, SqL.of hw⟩, ?_⟩
          walk_at "rd"
          have sq : PySem.seqIndex? 0 ((keysE (((n0 : Int), p0) :: ws)).map V.int).length = some 0 := by
            unfold PySem.seqIndex?
            simp [keysE]
          refine ⟨wt, _, 0, 0, .int n0, rfl, rfl, hw, by decide, by decide, sq, rfl, ?_⟩
          have mu0 : mu [some (V.ref q), some (V.int s), some (V.ref o), some (V.ref d), some (V.ref wt), v5, v6] H2 = 2 * (r - kvs.length) + (ws.length + 1) := by
            rw [hmu]
            show (match H2 d, H2 wt with
              | some (.dK kvs), some (.lst ws) => 2 * (r - kvs.length) + ws.length
              | _, _ => 0) = _
            rw [dk.at_, hw]
            show _ + (List.map V.int _).length = _
            unfold keysE
            rw [List.length_map, List.length_map]
            rfl
          rw [mu0]
          have bd2 : 2 * (r - kvs.length) + (ws.length + 1) ≤ 100 := bd
          generalize hM : 2 * (r - kvs.length) + (ws.length + 1) = M at bd2
          show tFor _ _ _ _ _ (upd H2 wt (HO.lst ((keysE ws).map V.int)))
          have s3 : Same H (upd H2 wt (HO.lst ((keysE ws).map V.int))) := same_ch sm nw0
          have hw3 : upd H2 wt (HO.lst ((keysE ws).map V.int)) wt = some (.lst ((keysE ws).map V.int)) := upd_same
          have dk3 : Dq (upd H2 wt (HO.lst ((keysE ws).map V.int))) d kvs (A ++ ((n0 : Int), p0) :: ws) := dk.ch dwt hw
          generalize upd H2 wt (HO.lst ((keysE ws).map V.int)) = H3 at s3 hw3 dk3 ⊢
          refine for_iterW ?_
          refine ⟨q, p, rfl, _, rfl, s3 _ _ hq, p, r, D, own, n0, rfl, hh.same s3, by omega, fun nb nnb => ?_⟩
          have nb0 : H nb = none := s3.free nnb
          have nbw : wt ≠ nb := ne_of_none hw3 nnb
          have nbd : d ≠ nb := ne_of_none dk3.at_ nnb
          obtain ⟨Pw, hPw⟩ : ∃ Pw : Nat → L2.St → Hp → Prop, Pw = (fun j σ H' => ∃ (kvs' : List (Key × V)) (W' : List En) (v6 : Option V), σ = [some (.ref q), some (.int s), some (.ref o), some (.ref d), some (.ref wt), some (.int n0), v6] ∧ Same H H' ∧ H' nb = some (.lst ((nearF (n0 : Nat) D).map V.int)) ∧ Dq H' d kvs' (A ++ ((n0 : Int), p0) :: W') ∧ BIn D R s A ((n0 : Int), p0) W' ((nearF (n0 : Nat) D).take j) ∧ H' wt = some (.lst ((keysE W').map V.int)) ∧ 2 * (r - kvs'.length) + W'.length + 1 ≤ M) := ⟨_, rfl⟩
          refine ⟨nb, rfl, ⟨_, SqL.of upd_same⟩, for_list (K := K) (a := nb) (xs := (nearF (n0 : Nat) D).map V.int) Pw ?i0 (fun j σ H' _ pv => ?il) (fun j v σ H' gv pv => ?ib) (fun σ H' pv => ?ie)⟩
          case i0 =>
            rw [hPw]
            exact ⟨kvs, ws, v6, rfl, s3.trans (same_upd nnb), upd_same, dk3.same (same_upd nnb), (by rw [List.take_zero]; exact fi), same_upd nnb _ _ hw3, by omega⟩
          case il =>
            rw [hPw] at pv
            obtain ⟨_, _, _, _, _, hn, _⟩ := pv
            exact SqL.of hn
          case ie =>
            rw [hPw] at pv
            obtain ⟨kvs', W', v6, rfl, s5, hn, dk5, fi5, hw5, le5⟩ := pv
            rw [List.length_map, List.take_length] at fi5
            refine ⟨?_, ?_⟩
            · rw [hPv]
              refine ⟨kvs', A ++ [((n0 : Int), p0)], W', some (.int n0), v6, rfl, s5, (by rw [List.append_assoc]; exact dk5), fi5.done (fun b _ ab => (mem_nearF dok).mpr ab), hw5, by omega⟩
            · rw [hmu]
              show (match H' d, H' wt with
                | some (.dK kvs), some (.lst ws) => 2 * (r - kvs.length) + ws.length
                | _, _ => 0) < _
              rw [dk5.at_, hw5]
              show _ + (List.map V.int _).length < _
              unfold keysE
              rw [List.length_map, List.length_map]
              omega
          case ib =>
            have nxt : ∀ (kvs' : List (Key × V)) (W' : List En) (v6 : Option V) (H' : Hp), Same H H' → H' nb = some (.lst ((nearF (n0 : Nat) D).map V.int)) → Dq H' d kvs' (A ++ ((n0 : Int), p0) :: W') → BIn D R s A ((n0 : Int), p0) W' ((nearF (n0 : Nat) D).take (j + 1)) → H' wt = some (.lst ((keysE W').map V.int)) → 2 * (r - kvs'.length) + W'.length + 1 ≤ M → Pw (j + 1) [some (.ref q), some (.int s), some (.ref o), some (.ref d), some (.ref wt), some (.int n0), v6] H' := fun kvs' W' v6 H' h1 h2 h3 h4 h5 h6 => by
              rw [hPw]
              exact ⟨kvs', W', v6, rfl, h1, h2, h3, h4, h5, h6⟩
            rw [hPw] at pv
            obtain ⟨kvs', W', v6, rfl, s5, hn, dk5, fi5, hw5, le5⟩ := pv
            rw [List.getElem?_map] at gv
            cases gd : (nearF (n0 : Nat) D)[j]? with
            | none => rw [gd] at gv; cases gv
            | some b =>
              rw [gd] at gv
              have ev := Option.some.inj gv
              subst ev
              have adj : Adj D n0 b := (mem_nearF dok).mp (List.mem_of_getElem? gd)
              have tk : (nearF (n0 : Nat) D).take (j + 1) = (nearF (n0 : Nat) D).take j ++ [b] := by rw [List.take_add_one, gd]; rfl
              rw [tk] at nxt
              walk_at "rd"
              refine ⟨o, _, rfl, hoS _ s5, rfl, flI _, ?_⟩
              rw [inI]
              refine ⟨_, rfl, ?_⟩
              by_cases bR : b ∈ R
              · rw [decide_eq_true bR]
                refine iteT ?_
                refine ⟨_, rfl, _, rfl, d, _, rfl, DGet.k (k := Sum.inl b) dk5.at_, ?_⟩
                refine ⟨_, rfl, ?_⟩
                rcases pr_get (x := b) dk5.pr with ⟨vn, bk⟩ | ⟨pb, tb, mb, vb, _⟩
                · rw [vn]
                  refine iteT ?_
                  rcases pr_get (x := (n0 : Int)) dk5.pr with ⟨_, nk⟩ | ⟨pp, t0, mp, ev0, ht0⟩
                  · exact absurd (keysE_mem (p := p0) (by simp)) nk
                  have pe : pp = p0 := (fi5.le _ mp).uniq (fi5.le ((n0 : Int), p0) (by simp))
                  subst pe
                  have fi6 := fi5.add adj bR bk (fun c hc => by
                    obtain ⟨i, hi, e⟩ := List.getElem?_of_mem hc |>.imp fun i h => (⟨(List.getElem?_eq_some_iff.mp h).1, h⟩ : i < _ ∧ _)
                    have lt := nearF_lt (i := (n0 : Int)) hh.ok.asc dok
                    rw [List.length_take] at hi
                    rw [List.getElem?_take_of_lt (by omega)] at e
                    have h1 := List.getElem?_eq_some_iff.mp e
                    have h2 := List.getElem?_eq_some_iff.mp gd
                    have := List.pairwise_iff_getElem.mp lt i j h1.1 h2.1 (by omega)
                    rw [h1.2, h2.2] at this
                    exact this)
                  have kl := klen _ fi6.nd fi6.le
                  have dl := dk5.len
                  have kl2 : kvs'.length + 1 ≤ r := by
                    rw [dl]
                    rw [List.length_append, List.length_cons] at kl ⊢
                    rw [List.length_append] at kl
                    exact kl
                  have pl0 := dk5.vl _ mp
                  have pz : pp ≠ [] := fun z => by
                    have := (fi5.le _ mp).1.ne
                    rw [z] at this
                    exact Nat.not_succ_le_zero 0 this
                  refine ⟨_, rfl, _, rfl, d, .ref t0, rfl, (by rw [← ev0]; exact DGet.k (k := Sum.inl (n0 : Int)) dk5.at_), _, rfl, (by show 1 ≤ sizeLine; decide), fun t1 nt1 => ?_⟩
                  refine ⟨t0, t1, pp.map V.int, [.int b], rfl, rfl, SqT.of (same_upd nt1 _ _ ht0), SqT.of upd_same, (fun z => pz (List.map_eq_nil_iff.mp z)), Nat.le_of_lt (len_big (by rw [List.length_map]; show pp.length + 1 ≤ 100000; simp only at pl0; omega)), (fun z => by cases z), fun _ t2 nt2 => ?_⟩
                  have s56 : Same H' (upd (upd H' t1 (HO.tup [V.int b])) t2 (HO.tup (pp.map V.int ++ [V.int b]))) := (same_upd nt1).trans (same_upd nt2)
                  have ht2 : upd (upd H' t1 (HO.tup [V.int b])) t2 (HO.tup (pp.map V.int ++ [V.int b])) t2 = some (.tup ((pp ++ [b]).map V.int)) := by rw [List.map_append]; exact upd_same
                  generalize upd (upd H' t1 (HO.tup [V.int b])) t2 (HO.tup (pp.map V.int ++ [V.int b])) = H6 at s56 ht2
                  have dk6 := dk5.same s56
                  refine ⟨_, rfl, _, rfl, d, _, rfl, DPut.k (k := Sum.inl b) dk6.at_ (len_big (by omega)), ?_⟩
                  have dk7 := dk6.put vn ht2 (by rw [List.length_append]; simp only at pl0; show pp.length + 1 ≤ _; omega)
                  have s7 := same_ch (o := HO.dK (putK kvs' (Sum.inl b) (V.ref t2))) (s5.trans s56) nd
                  have hw7 : upd H6 d (HO.dK (putK kvs' (Sum.inl b) (V.ref t2))) wt = some (.lst ((keysE W').map V.int)) := by
                    rw [upd_ne dwt.symm]
                    exact s56 _ _ hw5
                  have hn7 : upd H6 d (HO.dK (putK kvs' (Sum.inl b) (V.ref t2))) nb = some (.lst ((nearF (n0 : Nat) D).map V.int)) := by
                    rw [upd_ne nbd.symm]
                    exact s56 _ _ hn
                  have pl : (putK kvs' (Sum.inl b : Key) (V.ref t2)).length = kvs'.length + 1 := by rw [putK_new _ vn, List.length_append]; rfl
                  generalize upd H6 d (HO.dK (putK kvs' (Sum.inl b) (V.ref t2))) = H7 at dk7 s7 hw7 hn7
                  generalize putK kvs' (Sum.inl b : Key) (V.ref t2) = kv7 at dk7 pl
                  walk_at "rd"
                  have wl : W'.length ≤ 100 := by omega
                  refine ⟨.inl ⟨rfl, _, SqL.of hw7⟩, _, hw7, len_big (by unfold keysE; rw [List.length_map, List.length_map]; omega), ?_⟩
                  refine nxt kv7 (W' ++ [(b, pp ++ [b])]) _ _ (same_ch s7 nw0) (by rw [upd_ne nbw.symm]; exact hn7) (by rw [List.append_assoc] at dk7; exact dk7.ch dwt hw7) fi6 (by rw [upd_same]; unfold keysE; rw [List.map_append, List.map_append]; rfl) (by rw [pl, List.length_append]; show _ + (W'.length + 1) + 1 ≤ M; omega)
                · rw [vb]
                  refine iteF ?_
                  exact nxt kvs' W' _ H' s5 hn dk5 (fi5.skip fun _ => keysE_mem mb) hw5 le5
              · rw [decide_eq_false bR]
                refine iteF ?_
                exact nxt kvs' W' _ H' s5 hn dk5 (fi5.skip fun h => absurd h bR) hw5 le5
end

abbrev sFst : Stmt := topS 12
abbrev sPdr : Stmt := topS 0
section
variable {K : PySem.W.Frag} {a b : Addr} {xs ys : List V}
theorem walk_zipT {n : Nat} (hn : n = min xs.length ys.length) : Walk (RZ.ItzT K a b) n (fun H => SqT K H a xs ∧ SqT K H b ys) (YPair (fun i => xs[i]?) (fun i => ys[i]?)) := by
  subst hn
  refine ⟨fun i _ hi q => ?_, fun _ q => ⟨xs, ys, q.1, q.2, by omega⟩, fun i H v H' _ q y => ?_⟩
  · have h1 : i < xs.length := by omega
    have h2 : i < ys.length := by omega
    exact ⟨xs, ys, xs[i], ys[i], q.1, q.2, by simp [h1], by simp [h2]⟩
  · obtain ⟨T, x, z, h1, h2, h3, h4, h5⟩ := y
    exact ⟨T, x, z, h1, h2, h3, h4 xs q.1, h5 ys q.2⟩
end
/-! ### the doors along a path -/
def dOf (a b : Int) : Pr := (if b < a then b else a, if b > a then b else a)
def alongI (ps : List Int) (i : Nat) : List Pr := (List.range i).map fun k => dOf (ps.getD k 0) (ps.getD (k + 1) 0)
def along (ps : List Int) : List Pr := alongI ps (ps.length - 1)
theorem alongI_succ (ps : List Int) (i : Nat) : alongI ps (i + 1) = alongI ps i ++ [dOf (ps.getD i 0) (ps.getD (i + 1) 0)] := by
  unfold alongI
  rw [List.range_succ, List.map_append]
  rfl
theorem dOf_comm (a b : Int) : dOf a b = dOf b a := by
  unfold dOf
  rcases Int.lt_trichotomy a b with h | h | h
  · rw [if_neg (show ¬ b < a by omega), if_pos (show b > a from h), if_pos (show a < b from h), if_neg (show ¬ a > b by omega)]
  · rw [h]
  · rw [if_pos (show b < a from h), if_neg (show ¬ b > a by omega), if_neg (show ¬ a < b by omega), if_pos (show a > b from h)]
theorem along_rev (ps : List Int) : along ps.reverse = (along ps).reverse := by
  unfold along alongI
  rw [List.length_reverse]
  refine List.ext_getElem (by simp) fun i h1 h2 => ?_
  rw [List.length_map, List.length_range] at h1
  rw [List.getElem_map, List.getElem_range, List.getElem_reverse, List.getElem_map, List.getElem_range]
  simp only [List.length_map, List.length_range]
  have g : ∀ k, k < ps.length → ps.reverse.getD k 0 = ps.getD (ps.length - 1 - k) 0 := fun k hk => by
    rw [List.getD_eq_getElem?_getD, List.getD_eq_getElem?_getD, List.getElem?_reverse hk]
  rw [g _ (by omega), g _ (by omega), dOf_comm]
  congr 2 <;> omega
/-- sorted, each as often as it comes -/
def SrtE (E : List Pr) (ps : List Int) : Prop := E.Perm (along ps) ∧ E.Pairwise fun x y => ¬ lt2 y x
theorem SrtE.uniq {E F : List Pr} {ps qs : List Int} (h : SrtE E ps) (k : SrtE F qs) (p : (along ps).Perm (along qs)) : E = F := by
  refine List.Perm.eq_of_pairwise (fun a b _ _ h1 h2 => ?_) h.2 k.2 (h.1.trans (p.trans k.1.symm))
  unfold lt2 at h1 h2
  obtain ⟨a1, a2⟩ := a
  obtain ⟨b1, b2⟩ := b
  simp only at h1 h2
  have : a1 = b1 ∧ a2 = b2 := by omega
  rw [this.1, this.2]
theorem SrtE.len {E : List Pr} {ps : List Int} (h : SrtE E ps) : E.length = ps.length - 1 := by
  rw [h.1.length_eq]
  unfold along alongI
  rw [List.length_map, List.length_range]
theorem srtE_of {H : Hp} {ys : List V} {us : List V} {ps : List Int} (pm : ys.Perm us) (e : us.map (kH H) = along ps) (h : SrtO.Srtd (ltP (kH H)) ys) : SrtE (ys.map (kH H)) ps := by
  refine ⟨?_, List.pairwise_map.mpr (List.Pairwise.imp (fun {x y} h => ?_) h)⟩
  · rw [← e]
    exact pm.map _
  · exact SrtO.lexB_no.mp h
section
variable {P : Program} {w : World} {K : PySem.W.Frag} {mg : Str → Option Value} {base : Heap}
theorem scFst : FnScope ["house", "start", "goal", "inside"] ["house", "start", "goal", "inside"] (defScope sFst) := ⟨rfl, rfl, rfl, by decide +kernel, rfl, by decide +kernel, by decide +kernel⟩
def spFst (K : PySem.W.Frag) (C : Addr) : Sp := fun vs H Q _ => ∃ (p o : Addr) (s g : Int) (R : List Int) (r : Nat) (D : List Pr) (own : List Addr), vs = [.ref p, .int s, .int g, .ref o] ∧ HouseAt C H p r D own ∧ SeqI K H o R ∧ (∀ x ∈ R, 0 ≤ x ∧ x < r) ∧
  ∀ (v : V) (H' : Hp), Same H H' → ((∃ q t, v = V.ref t ∧ H' t = some (.tup (q.map V.int)) ∧ Lst D R s g q) ∨ (v = .non ∧ ∀ q, ¬ Pth D R s g q)) → Q v H'
theorem SeqI.same {K : PySem.W.Frag} {H H' : Hp} {o : Addr} {R : List Int} (h : SeqI K H o R) (s : Same H H') : SeqI K H' o R := by
  rcases h with h | h
  · exact .inl (s.seq h)
  · exact .inr (same_sqT s h)
theorem ok_fst {f C g fF : Addr} {fd fdF : FuncData} (F : Fun K "first_path" "first_path" sFst f fd) (T : Bi mg) (U : Hs K mg C) (bm : BMeth K C "neighbours" g) (d_first_paths : Df P w K mg base "first_paths" ["steps", "start", "inside"] 2 (spFq K C g) fF fdF) : FnOk P w K mg base CX0 3 f fd ["house", "start", "goal", "inside"] (spFst K C) := by
  refine F.ok scFst (fun vs H Q E h => ?_) (fun cdv A outer s0 H vs Q E hr h => ?_)
  · obtain ⟨p, o, s, gl, R, r, D, own, rfl, _⟩ := h
    rfl
  · obtain ⟨p, o, s, gl, R, r, D, own, rfl, hh, ho, hR, ret⟩ := h
    refine ⟨_, (pss_one (ps_ret (pe_dget1 (u1 hr.units) (pe_call d_first_paths.ok (hr.mono (by decide)) (by rfl) d_first_paths.at_ d_first_paths.kp d_first_paths.b .nil pass0 (pa_cons (pe_bnd (pv 0) U.cl bm) (pa_cons (pv 1) (pa_cons (pv 3) pa_nil)))) (pv 2) ⟨rfl, by rfl, by rfl, by rfl⟩))), ?_⟩
    unfold tDGet1
    obtain ⟨dx, l0, m0, ls, nss, h1, _⟩ := hh.ex
    walk_at "rd"
    refine ⟨_, rfl, p, dx, _, rfl, h1, hf_no _ _ _ (by decide +kernel) (by decide +kernel) (by decide +kernel), fun q nq => ?_⟩
    have s1 : Same H (upd H q (HO.met g p)) := same_upd nq
    refine ⟨q, o, p, s, R, r, D, own, rfl, upd_same, hh.same s1, ho.same s1, hR, fun d kvs L H' s2 nd dk al => ?_⟩
    refine ⟨d, rfl, .inl ⟨kvs, .inl dk.at_⟩, _, DGet.k (k := Sum.inl gl) dk.at_, ret _ H' (s1.trans s2) ?_⟩
    rcases pr_get (x := gl) dk.pr with ⟨e, n⟩ | ⟨q, t, m, e, ht⟩
    · rw [e]
      exact .inr ⟨rfl, al.no.mp n⟩
    · rw [e]
      exact .inl ⟨q, t, rfl, ht, al.get.mp m⟩
end

/-! ### t[::-1] of a tuple -/
section
variable {prog : Program} {w : World} {A : Around} {E : Value → Shared → Prop} {s : Shared}
theorem sliceApplied_rev {sl : Addr} {vl vu vs : Value} {n : Nat} {Q : Int × Int × Nat → Shared → Prop} (hs : s.heap.IsSliceOf sl vl vu vs) (pl : IsPart vl none) (pu : IsPart vu none) (ps : IsPart vs (some (-1)))
    (h : Q ((n : Int) - 1, -1, n) s) : wpAny (model prog w) A (Builtin.Slice.sliceApplied (.ref sl) (pure (n : Int))) Q E s := by
  obtain ⟨os, hos, hcs, hds⟩ := id hs
  unfold Builtin.Slice.sliceApplied Builtin.Slice.sliceFields
  refine wpAny_bind (wpAny_bind (wpAny_field hos hds (x := vl) rfl (wpAny_bind (wpAny_field hos hds (x := vu) rfl (wpAny_bind (wpAny_field hos hds (x := vs) rfl (wpAny_pure ?_)))))))
  refine wpAny_bind (HT.slicePart_ ps ?_)
  show wpAny _ _ (if ((-1 : Int) == 0) = true then _ else _) _ _ s
  rw [if_neg (by decide)]
  refine wpAny_bind (HT.slicePart_ pl (wpAny_bind (HT.slicePart_ pu (wpAny_bind (wpAny_pure ?_)))))
  show wpAny _ _ (match Builtin.Slice.sliceAdjust none none (-1) (n : Int) with | (lo, hi) => pure (lo, (-1 : Int), Builtin.Slice.slicePlaces lo hi (-1))) _ _ s
  show wpAny _ _ (pure ((n : Int) - 1, (-1 : Int), Builtin.Slice.slicePlaces ((n : Int) - 1) (-1) (-1))) _ _ s
  have e : Builtin.Slice.slicePlaces ((n : Int) - 1) (-1) (-1) = n := by
    unfold Builtin.Slice.slicePlaces
    rw [if_neg (by decide)]
    by_cases z : n = 0
    · subst z
      rfl
    · rw [if_pos (by omega)]
      have : ((n : Int) - 1 - -1 - 1) / (- -1) + 1 = n := by
        rw [show (- -1 : Int) = 1 from rfl, Int.ediv_one]
        omega
      rw [this]
      exact Int.toNat_natCast n
  rw [e]
  exact wpAny_pure h
theorem pick_rev (xs : Array Value) : ((List.range xs.size).filterMap fun (k : Nat) => xs[(((xs.size : Int) - 1) + (k : Int) * -1).toNat]?).toArray = xs.toList.reverse.toArray := by
  have e : (fun (k : Nat) => xs[(((xs.size : Int) - 1) + (k : Int) * -1).toNat]?) = fun k => xs[xs.size - 1 - k]? := by
    funext k
    have : (((xs.size : Int) - 1) + (k : Int) * -1).toNat = xs.size - 1 - k := by omega
    rw [this]
  rw [e]
  have e2 : ((List.range xs.size).filterMap fun k => xs[xs.size - 1 - k]?) = ((List.range xs.size).map fun k => xs.size - 1 - k).filterMap (xs[·]?) := by
    rw [List.filterMap_map]
    rfl
  rw [e2, PySem.W.krv_range, List.filterMap_reverse, PySem.W.krv_all]
theorem getItem_tuple_rev {t sl : Addr} {items : Array Value} {vl vu vs : Value} {Q : Value → Shared → Prop} (ht : IsTup s.heap t items) (hs : s.heap.IsSliceOf sl vl vu vs) (pl : IsPart vl none) (pu : IsPart vu none) (ps : IsPart vs (some (-1)))
    (h : Q (.ref s.heap.objs.size) { s with heap := s.heap.push { cls := .type "tuple", data := .seq items.toList.reverse.toArray } })
    (hsz : items.size ≤ sizeLine) : wpAny (model prog w) A (getItem (.ref t) (.ref sl)) Q E s := by
  have htake : sizeOk (.seq items.toList.reverse.toArray) := by
    show items.toList.reverse.toArray.size ≤ sizeLine
    rw [List.size_toArray, List.length_reverse, Array.length_toList]
    exact hsz
  obtain ⟨os, hos, hcs, hds⟩ := id hs
  have hTs : s.TypeIs (.ref sl) "slice" := ⟨os, hos, hcs⟩
  unfold getItem
  try with_reducible refine wpAny_holding ?_
  first | refine wpAny_bind (wpAny_pure ?_) | skip
  refine wpAny_bind (wpAny_sequenceKey ht.typeIs (by decide) ?_)
  refine wpAny_bind (wpAny_callSpecial?_slot (name := Str.ofString "__getitem__") ht.typeIs PyProof.Rows.slot_tuple_getitem
    (wpAny_call_entry PyProof.Rows.slot_tuple_getitem ht.typeIs entry_tuple_getitem ?_ (args_tuple_getitem _ _)))
  show wpAny _ _ (Builtin.Tuple.tupleItemsOf (.ref t) >>= _) _ _ s
  refine wpAny_bind (tupleItemsOf_ ht ?_)
  refine wpAny_bind (wpAny_typeOf hTs ?_)
  rw [if_pos (by decide)]
  refine wpAny_bind (sliceApplied_rev hs pl pu ps ?_)
  have hno : ¬ ((((items.size : Int) - 1) == 0 && (-1 : Int) == 1 && items.size == items.size) = true) := by
    intro q
    rw [Bool.and_eq_true, Bool.and_eq_true] at q
    exact absurd q.1.2 (by decide)
  show wpAny _ _ (if (((items.size : Int) - 1) == 0 && (-1 : Int) == 1 && items.size == items.size) = true then _ else _) _ _ s
  rw [if_neg hno, pick_rev]
  first
    | exact wpAny_bind (m := Builtin.Tuple.tupleExact _) (wpAny_newObj_type (wpAny_pure ⟨_, rfl, wpAny_pure h⟩) htake)
    | exact wpAny_bind (m := Builtin.Tuple.tupleExact _) (wpAny_newObj_type (wpAny_bind (wpAny_pure (wpAny_pure ⟨_, rfl, wpAny_pure h⟩))) htake)
    | exact wpAny_bind (wpAny_bind (m := Builtin.Tuple.tupleExact _) (wpAny_newObj_type (wpAny_pure (wpAny_pure ⟨_, rfl, wpAny_pure h⟩)) htake))
    | exact wpAny_bind (wpAny_bind (m := Builtin.Tuple.tupleExact _) (wpAny_newObj_type (wpAny_pure ⟨_, rfl, wpAny_pure h⟩) htake))
end
section
variable {X : Cx}
def tRevT (K : PySem.W.Frag) (te : TE) : TE := fun σ H Q => te σ H fun x H1 => ∃ a xs, x = .ref a ∧ SqT K H1 a xs ∧ ∀ p, H1 p = none → Q (.ref p) (upd H1 p (.tup xs.reverse))
theorem pe_revT {e : Expr} {te : TE} {k : Nat} {p1 p2 p3 pos : Pos} (he : PE X e te) : PE X (.Subscript e (.Slice none none (some (.UnaryOp .USub (.Constant (.int 1) k p1) p2)) p3) pos) (tRevT X.K te) := by
  refine ⟨fun pins s σ H Q I h => ?_⟩
  refine Subscript_ (thn (he.run pins s σ H _ I h) fun v s1 ⟨x, H1, I1, r1, q1⟩ => ?_)
  obtain ⟨a, xs, ex, hx, q⟩ := q1
  subst ex
  cases r1
  have hst : PO X (some (.UnaryOp .USub (.Constant (.int 1) k p1) p2)) (tPart (tUn (rU fun i => .int (-i)) (tC (.int 1)))) := po_some (pe_un un_neg pe_int)
  refine wpAny_Slice (thn (po_none.run pins s1 σ H1 (fun o H2 => o = none ∧ H2 = H1) I1 ⟨rfl, rfl⟩) fun vl s2 ⟨l, H2, I2, pl, el, e2⟩ => ?_)
  subst el e2
  refine thn (po_none.run pins s2 σ H2 (fun o H3 => o = none ∧ H3 = H2) I2 ⟨rfl, rfl⟩) fun vu s3 ⟨u, H3, I3, pu, eu, e3⟩ => ?_
  subst eu e3
  refine thn (hst.run pins s3 σ H3 (fun o H4 => o = some (-1) ∧ H4 = H3) I3 ⟨1, rfl, -1, rfl, rfl, rfl⟩) fun vs s4 ⟨o, H4, I4, ps, eo, e4⟩ => ?_
  subst eo e4
  have I5 : Inv X pins σ H4 { s4 with heap := s4.heap.push { cls := .type "slice", data := .fields #[vl, vu, vs] } } := I4.kept (t' := s4.toks) fun b ob q => Heap.get?_push_of_some _ q
  obtain ⟨its, r, ht, hz⟩ := I5.tuple hx
  have hlen := r.length
  show wpAny (model X.prog X.w) X.A (subscriptTail e (.Slice none none (some (.UnaryOp .USub (.Constant (.int 1) k p1) p2)) p3) (.ref a) (.ref s4.heap.objs.size)) (EP X pins σ Q) X.xe { s4 with heap := s4.heap.push { cls := .type "slice", data := .fields #[vl, vu, vs] } }
  refine tail_any (ops := [.ref a, .ref s4.heap.objs.size]) ht.typeIs (PyProof.Rows.slot_tuple_getitem.lookup) ?_ (by with_unfolding_all rfl)
  refine getItem_tuple_rev ht (Heap.IsSliceOf.new _ vl vu vs) pl pu ps ?_ (by rw [List.size_toArray]; omega)
  refine ⟨.ref _, _, I5.laid (t' := s4.toks) (o := .tup xs.reverse) (fun b ob q => Heap.get?_push_of_some _ q) (Nat.le_refl _) ?_, rfl, q _ (I5.hok.fresh (Nat.le_refl _))⟩
  exact ⟨by rw [List.length_reverse]; exact hz, _, by simpa using r.reverse, IsTup.new _ _⟩
end

/-! ### logs in the heap -/
abbrev Cl := Int × Str
def IsC (H : Hp) (v : V) (c : Cl) : Prop := ∃ t, v = .ref t ∧ H t = some (.tup [.int c.1, .str c.2])
def LG (H : Hp) (vs : List V) (L : List Cl) : Prop := Paired (IsC H) vs L
theorem IsC.kt {H H' : Hp} {v : V} {d : Cl} (h : IsC H v d) (k : KT H H') : IsC H' v d := by
  obtain ⟨t, e, h⟩ := h
  exact ⟨t, e, k _ _ h⟩
theorem LG.kt {H H' : Hp} {vs : List V} {D : List Cl} (h : LG H vs D) (k : KT H H') : LG H' vs D := Paired.mapP h fun _ _ q => q.kt k
theorem LG.len {H : Hp} {vs : List V} {D : List Cl} (h : LG H vs D) : vs.length = D.length := Paired.length h
theorem LG.nil0 (H : Hp) : LG H [] [] := Paired.nil
theorem LG.snoc {H : Hp} {vs : List V} {D : List Cl} {v : V} {d : Cl} (h : LG H vs D) (q : IsC H v d) : LG H (vs ++ [v]) (D ++ [d]) := Paired.snoc h q
theorem pget {α β : Type} {F : α → β → Prop} : ∀ {vs : List α} {D : List β} {i : Nat} {v : α}, Paired F vs D → vs[i]? = some v → ∃ d, D[i]? = some d ∧ F v d
  | _, _, _, _, Paired.nil, e => by simp at e
  | _, _, 0, v, .cons r _, e => by
    have e2 := Option.some.inj e
    subst e2
    exact ⟨_, rfl, r⟩
  | _, _, i + 1, v, .cons _ t, e => pget (i := i) t e
theorem pget2 {α β : Type} {F : α → β → Prop} : ∀ {vs : List α} {D : List β} {i : Nat} {d : β}, Paired F vs D → D[i]? = some d → ∃ v, vs[i]? = some v ∧ F v d
  | _, _, _, _, Paired.nil, e => by simp at e
  | _, _, 0, v, .cons r _, e => by
    have e2 := Option.some.inj e
    subst e2
    exact ⟨_, rfl, r⟩
  | _, _, i + 1, v, .cons _ t, e => pget2 (i := i) t e
theorem prev {α β : Type} {F : α → β → Prop} {vs : List α} {D : List β} (h : Paired F vs D) : Paired F vs.reverse D.reverse := by
  induction h with
  | nil => exact Paired.nil
  | cons r _ ih =>
    rw [List.reverse_cons, List.reverse_cons]
    exact Paired.snoc ih r
theorem inV_ints (j : Int) (l : List Int) : inV (.int j) (l.map V.int) = decide (j ∈ l) := by
  induction l with
  | nil => rfl
  | cons x l ih =>
    have e : inV (.int j) ((x :: l).map V.int) = (eqV (.int x) (.int j) || inV (.int j) (l.map V.int)) := rfl
    rw [e, ih]
    have e2 : eqV (.int x) (.int j) = decide (x = j) := by
      unfold eqV
      by_cases h : x = j
      · subst h
        simp
      · simp [h]
    rw [e2]
    by_cases h : j = x
    · subst h
      simp
    · have h' : ¬ x = j := fun z => h z.symm
      simp [h, h']
theorem flat_ints (l : List Int) : (l.map V.int).all flatV = true := by
  rw [List.all_eq_true]
  intro v hv
  obtain ⟨x, _, rfl⟩ := List.mem_map.mp hv
  rfl
/-- the last calls of a log -/
theorem rep1 {α : Type} (n : Nat) (x : α) : (List.replicate n [x]).flatten = List.replicate n x := by
  induction n with
  | zero => rfl
  | succ n ih =>
    rw [List.replicate_succ, List.flatten_cons, List.replicate_succ, ih]
    rfl
def lastF : List Cl → List Cl
  | [] => []
  | c :: S => if c.1 ∈ S.map (·.1) then lastF S else c :: lastF S
theorem lastF_len (L : List Cl) : (lastF L).length ≤ L.length := by
  induction L with
  | nil => exact Nat.le_refl _
  | cons c S ih =>
    show (if c.1 ∈ S.map (·.1) then lastF S else c :: lastF S).length ≤ S.length + 1
    split
    · omega
    · rw [List.length_cons]
      omega
theorem drop_step {L : List Cl} {i : Nat} {c : Cl} (hi : i < L.length) (g : L[L.length - 1 - i]? = some c) : L.drop (L.length - (i + 1)) = c :: L.drop (L.length - i) := by
  have h : L.length - (i + 1) < L.length := by omega
  rw [List.drop_eq_getElem_cons h]
  have e1 : L.length - (i + 1) + 1 = L.length - i := by omega
  have e2 : L.length - (i + 1) = L.length - 1 - i := by omega
  rw [e1]
  congr 1
  rw [← e2, List.getElem?_eq_getElem h] at g
  exact Option.some.inj g
def inS (S : List Cl) : Int → Bool := fun k => decide (k ∈ S.map (·.1))
theorem inS_same {S : List Cl} {c : Cl} (h : c.1 ∈ S.map (·.1)) : inS (c :: S) = inS S := by
  funext k
  unfold inS
  by_cases e : k ∈ S.map (·.1)
  · rw [decide_eq_true e, List.map_cons, decide_eq_true (List.mem_cons_of_mem _ e)]
  · rw [decide_eq_false e, List.map_cons, decide_eq_false]
    intro z
    rcases List.mem_cons.mp z with z | z
    · exact e (by rw [z]; exact h)
    · exact e z
theorem inS_more {S : List Cl} {c : Cl} : (fun j => inS S j || decide (j = c.1)) = inS (c :: S) := by
  funext k
  unfold inS
  rw [List.map_cons]
  by_cases e1 : k = c.1
  · subst e1
    simp
  · by_cases e2 : k ∈ S.map (·.1)
    · rw [decide_eq_true e2, decide_eq_true (List.mem_cons_of_mem _ e2), Bool.true_or]
    · rw [decide_eq_false e2, decide_eq_false e1, decide_eq_false, Bool.or_false]
      intro z
      rcases List.mem_cons.mp z with z | z
      · exact e1 z
      · exact e2 z
theorem atI01 {a b : V} : atI [a, b] 0 = some a ∧ atI [a, b] 1 = some b := ⟨rfl, rfl⟩
abbrev sLast : Stmt := topS 2
abbrev sOrd : Stmt := topS 0
abbrev sWds : Stmt := topS 3
abbrev sLci : Stmt := topS 0
abbrev sTopR : Stmt := topS 0
abbrev sWof : Stmt := topS 0
abbrev sLof : Stmt := topS 0
section
variable {P : Program} {w : World} {K : PySem.W.Frag} {mg : Str → Option Value} {base : Heap}
theorem scLast : FnScope ["log", "called", "backwards", "room", "word"] ["log"] (defScope sLast) := ⟨rfl, rfl, rfl, by decide +kernel, rfl, by decide +kernel, by decide +kernel⟩
def spLast : Sp := fun vs H Q _ => ∃ (l : Addr) (us : List V) (L : List Cl), vs = [.ref l] ∧ H l = some (.lst us) ∧ LG H us L ∧ L.length ≤ 1000 ∧
  ∀ ws p H', Same H H' → H p = none → H' p = some (.lst ws) → LG H' ws (lastF L) → Q (.ref p) H'
theorem ok_last {f : Addr} {fd : FuncData} (F : Fun K "last_calls" "last_calls" sLast f fd) (T : Bi mg) (mrev : mg "reversed" = none) : FnOk P w K mg base CX0 1 f fd ["log"] spLast := by
  refine F.ok scLast (fun vs H Q E h => ?_) (fun cdv A outer s H vs Q E hr h => ?_)
  · obtain ⟨l, us, L, rfl, _⟩ := h
    rfl
  · obtain ⟨l, us, L, rfl, hl, lg, ln, q⟩ := h
    refine ⟨_, (pss_cons (ps_set (i := 1) scLast.nd rfl (Or.inl rfl) (pe_callTy0 cr_set0 (by rfl) T.set (by decide +kernel)))
      (pss_cons (ps_set (i := 2) scLast.nd rfl (Or.inl rfl) (pe_lst pa_nil))
      (pss_cons (ps_for PassesOwn.never rfl (pi_reversed (by rfl) mrev (pa_cons (pv 0) pa_nil)) (pg_tup rfl (pgs_cons (pg_name (i := 3) scLast.nd rfl (Or.inl rfl)) (pgs_cons (pg_name (i := 4) scLast.nd rfl (Or.inl rfl)) pgs_nil)))
      (pss_one (ps_if (pt_cmpR or_snotin (pv 3) (pv 1) (by rfl))
        (pss_cons (ps_expr (pe_sadd (pv 1) (pa_cons (pv 3) pa_nil)))
          (pss_one (ps_expr (pe_bm PySem.F.plainAttrs_list PySem.F.slot_list_append PySem.F.type_list_append mt_append (pv 2) (pa_cons (pe_tup (pa_cons (pv 3) (pa_cons (pv 4) pa_nil))) pa_nil)))))
        pss_nil)))
      (pss_one (ps_ret (pe_revL (pv 2))))))), ?_⟩
    walk_at "rd"
    refine ⟨rfl, fun a na => ⟨Nat.zero_le _, fun b nb => ?_⟩⟩
    have ul : us.length = L.length := lg.len
    have nab : a ≠ b := fun z => by
      rw [← z, upd_same] at nb
      cases nb
    have fb : H b = none := by
      rw [upd_ne nab.symm] at nb
      exact nb
    obtain ⟨Pv, hPv⟩ : ∃ Pv : Nat → L2.St → Hp → Prop, Pv = (fun i σ H' => ∃ (n : Nat) (ws : List V) (v3 v4 : Option V), σ = [some (.ref l), some (.ref a), some (.ref b), v3, v4] ∧ Same H H' ∧ H' a = some (SetO w a (inS (L.drop (L.length - i))) n) ∧ n ≤ i ∧ H' b = some (.lst ws) ∧ LG H' ws (lastF (L.drop (L.length - i))).reverse) := ⟨_, rfl⟩
    have e0 : L.drop (L.length - 0) = [] := List.drop_eq_nil_of_le (by omega)
    refine ⟨_, rfl, l, us, rfl, SqL.of ((same_upd na).trans (same_upd nb) _ _ hl), RT.for_Itv Pv (by rw [hPv]; exact ⟨0, [], none, none, rfl, (same_upd na).trans (same_upd nb), by rw [e0, upd_ne nab, upd_same]; rfl, Nat.le_refl _, upd_same, by rw [e0]; exact LG.nil0 _⟩) (fun i σ H' pv => by rw [hPv] at pv; obtain ⟨_, _, _, _, _, sm, _⟩ := pv; exact SqL.of (sm _ _ hl)) (fun i v σ H' hi gv pv => ?_) (fun σ H' pv => ?_)⟩
    · have nxt : ∀ n ws v3 v4 H', Same H H' → H' a = some (SetO w a (inS (L.drop (L.length - (i + 1)))) n) → n ≤ i + 1 → H' b = some (.lst ws) → LG H' ws (lastF (L.drop (L.length - (i + 1)))).reverse → Pv (i + 1) [some (.ref l), some (.ref a), some (.ref b), v3, v4] H' := fun n ws v3 v4 H' h1 h2 h3 h4 h5 => by
        rw [hPv]
        exact ⟨n, ws, v3, v4, rfl, h1, h2, h3, h4, h5⟩
      rw [hPv] at pv
      obtain ⟨n, ws, v3, v4, rfl, sm, ha, hn, hb, lw⟩ := pv
      rw [ul] at gv hi
      obtain ⟨c, gc, tc, rfl, htc⟩ := pget lg gv
      have st := drop_step hi gc
      rw [st] at nxt
      have htc1 := sm _ _ htc
      have wl : ws.length ≤ 1000 := by
        rw [lw.len, List.length_reverse]
        have := lastF_len (L.drop (L.length - i))
        rw [List.length_drop] at this
        omega
      walk_at "rd"
      refine ⟨_, SqT.of htc1, rfl, _, _, rfl, _, _, rfl, rfl, ?_⟩
      walk_at "rd"
      refine ⟨c.1, a, _, n, rfl, rfl, ha, ?_⟩
      refine ⟨_, rfl, ?_⟩
      by_cases hm : c.1 ∈ (L.drop (L.length - i)).map (·.1)
      · have e : (!inS (L.drop (L.length - i)) c.1) = false := by
          unfold inS
          rw [decide_eq_true hm]
          rfl
        rw [e]
        refine iteF (nxt n ws _ _ _ sm (by rw [inS_same hm]; exact ha) (by omega) hb ?_)
        show LG H' ws (if c.1 ∈ (L.drop (L.length - i)).map (·.1) then lastF (L.drop (L.length - i)) else c :: lastF (L.drop (L.length - i))).reverse
        rw [if_pos hm]
        exact lw
      · have e : (!inS (L.drop (L.length - i)) c.1) = true := by
          unfold inS
          rw [decide_eq_false hm]
          rfl
        rw [e]
        refine iteT ?_
        have s0 : Same H' H' := Same.refl _
        refine ⟨_, rfl, ⟨a, _, n, rfl, ha⟩, _, rfl, a, c.1, _, n, rfl, rfl, ha, (by show n + 1 < 4096; omega), ?_⟩
        have e2 : inS (L.drop (L.length - i)) c.1 = false := by
          unfold inS
          exact decide_eq_false hm
        rw [inS_more, e2]
        have fa : H a = none := na
        have hb2 : upd H' a (SetO w a (inS (c :: L.drop (L.length - i))) (if false = true then n else n + 1)) b = some (.lst ws) := by rw [upd_ne nab.symm]; exact hb
        have ha2 : upd H' a (SetO w a (inS (c :: L.drop (L.length - i))) (if false = true then n else n + 1)) a = some (SetO w a (inS (c :: L.drop (L.length - i))) (n + 1)) := upd_same
        have sm2 : Same H (upd H' a (SetO w a (inS (c :: L.drop (L.length - i))) (if false = true then n else n + 1))) := same_ch sm fa
        have kt2 : KT H' (upd H' a (SetO w a (inS (c :: L.drop (L.length - i))) (if false = true then n else n + 1))) := KT.ch ha (fun xs z => by unfold SetO at z; cases z)
        generalize upd H' a (SetO w a (inS (c :: L.drop (L.length - i))) (if false = true then n else n + 1)) = H2 at hb2 ha2 sm2 kt2
        walk_at "rd"
        refine ⟨.inl ⟨rfl, _, SqL.of hb2⟩, (by show 2 ≤ sizeLine; decide), fun t nt => ?_⟩
        have nbt : b ≠ t := ne_of_none hb2 nt
        refine ⟨ws, by rw [upd_ne nbt]; exact hb2, len_big (by omega), nxt (n + 1) (ws ++ [.ref t]) _ _ _ (same_ch (sm2.trans (same_upd nt)) fb) ?_ (by omega) upd_same ?_⟩
        · rw [upd_ne nab, upd_ne (ne_of_none ha2 nt)]
          exact ha2
        · show LG _ _ (if c.1 ∈ (L.drop (L.length - i)).map (·.1) then lastF (L.drop (L.length - i)) else c :: lastF (L.drop (L.length - i))).reverse
          rw [if_neg hm, List.reverse_cons]
          refine LG.snoc (((lw.kt kt2).kt (KT.new nt)).kt (KT.lst (by rw [upd_ne nbt]; exact hb2))) ⟨t, rfl, ?_⟩
          rw [upd_ne nbt.symm, upd_same]
    · rw [hPv] at pv
      obtain ⟨n, ws, v3, v4, rfl, sm, ha, hn, hb, lw⟩ := pv
      rw [ul, Nat.sub_self, List.drop_zero] at lw
      refine ⟨_, rfl, b, ws, rfl, SqL.of hb, fun p np => ?_⟩
      refine q ws.reverse p _ (sm.trans (same_upd np)) (sm.free np) upd_same ?_
      have := prev (lw.kt (KT.new (o := HO.lst ws.reverse) np))
      rw [List.reverse_reverse] at this
      exact this
def spOrd : Sp := fun vs H Q _ => ∃ (l : Addr) (us : List V) (L : List Cl), vs = [.ref l] ∧ H l = some (.lst us) ∧ LG H us L ∧ L.length ≤ 1000 ∧
  ∀ p H', Same H H' → H p = none → H' p = some (.tup ((lastF L).map fun c => V.int c.1)) → Q (.ref p) H'
theorem scWds : FnScope ["house", "log", "words", "room", "word"] ["house", "log"] (defScope sWds) := ⟨rfl, rfl, rfl, by decide +kernel, rfl, by decide +kernel, by decide +kernel⟩
/-- the last word of each of r rooms -/
def wordsF (r : Nat) (L : List Cl) : List V := L.foldl (fun W c => W.set c.1.toNat (.str c.2)) (List.replicate r .non)
theorem wordsF_len (r : Nat) (L : List Cl) : (wordsF r L).length = r := by
  have key : ∀ (L : List Cl) (W : List V), (L.foldl (fun W c => W.set c.1.toNat (.str c.2)) W).length = W.length := by
    intro L
    induction L with
    | nil => intro W; rfl
    | cons c L ih =>
      intro W
      show (L.foldl _ (W.set c.1.toNat (.str c.2))).length = _
      rw [ih, List.length_set]
  unfold wordsF
  rw [key, List.length_replicate]
def InR (r : Nat) (L : List Cl) : Prop := ∀ c ∈ L, 0 ≤ c.1 ∧ c.1 < r
theorem wordsF_step {r : Nat} {L : List Cl} {j : Nat} {c : Cl} (g : L[j]? = some c) : wordsF r (L.take (j + 1)) = (wordsF r (L.take j)).set c.1.toNat (.str c.2) := by
  unfold wordsF
  rw [List.take_add_one, g, List.foldl_append]
  rfl
def spWds (C : Addr) : Sp := fun vs H Q _ => ∃ (p l : Addr) (us : List V) (L : List Cl) (r : Nat) (D : List Pr) (own : List Addr), vs = [.ref p, .ref l] ∧ HouseAt C H p r D own ∧ H l = some (.lst us) ∧ LG H us L ∧ InR r L ∧
  ∀ q H', Same H H' → H q = none → H' q = some (.lst (wordsF r L)) → Q (.ref q) H'
theorem ok_wds {f C : Addr} {fd : FuncData} (F : Fun K "words_of" "words_of" sWds f fd) (U : Hs K mg C) : FnOk P w K mg base CX0 1 f fd ["house", "log"] (spWds C) := by
  refine F.ok scWds (fun vs H Q E h => ?_) (fun cdv A outer s H vs Q E hr h => ?_)
  · obtain ⟨p, l, us, L, r, D, own, rfl, _⟩ := h
    rfl
  · obtain ⟨p, l, us, L, r, D, own, rfl, hh, hl, lg, inr, q⟩ := h
    obtain ⟨dx, l0, m0, ls, nss, h1, _⟩ := hh.ex
    have r12 := hh.r12
    refine ⟨_, (pss_cons (ps_set (i := 2) scWds.nd rfl (Or.inl rfl) (pe_op op_rep (pe_lst (pa_cons pe_non pa_nil)) (pe_fld (pv 0) rfl)))
      (pss_cons (ps_for PassesOwn.never rfl (pi_list (pv 1)) (pg_tup rfl (pgs_cons (pg_name (i := 3) scWds.nd rfl (Or.inl rfl)) (pgs_cons (pg_name (i := 4) scWds.nd rfl (Or.inl rfl)) pgs_nil)))
      (pss_one (ps_asg (pv 4) (pg_sub (pv 2) (pv 3) set_list))))
      (pss_one (ps_ret (pv 2))))), ?_⟩
    walk_at "rd"
    refine ⟨by decide, fun e ne => ?_⟩
    have s0 : Same H (upd H e (HO.lst [V.non])) := same_upd ne
    refine ⟨C, dx, _, s0 _ _ h1, U.cl, U.nR, .int r, hf_rooms _ _ _, e, r, [.non], rfl, rfl, upd_same, by omega, by omega, by show 1 * _ ≤ sizeLine; exact Nat.le_of_lt (len_big (by omega)), fun t nt => ?_⟩
    have s1 := s0.trans (same_upd (o := HO.lst (List.replicate (r : Int).toNat [V.non]).flatten) nt)
    have ft : H t = none := s0.free nt
    have e0 : (List.replicate (r : Int).toNat [V.non]).flatten = wordsF r [] := by
      rw [Int.toNat_natCast]
      show _ = List.replicate r V.non
      exact rep1 r V.non
    rw [e0] at s1 ⊢
    have htt : upd (upd H e (HO.lst [V.non])) t (HO.lst (wordsF r [])) t = some (.lst (wordsF r [])) := upd_same
    generalize upd (upd H e (HO.lst [V.non])) t (HO.lst (wordsF r [])) = H1 at s1 htt
    obtain ⟨Pv, hPv⟩ : ∃ Pv : Nat → L2.St → Hp → Prop, Pv = (fun i σ H' => ∃ v3 v4 : Option V, σ = [some (.ref p), some (.ref l), some (.ref t), v3, v4] ∧ Same H H' ∧ H' t = some (.lst (wordsF r (L.take i)))) := ⟨_, rfl⟩
    refine ⟨_, rfl, l, rfl, ⟨_, SqL.of (s1 _ _ hl)⟩, for_list (K := K) (a := l) (xs := us) Pv (by rw [hPv]; exact ⟨none, none, rfl, s1, htt⟩) (fun i σ H' _ pv => by rw [hPv] at pv; obtain ⟨_, _, _, sm, _⟩ := pv; exact SqL.of (sm _ _ hl)) (fun i v σ H' gv pv => ?_) (fun σ H' pv => ?_)⟩
    · have nxt : ∀ v3 v4 H', Same H H' → H' t = some (.lst (wordsF r (L.take (i + 1)))) → Pv (i + 1) [some (.ref p), some (.ref l), some (.ref t), v3, v4] H' := fun v3 v4 H' h1 h2 => by
        rw [hPv]
        exact ⟨v3, v4, rfl, h1, h2⟩
      rw [hPv] at pv
      obtain ⟨v3, v4, rfl, sm, ht⟩ := pv
      obtain ⟨c, gc, tc, rfl, htc⟩ := pget lg gv
      have rc := inr c (List.mem_of_getElem? gc)
      walk_at "rd"
      refine ⟨_, SqT.of (sm _ _ htc), rfl, _, _, rfl, _, _, rfl, rfl, ?_⟩
      walk_at "rd"
      refine ⟨_, ht, c.1.toNat, ixn (by omega) (by rw [wordsF_len]; omega), nxt _ _ _ (same_ch sm ft) ?_⟩
      rw [upd_same, wordsF_step gc]
    · rw [hPv] at pv
      obtain ⟨v3, v4, rfl, sm, ht⟩ := pv
      have ul : us.length = L.length := lg.len
      rw [ul, List.take_length] at ht
      walk_at "rd"
      exact q t H' sm ft ht
/-- the last call in any of the rooms -/
def lastIn (R : List Int) (L : List Cl) : Option Cl := L.reverse.find? fun c => decide (c.1 ∈ R)
def spLci (K : PySem.W.Frag) : Sp := fun vs H Q _ => ∃ (l o : Addr) (us : List V) (L : List Cl) (R : List Int), vs = [.ref l, .ref o] ∧ H l = some (.lst us) ∧ LG H us L ∧ (SqL K H o (R.map V.int) ∨ SqT K H o (R.map V.int)) ∧ (lastIn R L = none → Q .non H) ∧ (∀ t c, lastIn R L = some c → H t = some (.tup [.int c.1, .str c.2]) → Q (.ref t) H)
def optR (o : Option Cl) : V := match o with
  | none => .non
  | some c => .int c.1
def optW (o : Option Cl) : V := match o with
  | none => .non
  | some c => .str c.2
def spTopR (K : PySem.W.Frag) (g : Option Cl → V) : Sp := fun vs H Q _ => ∃ (l o : Addr) (us : List V) (L : List Cl) (R : List Int), vs = [.ref l, .ref o] ∧ H l = some (.lst us) ∧ LG H us L ∧ (SqL K H o (R.map V.int) ∨ SqT K H o (R.map V.int)) ∧ Q (g (lastIn R L)) H
theorem lastIn_at {H : Hp} {us : List V} {L : List Cl} {R : List Int} {c : Cl} (lg : LG H us L) (h : lastIn R L = some c) : ∃ t, H t = some (.tup [.int c.1, .str c.2]) := by
  unfold lastIn at h
  have m := List.mem_of_find?_eq_some h
  obtain ⟨i, g⟩ := List.getElem?_of_mem (List.mem_reverse.mp m)
  obtain ⟨v, _, t, _, e⟩ := pget2 lg g
  exact ⟨t, e⟩
def spLof (K : PySem.W.Frag) : Sp := fun vs H Q _ => ∃ (l o : Addr) (W : List V) (L : List Cl), vs = [.ref l, .ref o] ∧ H l = some (.lst W) ∧ H o = some (.tup (L.map fun c => V.int c.1)) ∧ L.length ≤ 1000 ∧ (∀ c ∈ L, 0 ≤ c.1 ∧ W[c.1.toNat]? = some (.str c.2)) ∧
  ∀ ws p H', Same H H' → H p = none → H' p = some (.lst ws) → LG H' ws L → Q (.ref p) H'
end
abbrev sLtop : Stmt := topS 0
abbrev sLwof : Stmt := topS 0
abbrev sLlast : Stmt := topS 34
abbrev sSpell : Stmt := topS 0
abbrev sPool : Stmt := topS 25
abbrev sSize : Stmt := topS 0
abbrev sDrawn : Stmt := topS 0
abbrev sChosen : Stmt := topS 0
theorem lastIn_step {R : List Int} {L : List Cl} {i : Nat} {c : Cl} (g : L[i]? = some c) : lastIn R (L.take (i + 1)) = if c.1 ∈ R then some c else lastIn R (L.take i) := by
  rw [List.take_add_one, g]
  unfold lastIn
  show List.find? _ (L.take i ++ [c]).reverse = _
  rw [List.reverse_append]
  show List.find? _ (c :: (L.take i).reverse) = _
  by_cases e : c.1 ∈ R
  · rw [List.find?_cons_of_pos (by simp [e]), if_pos e]
  · rw [List.find?_cons_of_neg (by simp [e]), if_neg e]
theorem cut_drop (xs : List V) (k : Nat) : cutV xs (some ((k : Nat) : Int)) none = xs.drop k := by
  unfold cutV
  rw [show HT.sIx xs.length 0 (some ((k : Nat) : Int)) = min k xs.length from HT.sIx_nat xs.length 0 k, HT.sIx_none]
  by_cases h : k ≤ xs.length
  · rw [Nat.min_eq_left h]
    refine List.take_of_length_le ?_
    rw [List.length_drop]
    exact Nat.le_refl _
  · rw [Nat.min_eq_right (by omega), List.drop_length, List.drop_eq_nil_of_le (by omega)]
    exact List.take_nil
theorem for_iter {wi : TI} {g : TG} {tb : TS} {D : Ends} {σ : L2.St} {H : Hp} (h : wi σ H fun J H1 => tFor (fun _ H R => R J H) g tb D σ H1) : tFor wi g tb D σ H := h
section
variable {P : Program} {w : World} {K : PySem.W.Frag} {mg : Str → Option Value} {base : Heap}
theorem scLlast : FnScope ["log", "last", "k", "later", "call"] ["log"] (defScope sLlast) := ⟨rfl, rfl, rfl, by decide +kernel, rfl, by decide +kernel, by decide +kernel⟩
theorem ok_llast {f : Addr} {fd : FuncData} (F : Fun K "_law_last" "_law_last" sLlast f fd) (T : Bi mg) : FnOk P w K mg base CX0 1 f fd ["log"] spLast := by
  refine F.ok scLlast (fun vs H Q E h => ?_) (fun cdv A outer s H vs Q E hr h => ?_)
  · obtain ⟨l, us, L, rfl, _⟩ := h
    rfl
  · obtain ⟨l, us, L, rfl, hl, lg, ln, q⟩ := h
    have ul : us.length = L.length := lg.len
    refine ⟨_, (pss_cons (ps_set (i := 1) scLlast.nd rfl (Or.inl rfl) (pe_lst pa_nil))
      (pss_cons (ps_for PassesOwn.never rfl (pi_range1 (by rfl) T.range (pa_cons (pe_callB call_len_seq (by rfl) T.len (by decide +kernel) (pa_cons (pv 0) pa_nil)) pa_nil)) (pg_name (i := 2) scLlast.nd rfl (Or.inr rfl))
      (pss_cons (ps_setLc (i := 3) (own := [("call", 4)]) (tt := tTest (tOp (rI0 fun i j => .bl (decide (i = j))) (tOp (rIxT K) (tVar 4) (tC (.int 0))) (tOp (rIxT K) (tOp (rIxL K) (tVar 0) (tVar 2)) (tC (.int 0))))) (by rfl) scLlast.nd rfl rfl (sw_true rfl rfl rfl (by decide +kernel)) (pi_list (pe_slice sl_list (pv 0) (po_some (pe_op op_add (pv 2) pe_int)) po_none)) (blkOk_by (N := ["log", "last", "k", "later", "call"]) (sc := defScope sLlast) (by decide +kernel)) (fun _ _ _ _ _ => pg_name (i := 4) scLlast.nd rfl (Or.inl rfl)) (fun _ _ _ _ _ => (pts_one (pt_cmpR op_eqI (pe_ix ix_tup (pv 4) pe_int (fun _ _ => rfl)) (pe_ix ix_tup (pe_ix ix_list (pv 0) (pv 2) (fun _ _ => rfl)) pe_int (fun _ _ => rfl)) (nomark _)))) (fun _ _ _ _ _ => (pv 4)))
        (pss_one (ps_if (pt_cmpR op_eqI (pe_callB call_len_seq (by rfl) T.len (by decide +kernel) (pa_cons (pv 3) pa_nil)) pe_int (nomark _))
        (pss_one (ps_expr (pe_bm PySem.F.plainAttrs_list PySem.F.slot_list_append PySem.F.type_list_append mt_append (pv 1) (pa_cons (pe_ix ix_list (pv 0) (pv 2) (fun _ _ => rfl)) pa_nil))))
        pss_nil))))
      (pss_one (ps_ret (pv 1))))), ?_⟩
    walk_at "rd"
    refine ⟨by decide, fun b nb => ?_⟩
    obtain ⟨Pv, hPv⟩ : ∃ Pv : Nat → L2.St → Hp → Prop, Pv = (fun i σ H' => ∃ (ws : List V) (A : List Cl) (v2 v3 : Option V), σ = [some (.ref l), some (.ref b), v2, v3, none] ∧ Same H H' ∧ H' b = some (.lst ws) ∧ LG H' ws A ∧ A ++ lastF (L.drop i) = lastF L) := ⟨_, rfl⟩
    refine ⟨_, rfl, l, rfl, us, .inl (SqL.of (same_upd nb _ _ hl)), us.length, rfl, by omega, by omega, for_range (lo := 0) (n := ((us.length : Nat) : Int).toNat) Pv (by rw [hPv]; exact ⟨[], [], none, none, rfl, same_upd nb, upd_same, LG.nil0 _, rfl⟩) (fun i σ H' hi pv => ?_) (fun σ H' pv => ?_)⟩
    · have nxt : ∀ ws A v2 v3 H', Same H H' → H' b = some (.lst ws) → LG H' ws A → A ++ lastF (L.drop (i + 1)) = lastF L → Pv (i + 1) [some (.ref l), some (.ref b), v2, v3, none] H' := fun ws A v2 v3 H' h1 h2 h3 h4 => by
        rw [hPv]
        exact ⟨ws, A, v2, v3, rfl, h1, h2, h3, h4⟩
      rw [hPv] at pv
      obtain ⟨ws, A, v2, v3, rfl, sm, hb, lw, eA⟩ := pv
      have hiL : i < L.length := by omega
      obtain ⟨c, gc⟩ : ∃ c, L[i]? = some c := ⟨_, List.getElem?_eq_getElem hiL⟩
      obtain ⟨v, gv, tc, rfl, htc⟩ := pget2 lg gc
      have hl' := sm _ _ hl
      have ed : L.drop i = c :: L.drop (i + 1) := by
        rw [List.drop_eq_getElem_cons hiL]
        congr 1
        rw [List.getElem?_eq_getElem hiL] at gc
        exact Option.some.inj gc
      have wl : ws.length ≤ 1000 := by
        have e1 := congrArg List.length eA
        have e2 := lastF_len L
        rw [List.length_append] at e1
        rw [lw.len]
        omega
      walk_at "rd"
      refine ⟨_, rfl, _, rfl, 0 + (i : Int), 1, rfl, rfl, 0 + (i : Int) + 1, rfl, l, us, rfl, SqL.of hl', fun e ne => ?_⟩
      have ek : 0 + (i : Int) + 1 = ((i + 1 : Nat) : Int) := by omega
      rw [ek, cut_drop]
      have s2 := sm.trans (same_upd (o := HO.lst (us.drop (i + 1))) ne)
      have he : upd H' e (HO.lst (us.drop (i + 1))) e = some (.lst (us.drop (i + 1))) := upd_same
      have hb2 : upd H' e (HO.lst (us.drop (i + 1))) b = some (.lst ws) := same_upd ne _ _ hb
      have lw2 := lw.kt (KT.new (o := HO.lst (us.drop (i + 1))) ne)
      generalize upd H' e (HO.lst (us.drop (i + 1))) = H2 at s2 he hb2 lw2
      have hl2 := s2 _ _ hl
      have htc2 := s2 _ _ htc
      refine ⟨e, rfl, ⟨_, SqL.of he⟩, fun g ng => ?_⟩
      obtain ⟨Pw, hPw⟩ : ∃ Pw : Nat → Hp → Prop, Pw = (fun j Hx => ∃ zs, Same H2 Hx ∧ Hx g = some (.lst zs) ∧ zs.length = (((L.drop (i + 1)).take j).filter fun d => decide (d.1 = c.1)).length) := ⟨_, rfl⟩
      refine lc_list (K := K) (a := e) (xs := us.drop (i + 1)) Pw (by rw [hPw]; exact ⟨[], same_upd ng, upd_same, rfl⟩) (fun j Hx _ pv => by rw [hPw] at pv; obtain ⟨_, s3, _⟩ := pv; exact SqL.of (s3 _ _ he)) (fun j v Hx gv2 pv => ?_) (fun Hx pv => ?_)
      · have nxw : ∀ zs Hx, Same H2 Hx → Hx g = some (.lst zs) → zs.length = (((L.drop (i + 1)).take (j + 1)).filter fun d => decide (d.1 = c.1)).length → Pw (j + 1) Hx := fun zs Hx h1 h2 h3 => by
          rw [hPw]
          exact ⟨zs, h1, h2, h3⟩
        rw [hPw] at pv
        obtain ⟨zs, s3, hg, lz⟩ := pv
        rw [List.getElem?_drop] at gv2
        obtain ⟨d, gd, td, rfl, htd⟩ := pget lg gv2
        have gd2 : (L.drop (i + 1))[j]? = some d := by rw [List.getElem?_drop]; exact gd
        have s03 := s2.trans s3
        have zl : zs.length ≤ 1000 := by
          have e1 := List.length_filter_le (fun d : Cl => decide (d.1 = c.1)) ((L.drop (i + 1)).take j)
          rw [List.length_take, List.length_drop] at e1
          omega
        simp only [wipe]
        walk_at "rd"
        refine ⟨_, SqT.of (s03 _ _ htd), .int d.1, rfl, _, SqL.of (s03 _ _ hl), .ref tc, at_of (j := i) (by omega) gv, tc, rfl, _, SqT.of (s03 _ _ htc), .int c.1, rfl, d.1, rfl, c.1, rfl, ?_⟩
        by_cases ee : d.1 = c.1
        · rw [if_pos ee]
          refine ⟨zs, hg, len_big (by omega), nxw _ _ (same_ch s3 ng) upd_same ?_⟩
          rw [List.take_add_one, gd2, List.filter_append, List.length_append, List.length_append, lz]
          show _ = _ + (List.filter _ [d]).length
          rw [List.filter_cons_of_pos (by simp [ee])]
          rfl
        · rw [if_neg ee]
          refine nxw zs _ s3 hg ?_
          rw [List.take_add_one, gd2, List.filter_append, List.length_append, lz]
          show _ = _ + (List.filter _ [d]).length
          rw [List.filter_cons_of_neg (by simp [ee])]
          rfl
      · rw [hPw] at pv
        obtain ⟨zs, s3, hg, lz⟩ := pv
        have e1 : (us.drop (i + 1)).length = (L.drop (i + 1)).length := by rw [List.length_drop, List.length_drop, ul]
        rw [e1, List.take_length] at lz
        have s03 := s2.trans s3
        have hb3 := s3 _ _ hb2
        walk_at "rd"
        refine ⟨zs, .inl (SqL.of hg), ?_⟩
        by_cases hm : c.1 ∈ (L.drop (i + 1)).map (·.1)
        · have pos : ¬ ((zs.length : Nat) : Int) = 0 := by
            intro z
            have z2 : (((L.drop (i + 1)).filter fun d => decide (d.1 = c.1))) = [] := List.eq_nil_of_length_eq_zero (by omega)
            obtain ⟨d, hd, ed2⟩ := List.mem_map.mp hm
            have : d ∈ (L.drop (i + 1)).filter fun d => decide (d.1 = c.1) := List.mem_filter.mpr ⟨hd, by simp [ed2]⟩
            rw [z2] at this
            cases this
          rw [if_neg pos]
          refine nxt ws A _ _ _ s03 hb3 (lw2.kt (KT.same s3)) ?_
          rw [ed] at eA
          rw [← eA]
          show _ = A ++ (if c.1 ∈ (L.drop (i + 1)).map (·.1) then lastF (L.drop (i + 1)) else c :: lastF (L.drop (i + 1)))
          rw [if_pos hm]
        · have zero : ((zs.length : Nat) : Int) = 0 := by
            have z2 : (((L.drop (i + 1)).filter fun d => decide (d.1 = c.1))) = [] := List.filter_eq_nil_iff.mpr fun d hd z => hm (List.mem_map.mpr ⟨d, hd, by simpa using z⟩)
            rw [z2] at lz
            rw [lz]
            rfl
          rw [if_pos zero]
          refine ⟨.inl ⟨rfl, _, SqL.of hb3⟩, _, SqL.of (s03 _ _ hl), .ref tc, at_of (j := i) (by omega) gv, ?_⟩
          refine ⟨ws, hb3, len_big (by omega), nxt (ws ++ [.ref tc]) (A ++ [c]) _ _ _ (same_ch s03 nb) upd_same ?_ ?_⟩
          · exact LG.snoc ((lw2.kt (KT.same s3)).kt (KT.lst hb3)) (IsC.kt (d := c) ⟨tc, rfl, s03 _ _ htc⟩ (KT.lst hb3))
          · rw [ed] at eA
            rw [← eA]
            show _ = A ++ (if c.1 ∈ (L.drop (i + 1)).map (·.1) then lastF (L.drop (i + 1)) else c :: lastF (L.drop (i + 1)))
            rw [if_neg hm, List.append_assoc]
            rfl
    · rw [hPv] at pv
      obtain ⟨ws, A, v2, v3, rfl, sm, hb, lw, eA⟩ := pv
      have e1 : L.drop ((us.length : Nat) : Int).toNat = [] := List.drop_eq_nil_of_le (by omega)
      rw [e1] at eA
      have eA2 : A = lastF L := by rw [← eA]; exact (List.append_nil A).symm
      rw [eA2] at lw
      walk_at "rd"
      exact q ws b H' sm nb hb lw
/-- a word: short, and its signs are signs -/
def wk (n : Nat) (z : Str) : Prop := z.length ≤ n ∧ PyData.strOk z = true
theorem wk.mono {n m : Nat} {z : Str} (h : wk n z) (l : n ≤ m) : wk m z := ⟨Nat.le_trans h.1 l, h.2⟩
theorem strOk_app {u v : Str} (h : PyData.strOk u = true) (k : PyData.strOk v = true) : PyData.strOk (u ++ v) = true := by
  show (u.cps ++ v.cps).all (· < 0x110000) = true
  rw [Array.all_append]
  show (PyData.strOk u && PyData.strOk v) = true
  rw [h, k]
  rfl
theorem wk_app {a b n : Nat} {u v : Str} (h : wk a u) (k : wk b v) (l : a + b ≤ n) : wk n (u ++ v) := ⟨by rw [Str.length_append]; have := h.1; have := k.1; omega, strOk_app h.2 k.2⟩
theorem wk_cut {n : Nat} {z : Str} (h : wk n z) (lo hi : Option Int) : wk n (cutS z lo hi) := by
  refine ⟨Nat.le_trans (cutS_length z lo hi) h.1, ?_⟩
  have h2 := h.2
  unfold PyData.strOk at h2 ⊢
  unfold cutS
  rw [Array.all_eq_true_iff_forall_mem] at h2 ⊢
  intro c hc
  refine h2 c ?_
  rw [Array.mem_def]
  simp only [List.mem_toArray] at hc
  exact List.mem_of_mem_drop (List.mem_of_mem_take hc)
theorem strOk_one {c : Nat} (h : c < 0x110000) : PyData.strOk (Str.mk #[c]) = true := by
  show (#[c] : Array Nat).all (· < 0x110000) = true
  simp [h]
def spSpell (K : PySem.W.Frag) : Sp := fun vs H Q _ => ∃ (a : Addr) (ns : List Int) (at_ : Nat), vs = [.ref a, .int at_] ∧ SqL K H a (ns.map V.int) ∧ at_ + 4 < ns.length ∧ ∀ z : Str, wk 8 z → Q (.str z) H
theorem letters_at {j : Nat} (h : j < 26) : ∃ c, atI (Str.ofString "abcdefghijklmnopqrstuvwxyz").cps.toList ((j : Nat) : Int) = some c ∧ c < 0x110000 := by
  have hl : (Str.ofString "abcdefghijklmnopqrstuvwxyz").cps.toList.length = 26 := by decide +kernel
  have ha : ((Str.ofString "abcdefghijklmnopqrstuvwxyz").cps.toList.all fun c => decide (c < 0x110000)) = true := by decide +kernel
  refine ⟨_, atI_nat (List.getElem?_eq_getElem (by rw [hl]; exact h)), ?_⟩
  exact of_decide_eq_true (List.all_eq_true.mp ha _ (List.getElem_mem _))
end

/-! ### own rules: data compared by <, len(set(tuple of ints)) -/
theorem pig : ∀ (ns K : List Int), K.Nodup → (∀ x ∈ K, x ∈ ns) → K.length ≤ ns.length
  | [], K, _, h => by
    cases K with
    | nil => exact Nat.le_refl _
    | cons a K => exact absurd (h a List.mem_cons_self) (by simp)
  | a :: ns, K, nd, h => by
    by_cases m : a ∈ K
    · have ih := pig ns (K.erase a) (nd.erase a) fun x hx => by
        have hx2 := (List.Nodup.mem_erase_iff nd).mp hx
        rcases List.mem_cons.mp (h x hx2.2) with e | e
        · exact absurd e hx2.1
        · exact e
      rw [List.length_erase_of_mem m] at ih
      have : 1 ≤ K.length := List.length_pos_of_mem m
      rw [List.length_cons]
      omega
    · have ih := pig ns K nd fun x hx => by
        rcases List.mem_cons.mp (h x hx) with e | e
        · rw [e] at hx; exact absurd hx m
        · exact e
      rw [List.length_cons]
      omega
theorem pig_nd : ∀ (ns K : List Int), K.Nodup → (∀ x ∈ K, x ∈ ns) → K.length = ns.length → ns.Nodup
  | [], K, _, _, _ => List.nodup_nil
  | a :: ns, K, nd, h, e => by
    have sub : a ∉ K → ∀ x ∈ K, x ∈ ns := fun m x hx => by
      rcases List.mem_cons.mp (h x hx) with z | z
      · rw [z] at hx; exact absurd hx m
      · exact z
    rw [List.length_cons] at e
    by_cases m : a ∈ K
    · by_cases r : a ∈ ns
      · have := pig ns K nd fun x hx => by
          rcases List.mem_cons.mp (h x hx) with z | z
          · rw [z]; exact r
          · exact z
        omega
      · refine List.nodup_cons.mpr ⟨r, pig_nd ns (K.erase a) (nd.erase a) (fun x hx => ?_) ?_⟩
        · have hx2 := (List.Nodup.mem_erase_iff nd).mp hx
          rcases List.mem_cons.mp (h x hx2.2) with z | z
          · exact absurd z hx2.1
          · exact z
        · rw [List.length_erase_of_mem m]
          omega
    · have := pig ns K nd (sub m)
      omega
theorem set_len {ns K : List Int} (nd : K.Nodup) (h : ∀ x, x ∈ ns ↔ x ∈ K) : K.length = ns.length ↔ ns.Nodup :=
  ⟨fun e => pig_nd ns K nd (fun x hx => (h x).mpr hx) e, fun n => Nat.le_antisymm (pig ns K nd fun x hx => (h x).mpr hx) (pig K ns n fun x hx => (h x).mp hx)⟩
def tLenSetT (K : PySem.W.Frag) (ta : TE) : TE := fun σ H Q => ta σ H fun x H1 => ∃ (l : Addr) (ns : List Int), x = V.ref l ∧ SqT K H1 l (ns.map V.int) ∧ ns.length ≤ 1000 ∧ ∀ m : Nat, (m = ns.length ↔ ns.Nodup) → Q (.int m) H1
theorem pe_lenSetT {X : Cx} {a : Expr} {ta : TE} {p p2 q pos : Pos} (hg : Gl X "len") (hm : X.mg "len" = none) (hg2 : Gl X "set") (hm2 : X.mg "set" = none) (ha : PE X a ta) (hc : X.calm = true := by rfl)
    (na : starEach [a] X.env = (false, eval a X.env) :: starEach [] X.env := by rfl) : PE X (.Call (.Name "len" p) [.Call (.Name "set" p2) [a] [] q] [] pos) (tLenSetT X.K ta) := by
  refine ⟨fun pins s σ H Q I h => ?_⟩
  refine Call_ (ld_blt I hg hm boot_len ?_)
  refine PyProof.Rows.callWith_builtin1 (PyProof.Rows.args_cons ?_ rfl) rfl rfl
  refine Call_ (ld_blt I hg2 hm2 boot_set ?_)
  refine PyProof.Rows.callWith_type1 (PyProof.Rows.args_cons (thn (ha.run pins s σ H _ I h) fun v s1 ⟨x, H1, I1, r1, q1⟩ => PyProof.Rows.args_nil ?_) na) na rfl
  obtain ⟨l, ns, rfl, hq, hl, q1⟩ := q1
  cases r1
  obtain ⟨its, r, pl, hz⟩ := I1.tuple hq
  refine call_set_tupI ns (I1.ok.hd hc) pl (by simpa using ints_of_vals r) (by unfold scanBound; omega) fun h' tk c hS hle hk => ?_
  refine PyProof.Rows.args_nil ?_
  obtain ⟨o, es, ep, t, ho, hex, hd, _, nd, mem, _, hf, hn, _⟩ := hS
  have I2 : Inv X pins σ H1 { s1 with heap := h', toks := tk } := I1.kept fun b o e => hk b o e
  refine call_len_set ho hex hd hf (by rw [hn] <;> omega) ⟨.int c, H1, I2.tok _, ⟨_, by rw [hn]⟩, q1 c ?_⟩
  have e := set_len nd (ns := ns) fun x => by rw [← mem x, decide_eq_true_iff]
  rw [List.length_map, Array.length_toList, hn] at e
  exact e
def rLtD (K : PySem.W.Frag) (n : Nat) : R2 := fun x y H Q => ∃ d e, Dp K H x d ∧ Dp K H y e ∧ PySem.W.alike d e = true ∧ d ≠ .none ∧ d.depth ≤ n ∧ Q (.bl (PySem.W.dataLt d e)) H
theorem op_ltD {X : Cx} {n : Nat} (hu : X.A.units + n < cLine) : OpR X (compareOp .Lt) (rLtD X.K n) := by
  intro pins s σ H x y v u Q I rx ry h
  obtain ⟨d, e, hd, he, al, nn, dep, q⟩ := h
  obtain ⟨as, r1⟩ := Dp.reads I d x v hd rx
  obtain ⟨bs, r2⟩ := Dp.reads I e y u he ry
  exact PySem.W.lt_data r1 r2 al nn (by have := Nat.min_le_left d.depth e.depth; omega) ⟨.bl _, H, I, rfl, q⟩

abbrev sHall : Stmt := topS 17
abbrev sLp : Stmt := topS 15
/-- the place of the last call in a room -/
def placeF : List Cl → Int → Option Nat := fun L r => (List.range L.length).reverse.find? fun i => decide ((L[i]?.map (·.1)) = some r)
/-- a dict that says it -/
def PlD (H : Hp) (d : Addr) (L : List Cl) : Prop := ∃ kvs : List (Key × V), H d = some (.dK kvs) ∧ ∀ r : Int, valV kvs (Sum.inl r : Key) = (placeF L r).map fun i : Nat => V.int i
theorem find_ext {α : Type} {p q : α → Bool} : ∀ l : List α, (∀ a ∈ l, p a = q a) → l.find? p = l.find? q
  | [], _ => rfl
  | a :: l, h => by
    rw [List.find?_cons, List.find?_cons, h a List.mem_cons_self, find_ext l fun b hb => h b (List.mem_cons_of_mem _ hb)]
theorem placeF_snoc (L : List Cl) (c : Cl) (r : Int) : placeF (L ++ [c]) r = if c.1 = r then some L.length else placeF L r := by
  unfold placeF
  rw [List.length_append, List.length_singleton, List.range_succ, List.reverse_append]
  show List.find? _ (L.length :: (List.range L.length).reverse) = _
  have hl : ((L ++ [c])[L.length]?.map (·.1)) = some c.1 := by simp
  by_cases h : c.1 = r
  · rw [List.find?_cons_of_pos (by rw [hl, h]; simp), if_pos h]
  · rw [List.find?_cons_of_neg (by rw [hl]; simp [h]), if_neg h]
    refine find_ext _ fun i hi => ?_
    have : i < L.length := by simpa using hi
    rw [List.getElem?_append_left this]
theorem dc_enum {K : PySem.W.Frag} {a : Addr} {xs : List V} {g : TG} {tt : TT} {tk tv : TE} {vs : List Nat} {σ : L2.St} {H1 : Hp} {D : Addr} {Qd : Hp → Prop} (Pv : Nat → Hp → Prop) (h0 : Pv 0 (upd H1 D (.dK []))) (hl : ∀ i H, i ≤ xs.length → Pv i H → SqL K H a xs)
    (hs : ∀ (i : Nat) x (t : Addr) H, xs[i]? = some x → Pv i H → H t = none → g (.ref t) (wipe σ vs) (upd H t (.tup [.int (i : Nat), x])) fun σ2 H2 => wipe σ2 vs = wipe σ vs ∧ tt σ2 H2 fun b H3 =>
      if b = true then tk σ2 H3 fun y H4 => tv σ2 H4 fun z H5 => ∃ kvs k, y = kV k ∧ H5 D = some (.dK kvs) ∧ kvs.length < sizeLine ∧ Pv (i + 1) (upd H5 D (.dK (putK kvs k z))) else Pv (i + 1) H3) (hd : ∀ H, Pv xs.length H → Qd H) :
    ∃ W : Nat → Nat → Hp → Prop, (∃ m, W 0 m (upd H1 D (.dK []))) ∧ ∀ i m H, W i m H →
      ((Ite K a).stop i H ∧ Qd H) ∨ ((Ite K a).go i H ∧ ∃ Nx : Hp → Prop, (∀ H', Nx H' → ∃ m', m' < m ∧ W (i + 1) m' H') ∧ ∀ x H', (Ite K a).yld i H x H' → g x (wipe σ vs) H' fun σ2 H2 => wipe σ2 vs = wipe σ vs ∧ tt σ2 H2 fun b H3 =>
        if b = true then tk σ2 H3 fun y H4 => tv σ2 H4 fun z H5 => ∃ kvs k, y = kV k ∧ H5 D = some (.dK kvs) ∧ kvs.length < sizeLine ∧ Nx (upd H5 D (.dK (putK kvs k z))) else Nx H3) := by
  refine ⟨fun i m H => m = xs.length - i ∧ i ≤ xs.length ∧ Pv i H, ⟨xs.length, by simp, Nat.zero_le _, h0⟩, ?_⟩
  rintro i m H ⟨rfl, hi, p⟩
  have q := hl i H hi p
  by_cases hlt : i < xs.length
  · refine .inr ⟨⟨xs, xs[i], q, List.getElem?_eq_getElem hlt⟩, Pv (i + 1), fun H' p' => ⟨xs.length - (i + 1), by omega, rfl, hlt, p'⟩, ?_⟩
    rintro v H' ⟨t, x, rfl, nt, rfl, f⟩
    exact hs i x t H (f xs q) p nt
  · have e : i = xs.length := by omega
    subst e
    exact .inl ⟨⟨xs, q, Nat.le_refl _⟩, hd H p⟩
theorem lcW {wi : TI} {g : TG} {tt : TT} {te : TE} {vs : List Nat} {σ : L2.St} {H : Hp} {Q : VK} (h : wi σ H fun J H1 => tLc (fun _ H R => R J H) g tt te vs σ H1 Q) : tLc wi g tt te vs σ H Q := h
section
variable {P : Program} {w : World} {K : PySem.W.Frag} {mg : Str → Option Value} {base : Heap}
theorem scLp : FnScope ["log", "place", "room", "_"] ["log"] (defScope sLp) := ⟨rfl, rfl, rfl, by decide +kernel, rfl, by decide +kernel, by decide +kernel⟩
def spLp : Sp := fun vs H Q _ => ∃ (l : Addr) (us : List V) (L : List Cl), vs = [.ref l] ∧ H l = some (.lst us) ∧ LG H us L ∧ L.length ≤ 1000 ∧ ∀ d H', Same H H' → H d = none → PlD H' d L → Q (.ref d) H'
theorem ok_lp {f : Addr} {fd : FuncData} (F : Fun K "last_places" "last_places" sLp f fd) (T : Bi mg) : FnOk P w K mg base CX0 1 f fd ["log"] spLp := by
  refine F.ok scLp (fun vs H Q E h => ?_) (fun cdv A outer s H vs Q E hr h => ?_)
  · obtain ⟨l, us, L, rfl, _⟩ := h
    rfl
  · obtain ⟨l, us, L, rfl, hl, lg, len, ret⟩ := h
    refine ⟨_, (pss_one (ps_ret (pe_dc (own := [("place", 1), ("room", 2), ("_", 3)]) (g := gTup K 2 (gCons (gName 1) (gCons (gTup K 2 (gCons (gName 2) (gCons (gName 3) gNil))) gNil))) (by rfl) scLp.nd (pi_enum (by rfl) T.enumerate (pa_cons (pv 0) pa_nil)) (blkOk_by (N := ["log", "place", "room", "_"]) (sc := defScope sLp) (by decide +kernel)) (fun _ _ _ _ _ => pg_tup rfl (pgs_cons (pg_name (i := 1) scLp.nd rfl (Or.inl rfl)) (pgs_cons (pg_tup rfl (pgs_cons (pg_name (i := 2) scLp.nd rfl (Or.inl rfl)) (pgs_cons (pg_name (i := 3) scLp.nd rfl (Or.inl rfl)) pgs_nil))) pgs_nil))) (fun _ _ _ _ _ => pts_nil) (fun _ _ _ _ _ => (pv 2)) (fun _ _ _ _ _ => (pv 1))))), ?_⟩
    walk_at "rd"
    have ul : us.length = L.length := lg.len
    refine ⟨_, rfl, l, us, rfl, SqL.of hl, fun D nD => ?_⟩
    obtain ⟨Pv, hPv⟩ : ∃ Pv : Nat → Hp → Prop, Pv = (fun i H' => Same H H' ∧ ∃ kvs : List (Key × V), H' D = some (.dK kvs) ∧ kvs.length ≤ i ∧ ∀ r : Int, valV kvs (Sum.inl r : Key) = (placeF (L.take i) r).map fun i : Nat => V.int i) := ⟨_, rfl⟩
    refine dc_enum (xs := us) Pv (by rw [hPv]; exact ⟨same_upd nD, [], upd_same, Nat.zero_le _, fun r => rfl⟩) (fun i H' _ pv => by rw [hPv] at pv; exact SqL.of (pv.1 _ _ hl)) (fun i v t H' gv pv nt => ?_) (fun H' pv => ?_)
    · rw [hPv] at pv
      obtain ⟨sm, kvs, hD, kl, kv⟩ := pv
      obtain ⟨c, gc, tc, rfl, htc⟩ := pget lg gv
      have il : i < L.length := (List.getElem?_eq_some_iff.mp gc).1
      have htc1 := sm _ _ htc
      have s1 := same_upd (o := HO.tup [V.int (i : Nat), V.ref tc]) nt
      simp only [wipe]
      walk_at "rd"
      refine ⟨_, SqT.of upd_same, rfl, _, _, rfl, _, _, rfl, tc, rfl, _, SqT.of (s1 _ _ htc1), rfl, _, _, rfl, _, _, rfl, ?_⟩
      refine ⟨rfl, rfl, ?_⟩
      rw [if_pos trivial]
      refine ⟨kvs, Sum.inl c.1, rfl, s1 _ _ hD, len_big (by omega), ?_⟩
      rw [hPv]
      refine ⟨same_ch (sm.trans s1) nD, _, upd_same, (by have := length_putK kvs (Sum.inl c.1 : Key) (V.int (i : Nat)); omega), fun r => ?_⟩
      rw [valV_put, List.take_add_one, gc]
      show _ = (placeF (L.take i ++ [c]) r).map _
      rw [placeF_snoc, List.length_take, Nat.min_eq_left (by omega), kv r]
      by_cases h : c.1 = r
      · rw [if_pos h, if_pos (by rw [h])]
        rfl
      · rw [if_neg h, if_neg (fun z => h (Sum.inl.inj z).symm)]
    · rw [hPv] at pv
      obtain ⟨sm, kvs, hD, kl, kv⟩ := pv
      rw [ul, List.take_length] at kv
      exact ret D H' sm nD ⟨kvs, hD, kv⟩
theorem scHall : FnScope ["house", "first", "second", "pair", "x", "y", "before", "after", "room"] ["house", "first", "second", "pair"] (defScope sHall) := ⟨rfl, rfl, rfl, by decide +kernel, rfl, by decide +kernel, by decide +kernel⟩
def placeI (L : List Cl) (r : Int) : Int := match placeF L r with
  | some i => (i : Int)
  | none => -1
theorem place_getD {kv : List (Key × V)} {L : List Cl} (g : ∀ r : Int, valV kv (Sum.inl r : Key) = (placeF L r).map fun i : Nat => V.int i) (z : Int) : (valV kv (Sum.inl z : Key)).getD (V.int (-1)) = V.int (placeI L z) := by
  rw [g]
  unfold placeI
  cases placeF L z <;> rfl
theorem place_some {kv : List (Key × V)} {L : List Cl} (g : ∀ r : Int, valV kv (Sum.inl r : Key) = (placeF L r).map fun i : Nat => V.int i) {x : Int} (h : (placeF L x).isSome) : valV kv (Sum.inl x : Key) = some (V.int (placeI L x)) := by
  rw [g]
  unfold placeI
  cases e : placeF L x with
  | none => rw [e] at h; cases h
  | some i => rfl
/-- the hall of a pair -/
def hallF (r : Nat) (A B : List Cl) (x y : Int) : List Int := (rg r).filter fun z => decide (placeI A z ≤ placeI A x) && decide (placeI B z ≤ placeI B y)
def spHall (C : Addr) : Sp := fun vs H Q _ => ∃ (p a b t : Addr) (x y : Int) (us ws : List V) (A B : List Cl) (r : Nat) (D : List Pr) (own : List Addr), vs = [.ref p, .ref a, .ref b, .ref t] ∧ HouseAt C H p r D own ∧ H a = some (.lst us) ∧ LG H us A ∧ A.length ≤ 1000 ∧ H b = some (.lst ws) ∧ LG H ws B ∧ B.length ≤ 1000 ∧ H t = some (.tup [.int x, .int y]) ∧ (placeF A x).isSome ∧ (placeF B y).isSome ∧ ∀ o H', Same H H' → H o = none → H' o = some (.lst ((hallF r A B x y).map V.int)) → Q (.ref o) H'
theorem ok_hall {f C fL : Addr} {fd fdL : FuncData} (F : Fun K "hall" "hall" sHall f fd) (T : Bi mg) (U : Hs K mg C) (d_last_places : Df P w K mg base "last_places" ["log"] 1 spLp fL fdL) : FnOk P w K mg base CX0 2 f fd ["house", "first", "second", "pair"] (spHall C) := by
  refine F.ok scHall (fun vs H Q E h => ?_) (fun cdv A0 outer s H vs Q E hr h => ?_)
  · obtain ⟨p, a, b, t, x, y, us, ws, A, B, r, D, own, rfl, _⟩ := h
    rfl
  · obtain ⟨p, a, b, t, x, y, us, ws, A, B, r, D, own, rfl, hh, ha, la, al, hb, lb, bl, ht, px, py, ret⟩ := h
    refine ⟨_, (pss_cons (ps_asg (pv 3) (pg_tup rfl (pgs_cons (pg_name (i := 4) scHall.nd rfl (Or.inr rfl)) (pgs_cons (pg_name (i := 5) scHall.nd rfl (Or.inr rfl)) pgs_nil))))
      (pss_cons (ps_set (i := 6) scHall.nd rfl (Or.inr rfl) (pe_call d_last_places.ok (hr.mono (by decide)) (by rfl) d_last_places.at_ d_last_places.kp d_last_places.b .nil pass0 (pa_cons (pv 1) pa_nil)))
      (pss_cons (ps_set (i := 7) scHall.nd rfl (Or.inr rfl) (pe_call d_last_places.ok (hr.mono (by decide)) (by rfl) d_last_places.at_ d_last_places.kp d_last_places.b .nil pass0 (pa_cons (pv 2) pa_nil)))
      (pss_one (ps_ret (pe_lc (own := [("room", 8)]) (by rfl) scHall.nd (pi_range1 (by rfl) T.range (pa_cons (pe_fld (pv 0) rfl) pa_nil)) (blkOk_by (N := ["house", "first", "second", "pair", "x", "y", "before", "after", "room"]) (sc := defScope sHall) (by decide +kernel)) (fun _ _ _ _ _ => pg_name (i := 8) scHall.nd rfl (Or.inl rfl)) (fun _ _ _ _ _ => (pts_one (PW.pt (pw_and (pt_cmpR op_le (pe_dget2 (u1 hr.units) (pv 6) (pv 8) (pe_un un_neg pe_int) ⟨by rfl, by rfl, by rfl, by rfl⟩) (pe_dget (u1 hr.units) (pv 6) (pv 4) (fun _ _ => rfl)) (nomark _)) (pw_and1 (pt_cmpR op_le (pe_dget2 (u1 hr.units) (pv 7) (pv 8) (pe_un un_neg pe_int) ⟨by rfl, by rfl, by rfl, by rfl⟩) (pe_dget (u1 hr.units) (pv 7) (pv 5) (fun _ _ => rfl)) (nomark _))))))) (fun _ _ _ _ _ => (pv 8)))))))), ?_⟩
    walk_at "rd"
    refine ⟨_, SqT.of ht, rfl, .int x, [.int y], rfl, .int y, [], rfl, rfl, ?_⟩
    refine ⟨a, us, A, rfl, ha, la, al, fun d1 H1 s1 n1 pd1 => ?_⟩
    refine ⟨b, ws, B, rfl, s1 _ _ hb, lb.kt (KT.same s1), bl, fun d2 H2 s2 n2 pd2 => ?_⟩
    obtain ⟨kv1, hd1, g1⟩ := pd1
    obtain ⟨kv2, hd2, g2⟩ := pd2
    have hd1 := s2 _ _ hd1
    have s12 := s1.trans s2
    have hh2 := hh.same s12
    obtain ⟨dx, l0, m0, ls, nss, h1, _⟩ := hh2.ex
    have r12 := hh.r12
    refine lcW ?_
    walk_at "rd"
    refine ⟨C, dx, _, h1, U.cl, U.nR, .int r, hf_rooms _ _ _, r, rfl, by omega, by omega, fun c nc => ?_⟩
    obtain ⟨Pv, hPv⟩ : ∃ Pv : Nat → Hp → Prop, Pv = (fun j Hx => Same H2 Hx ∧ Hx c = some (.lst ((((List.range j).map fun i : Nat => (i : Int)).filter fun z => decide (placeI A z ≤ placeI A x) && decide (placeI B z ≤ placeI B y)).map V.int))) := ⟨_, rfl⟩
    refine lc_range (lo := 0) (n := (r : Int).toNat) Pv (by rw [hPv]; exact ⟨same_upd nc, upd_same⟩) (fun j Hx hj pv => ?_) (fun Hx pv => ?_)
    · rw [hPv] at pv
      obtain ⟨sx, hc⟩ := pv
      simp only [wipe]
      unfold tDGet2 tDGet
      walk_at "rd"
      have dl : ((((List.range j).map fun i : Nat => (i : Int)).filter fun z => decide (placeI A z ≤ placeI A x) && decide (placeI B z ≤ placeI B y)).map V.int).length < sizeLine := len_big (by
        rw [List.length_map]
        have := List.length_filter_le (fun z => decide (placeI A z ≤ placeI A x) && decide (placeI B z ≤ placeI B y)) ((List.range j).map fun i : Nat => (i : Int))
        rw [List.length_map, List.length_range] at this
        omega)
      have step : (((List.range (j + 1)).map fun i : Nat => (i : Int)).filter fun z => decide (placeI A z ≤ placeI A x) && decide (placeI B z ≤ placeI B y)) = (((List.range j).map fun i : Nat => (i : Int)).filter fun z => decide (placeI A z ≤ placeI A x) && decide (placeI B z ≤ placeI B y)) ++ (if placeI A (j : Int) ≤ placeI A x ∧ placeI B (j : Int) ≤ placeI B y then [(j : Int)] else []) := by
        rw [List.range_succ, List.map_append, List.filter_append]
        congr 1
        show List.filter _ [(j : Int)] = _
        by_cases h : placeI A (j : Int) ≤ placeI A x ∧ placeI B (j : Int) ≤ placeI B y
        · rw [if_pos h, List.filter_cons_of_pos (by simp [h.1, h.2]), List.filter_nil]
        · rw [if_neg h, List.filter_cons_of_neg (by simpa using h), List.filter_nil]
      have no : ¬ (placeI A (j : Int) ≤ placeI A x ∧ placeI B (j : Int) ≤ placeI B y) → Pv (j + 1) Hx := fun h => by
        rw [hPv]
        refine ⟨sx, ?_⟩
        rw [step, if_neg h, List.append_nil]
        exact hc
      rw [Int.zero_add]
      refine ⟨.inl ⟨kv1, .inl (sx _ _ hd1)⟩, _, DGet.k (k := Sum.inl (j : Int)) (sx _ _ hd1), .int (placeI A x), (by rw [← place_some g1 px]; exact DGet.k (k := Sum.inl x) (sx _ _ hd1)), placeI A (j : Int), place_getD g1 _, placeI A x, rfl, ?_⟩
      by_cases c1 : placeI A (j : Int) ≤ placeI A x
      rotate_left
      · rw [if_neg c1, if_neg (show ¬ False from id)]
        exact no fun z => c1 z.1
      rw [if_pos c1]
      refine ⟨.inl ⟨kv2, .inl (sx _ _ hd2)⟩, _, DGet.k (k := Sum.inl (j : Int)) (sx _ _ hd2), .int (placeI B y), (by rw [← place_some g2 py]; exact DGet.k (k := Sum.inl y) (sx _ _ hd2)), placeI B (j : Int), place_getD g2 _, placeI B y, rfl, ?_⟩
      by_cases c2 : placeI B (j : Int) ≤ placeI B y
      rotate_left
      · rw [if_neg c2]
        exact no fun z => c2 z.2
      rw [if_pos c2]
      refine ⟨_, hc, dl, ?_⟩
      rw [hPv]
      refine ⟨same_ch sx nc, ?_⟩
      rw [upd_same, step, if_pos ⟨c1, c2⟩, List.map_append]
      rfl
    · rw [hPv] at pv
      obtain ⟨sx, hc⟩ := pv
      refine ret c Hx (s12.trans sx) (s12.free nc) ?_
      rw [show (r : Int).toNat = r by omega] at hc
      exact hc
end

abbrev sCrp : Stmt := topS 16
/-- the word of the last call in a room -/
def wordL (L : List Cl) (r : Int) : Option Str := (lastIn [r] L).map (·.2)
def crossB (A B : List Cl) (x y : Int) : Bool := decide (wordL A x ≠ wordL A y) && (decide (placeI A y < placeI A x) && decide (placeI B x < placeI B y))
def crossR (A B : List Cl) (rs : List Int) (x : Int) : List Pr := (rs.filter fun y => crossB A B x y).map fun y => (x, y)
def crossF (A B : List Cl) (rs : List Int) : List Pr := rs.flatMap (crossR A B rs)
theorem wordL_cons (c : Cl) (S : List Cl) (x : Int) : wordL (c :: S) x = match wordL S x with
    | some w => some w
    | none => if c.1 = x then some c.2 else none := by
  unfold wordL lastIn
  rw [List.reverse_cons, List.find?_append]
  cases e : S.reverse.find? (fun c => decide (c.1 ∈ [x])) with
  | some w => rfl
  | none =>
    show Option.map (fun x : Cl => x.2) (List.find? (fun c : Cl => decide (c.1 ∈ [x])) [c]) = if c.1 = x then some c.2 else none
    by_cases h : c.1 = x
    · rw [List.find?_cons_of_pos (by simp [h])]
      simp [h]
    · rw [List.find?_cons_of_neg (by simp [h])]
      simp [h]
theorem wordL_none {L : List Cl} {x : Int} : wordL L x = none ↔ x ∉ L.map (·.1) := by
  induction L with
  | nil => simp [wordL, lastIn]
  | cons c S ih =>
    rw [wordL_cons]
    cases e : wordL S x with
    | some w =>
      have : ¬ wordL S x = none := by rw [e]; simp
      have h := fun z => this (ih.mpr z)
      simp only [reduceCtorEq, List.map_cons, List.mem_cons, not_or, false_iff, not_and]
      exact fun _ => h
    | none =>
      have h := ih.mp e
      by_cases c1 : c.1 = x
      · simp [c1]
      · have c2 : ¬ x = c.1 := fun z => c1 z.symm
        simp only [if_neg c1, List.map_cons, List.mem_cons, not_or, true_iff]
        exact ⟨c2, h⟩
theorem lastF_mem (L : List Cl) (x : Int) : x ∈ (lastF L).map (·.1) ↔ x ∈ L.map (·.1) := by
  induction L with
  | nil => exact Iff.rfl
  | cons c S ih =>
    show x ∈ (if c.1 ∈ S.map (·.1) then lastF S else c :: lastF S).map (·.1) ↔ _
    by_cases h : c.1 ∈ S.map (·.1)
    · rw [if_pos h, ih, List.map_cons, List.mem_cons]
      exact ⟨.inr, fun z => z.elim (fun e => by rw [e]; exact h) id⟩
    · rw [if_neg h, List.map_cons, List.map_cons, List.mem_cons, List.mem_cons, ih]
theorem lastF_nd (L : List Cl) : ((lastF L).map (·.1)).Nodup := by
  induction L with
  | nil => exact List.nodup_nil
  | cons c S ih =>
    show ((if c.1 ∈ S.map (·.1) then lastF S else c :: lastF S).map (·.1)).Nodup
    by_cases h : c.1 ∈ S.map (·.1)
    · rw [if_pos h]; exact ih
    · rw [if_neg h, List.map_cons]
      exact List.nodup_cons.mpr ⟨fun z => h ((lastF_mem S c.1).mp z), ih⟩
abbrev kvOf (c : Cl) : Key × V := (Sum.inl c.1, V.str c.2)
theorem lastF_val (L : List Cl) (x : Int) : valV ((lastF L).map kvOf) (Sum.inl x : Key) = (wordL L x).map V.str := by
  induction L with
  | nil => rfl
  | cons c S ih =>
    show valV ((if c.1 ∈ S.map (·.1) then lastF S else c :: lastF S).map kvOf) _ = _
    rw [wordL_cons]
    by_cases h : c.1 ∈ S.map (·.1)
    · rw [if_pos h, ih]
      cases e : wordL S x with
      | some w => rfl
      | none =>
        have c1 : ¬ c.1 = x := fun z => wordL_none.mp e (by rw [← z]; exact h)
        simp only [if_neg c1]
    · rw [if_neg h, List.map_cons]
      by_cases c1 : c.1 = x
      · have e : wordL S x = none := wordL_none.mpr (by rw [← c1]; exact h)
        rw [valV_pos (by show (Sum.inl c.1 : Key) = Sum.inl x; rw [c1]), e]
        simp only [if_pos c1]
        rfl
      · rw [valV_neg (by show ¬ (Sum.inl c.1 : Key) = Sum.inl x; exact fun z => c1 (Sum.inl.inj z)), ih]
        cases e : wordL S x with
        | some w => rfl
        | none => simp only [if_neg c1]
theorem merge_nd : ∀ (more acc : List (Key × V)), (more.map (·.1)).Nodup → (∀ k ∈ more.map (·.1), k ∉ acc.map (·.1)) → mergeK acc more = acc ++ more
  | [], acc, _, _ => (List.append_nil acc).symm
  | kv :: more, acc, nd, dis => by
    show mergeK (putK acc kv.1 kv.2) more = _
    have hk := dis kv.1 List.mem_cons_self
    have e : putK acc kv.1 kv.2 = acc ++ [kv] := by
      unfold putK
      rw [if_neg]
      intro z
      obtain ⟨q, hq, hq2⟩ := List.any_eq_true.mp z
      exact hk (List.mem_map.mpr ⟨q, hq, of_decide_eq_true hq2⟩)
    have nd2 := List.nodup_cons.mp nd
    rw [e, merge_nd more (acc ++ [kv]) nd2.2 fun k hk2 z => ?_, List.append_assoc]
    · rfl
    · rw [List.map_append] at z
      rcases List.mem_append.mp z with z | z
      · exact dis k (List.mem_cons_of_mem _ hk2) z
      · have : k = kv.1 := by simpa using z
        rw [this] at hk2
        exact nd2.1 hk2
theorem lg_refs {K : PySem.W.Frag} {H : Hp} : ∀ {zs : List V} {D : List Cl}, LG H zs D → ∃ ps : List Addr, zs = ps.map V.ref ∧ Paired (fun p (kv : Key × V) => SqT K H p [kV kv.1, kv.2]) ps (D.map kvOf)
  | _, _, Paired.nil => ⟨[], rfl, .nil⟩
  | _, _, Paired.cons r t => by
    obtain ⟨tc, rfl, h⟩ := r
    obtain ⟨ps, e, pr⟩ := lg_refs (K := K) t
    exact ⟨tc :: ps, by rw [e]; rfl, .cons (SqT.of h) pr⟩
theorem in_list {K : PySem.W.Frag} {a : Addr} {xs : List V} {g : TG} {tt : TT} {te : TE} {vs : List Nat} {σ : L2.St} {H : Hp} {D : Addr} {Nx : Hp → Prop} (Pv : Nat → Hp → Prop) (h0 : Pv 0 H) (hl : ∀ i H, i ≤ xs.length → Pv i H → SqL K H a xs)
    (hs : ∀ i x H, xs[i]? = some x → Pv i H → g x (wipe σ vs) H fun σ2 H2 => wipe σ2 vs = wipe σ vs ∧ tt σ2 H2 fun b H3 => if b = true then te σ2 H3 fun y H4 => ∃ acc, H4 D = some (.lst acc) ∧ acc.length < sizeLine ∧ Pv (i + 1) (upd H4 D (.lst (acc ++ [y]))) else Pv (i + 1) H3)
    (hd : ∀ H, Pv xs.length H → Nx H) :
    ∃ W : Nat → Nat → Hp → Prop, (∃ m, W 0 m H) ∧ ∀ j k H, W j k H → ((Itl K a).stop j H ∧ Nx H) ∨ ((Itl K a).go j H ∧ ∃ N1 : Hp → Prop, (∀ H', N1 H' → ∃ k', k' < k ∧ W (j + 1) k' H') ∧ ∀ x H', (Itl K a).yld j H x H' → g x (wipe σ vs) H' fun σ3 H5 => wipe σ3 vs = wipe σ vs ∧ tt σ3 H5 fun b H6 =>
      if b = true then te σ3 H6 fun y H7 => ∃ acc, H7 D = some (.lst acc) ∧ acc.length < sizeLine ∧ N1 (upd H7 D (.lst (acc ++ [y]))) else N1 H6) := by
  refine ⟨fun i m H => m = xs.length - i ∧ i ≤ xs.length ∧ Pv i H, ⟨xs.length, rfl, Nat.zero_le _, h0⟩, ?_⟩
  rintro i m H ⟨rfl, hi, p⟩
  have q := hl i H hi p
  by_cases lt : i < xs.length
  · refine .inr ⟨⟨xs, xs[i], q, by simp [lt]⟩, Pv (i + 1), fun H' q => ⟨xs.length - (i + 1), by omega, rfl, lt, q⟩, ?_⟩
    rintro v H' ⟨rfl, ev⟩
    exact hs i v _ (ev xs q) p
  · have e : i = xs.length := by omega
    subst e
    exact .inl ⟨⟨xs, q, Nat.le_refl _⟩, hd H p⟩
theorem place_in {L : List Cl} {x : Int} (h : x ∈ L.map (·.1)) : (placeF L x).isSome := by
  obtain ⟨c, hc, e⟩ := List.mem_map.mp h
  obtain ⟨i, gi⟩ := List.getElem?_of_mem hc
  unfold placeF
  rw [List.find?_isSome]
  refine ⟨i, by simpa using (List.getElem?_eq_some_iff.mp gi).1, ?_⟩
  rw [gi, ← e]
  simp
theorem cross_len (A B : List Cl) (rs : List Int) : ∀ l : List Int, (l.flatMap (crossR A B rs)).length ≤ l.length * rs.length
  | [] => Nat.zero_le _
  | x :: l => by
    have ih := cross_len A B rs l
    have h : (crossR A B rs x).length ≤ rs.length := by
      unfold crossR
      rw [List.length_map]
      exact List.length_filter_le _ _
    rw [List.flatMap_cons, List.length_append, List.length_cons, Nat.succ_mul]
    omega
section
variable {P : Program} {w : World} {K : PySem.W.Frag} {mg : Str → Option Value} {base : Heap}
theorem scCrp : FnScope ["first", "second", "words", "before", "after", "rooms", "x", "y"] ["first", "second"] (defScope sCrp) := ⟨rfl, rfl, rfl, by decide +kernel, rfl, by decide +kernel, by decide +kernel⟩
def spCrp : Sp := fun vs H Q _ => ∃ (a b : Addr) (us ws : List V) (A B : List Cl) (r : Nat), vs = [.ref a, .ref b] ∧ H a = some (.lst us) ∧ LG H us A ∧ A.length ≤ 1000 ∧ H b = some (.lst ws) ∧ LG H ws B ∧ B.length ≤ 1000 ∧ InR r A ∧ r ≤ 12 ∧ (∀ c ∈ A, (placeF B c.1).isSome) ∧
  ∀ (rs : List Int) (zs : List V) (t : Addr) (H' : Hp), rs.Pairwise (· < ·) → (∀ x, x ∈ rs ↔ x ∈ A.map (·.1)) → Same H H' → H t = none → H' t = some (.lst zs) → PL H' zs (crossF A B rs) → Q (.ref t) H'
theorem ok_crp {f fL fA : Addr} {fd fdL fdA : FuncData} (F : Fun K "crossed_pairs" "crossed_pairs" sCrp f fd) (T : Bi mg) (nd : mg "dict" = none) (d_last_calls : Df P w K mg base "last_calls" ["log"] 1 spLast fA fdA) (d_last_places : Df P w K mg base "last_places" ["log"] 1 spLp fL fdL) : FnOk P w K mg base CX0 2 f fd ["first", "second"] spCrp := by
  refine F.ok scCrp (fun vs H Q E h => ?_) (fun cdv A0 outer s H vs Q E hr h => ?_)
  · obtain ⟨a, b, us, ws, A, B, r, rfl, _⟩ := h
    rfl
  · obtain ⟨a, b, us, ws, A, B, r, rfl, ha, la, al, hb, lb, bl, inr, r12, calls, ret⟩ := h
    refine ⟨_, (pss_cons (ps_set (i := 2) scCrp.nd rfl (Or.inr rfl) (pe_callTy (call_dictP rfl) (by rfl) nd (by decide +kernel) (pa_cons (pe_call d_last_calls.ok (hr.mono (by decide)) (by rfl) d_last_calls.at_ d_last_calls.kp d_last_calls.b .nil pass0 (pa_cons (pv 0) pa_nil)) pa_nil)))
      (pss_cons (ps_set (i := 3) scCrp.nd rfl (Or.inr rfl) (pe_call d_last_places.ok (hr.mono (by decide)) (by rfl) d_last_places.at_ d_last_places.kp d_last_places.b .nil pass0 (pa_cons (pv 0) pa_nil)))
      (pss_cons (ps_set (i := 4) scCrp.nd rfl (Or.inr rfl) (pe_call d_last_places.ok (hr.mono (by decide)) (by rfl) d_last_places.at_ d_last_places.kp d_last_places.b .nil pass0 (pa_cons (pv 1) pa_nil)))
      (pss_cons (ps_set (i := 5) scCrp.nd rfl (Or.inr rfl) (pe_callB (call_sortedDI rfl) (by rfl) T.sorted (by decide +kernel) (pa_cons (pv 2) pa_nil)))
      (pss_one (ps_ret (pe_lc2 (own := [("x", 6), ("y", 7)]) (vs1 := [7]) (wi1 := iList K (tVar 5)) (te := tTup (tCons (tVar 6) (tCons (tVar 7) tNil))) (tt1 := tAnd (tTest (tOp rNe (tDGet (tVar 2) (tVar 6)) (tDGet (tVar 2) (tVar 7)))) (tAnd (tTest (tOp (rI0 fun i j => .bl (decide (j < i))) (tDGet (tVar 3) (tVar 6)) (tDGet (tVar 3) (tVar 7)))) (tTest (tOp (rI0 fun i j => .bl (decide (i < j))) (tDGet (tVar 4) (tVar 6)) (tDGet (tVar 4) (tVar 7)))))) (by rfl) scCrp.nd (pi_list (pv 5)) (blkOk_by (N := ["first", "second", "words", "before", "after", "rooms", "x", "y"]) (sc := defScope sCrp) (by decide +kernel)) (by decide) (fun _ _ _ _ _ => pg_name (i := 6) scCrp.nd rfl (Or.inl rfl)) (fun _ _ _ _ _ => pts_nil) (fun _ _ _ _ _ => (pi_list (pv 5))) (fun _ _ _ _ _ => pg_name (i := 7) scCrp.nd rfl (Or.inl rfl)) (fun _ _ _ _ _ => (pts_one (PW.pt (pw_and (pt_cmpR op_ne (pe_dget (u1 hr.units) (pv 2) (pv 6) (fun _ _ => rfl)) (pe_dget (u1 hr.units) (pv 2) (pv 7) (fun _ _ => rfl)) (nomark _)) (pw_and (pt_cmpR op_gt (pe_dget (u1 hr.units) (pv 3) (pv 6) (fun _ _ => rfl)) (pe_dget (u1 hr.units) (pv 3) (pv 7) (fun _ _ => rfl)) (nomark _)) (pw_and1 (pt_cmpR op_lt (pe_dget (u1 hr.units) (pv 4) (pv 6) (fun _ _ => rfl)) (pe_dget (u1 hr.units) (pv 4) (pv 7) (fun _ _ => rfl)) (nomark _)))))))) (fun _ _ _ _ _ => (pe_tup (pa_cons (pv 6) (pa_cons (pv 7) pa_nil))))))))))), ?_⟩
    walk_at "rd"
    refine ⟨a, us, A, rfl, ha, la, al, fun zs t H1 s1 nt ht lz => ?_⟩
    obtain ⟨ps, rfl, pr⟩ := lg_refs (K := K) lz
    have ndk : (((lastF A).map kvOf).map (·.1)).Nodup := by
      rw [List.map_map]
      show ((lastF A).map fun c => (Sum.inl c.1 : Key)).Nodup
      have := lastF_nd A
      refine List.pairwise_map.mpr (List.Pairwise.imp (fun {x y} h z => h ?_) (List.pairwise_map.mp this))
      exact Sum.inl.inj z
    have em : mergeK [] ((lastF A).map kvOf) = (lastF A).map kvOf := (merge_nd _ [] ndk fun k _ => List.not_mem_nil).trans (List.nil_append _)
    refine ⟨t, rfl, ps, SqL.of ht, _, pr, fun p np => ?_⟩
    rw [em]
    have s2 := s1.trans (same_upd (o := HO.dK ((lastF A).map kvOf)) np)
    have hp := upd_same (H := H1) (a := p) (o := HO.dK ((lastF A).map kvOf))
    generalize upd H1 p (HO.dK ((lastF A).map kvOf)) = H2 at s2 hp ⊢
    refine ⟨a, us, A, rfl, s2 _ _ ha, la.kt (KT.same s2), al, fun d1 H3 s3 n3 pd1 => ?_⟩
    have s23 := s2.trans s3
    refine ⟨b, ws, B, rfl, s23 _ _ hb, lb.kt (KT.same s23), bl, fun d2 H4 s4 n4 pd2 => ?_⟩
    have s24 := s23.trans s4
    have hp4 := s4 _ _ (s3 _ _ hp)
    obtain ⟨kv1, hd1, g1⟩ := pd1
    obtain ⟨kv2, hd2, g2⟩ := pd2
    have hd1 := s4 _ _ hd1
    have nks : ((lastF A).map (·.1)).length ≤ 12 := by
      have := ints_len (r := r) (lastF_nd A) fun x hx => by
        obtain ⟨c, hc, rfl⟩ := List.mem_map.mp ((lastF_mem A x).mp hx)
        exact inr c hc
      omega
    refine ⟨_, .inl hp4, (lastF A).map (·.1), by rw [List.map_map, List.map_map]; rfl, by omega, fun rs o pmr sor no => ?_⟩
    have memr : ∀ x, x ∈ rs ↔ x ∈ A.map (·.1) := fun x => pmr.mem_iff.trans (lastF_mem A x)
    have ndr : rs.Nodup := pmr.nodup_iff.mpr (lastF_nd A)
    have rl : rs.length ≤ 12 := by rw [pmr.length_eq]; exact nks
    have up : rs.Pairwise (· < ·) := List.Pairwise.imp₂ (fun x y h1 h2 => by have h1 : x ≤ y := h1; have h2 : x ≠ y := h2; omega) sor ndr
    have s25 := s24.trans (same_upd (o := HO.lst (rs.map V.int)) no)
    have s45 := same_upd (H := H4) (o := HO.lst (rs.map V.int)) no
    have ho := upd_same (H := H4) (a := o) (o := HO.lst (rs.map V.int))
    generalize upd H4 o (HO.lst (rs.map V.int)) = H5 at s25 s45 ho ⊢
    have hp5 := s45 _ _ hp4
    have hd1 := s45 _ _ hd1
    have hd2 := s45 _ _ hd2
    refine ⟨_, rfl, o, rfl, ⟨_, SqL.of ho⟩, fun c nc => ?_⟩
    have lm : (rs.map V.int).length = rs.length := List.length_map _
    have wS : ∀ x ∈ rs, ∃ z, wordL A x = some z := fun x hx => by
      cases e : wordL A x with
      | some z => exact ⟨z, rfl⟩
      | none => exact absurd ((memr x).mp hx) (wordL_none.mp e)
    have pA : ∀ x ∈ rs, (placeF A x).isSome := fun x hx => place_in ((memr x).mp hx)
    have pB : ∀ x ∈ rs, (placeF B x).isSome := fun x hx => by
      obtain ⟨c, hc, rfl⟩ := List.mem_map.mp ((memr x).mp hx)
      exact calls c hc
    obtain ⟨Pv, hPv⟩ : ∃ Pv : Nat → Hp → Prop, Pv = (fun i Hx => Same H5 Hx ∧ ∃ zs, Hx c = some (.lst zs) ∧ PL Hx zs ((rs.take i).flatMap (crossR A B rs))) := ⟨_, rfl⟩
    refine ⟨fun j m Hx => m = rs.length - j ∧ j ≤ rs.length ∧ Pv j Hx, ⟨_, rfl, Nat.zero_le _, by rw [hPv]; exact ⟨same_upd nc, [], upd_same, PL.nil0 _⟩⟩, ?_⟩
    rintro j mm Hx ⟨rfl, hj, pv⟩
    have pv0 := pv
    rw [hPv] at pv
    obtain ⟨sx, zs, hc, pz⟩ := pv
    by_cases lt : j < rs.length
    · refine .inr ⟨⟨rs.map V.int, .int rs[j], SqL.of (sx _ _ ho), by rw [List.getElem?_map, List.getElem?_eq_getElem lt]; rfl⟩, Pv (j + 1), fun H' q => ⟨_, by omega, rfl, lt, q⟩, ?_⟩
      rintro v H' ⟨rfl, ev⟩
      have e2 := ev _ (SqL.of (sx _ _ ho))
      rw [List.getElem?_map, List.getElem?_eq_getElem lt] at e2
      have e3 := Option.some.inj e2
      subst e3
      have mx : rs[j] ∈ rs := List.getElem_mem lt
      have tk : (rs.take (j + 1)).flatMap (crossR A B rs) = (rs.take j).flatMap (crossR A B rs) ++ crossR A B rs rs[j] := by
        rw [List.take_add_one, List.getElem?_eq_getElem lt, List.flatMap_append]
        congr 1
        show crossR A B rs rs[j] ++ [] = _
        rw [List.append_nil]
      have nxt : ∀ Hx zs, Same H5 Hx → Hx c = some (.lst zs) → PL Hx zs ((rs.take j).flatMap (crossR A B rs) ++ crossR A B rs rs[j]) → Pv (j + 1) Hx := fun Hx zs h1 h2 h3 => by
        rw [hPv]
        exact ⟨h1, zs, h2, by rw [tk]; exact h3⟩
      have dlen : ((rs.take j).flatMap (crossR A B rs)).length ≤ 144 := by
        have h1 := cross_len A B rs (rs.take j)
        have h2 : (rs.take j).length ≤ 12 := by rw [List.length_take]; omega
        exact Nat.le_trans h1 (Nat.mul_le_mul h2 rl)
      generalize rs[j] = x at mx nxt ⊢
      generalize (rs.take j).flatMap (crossR A B rs) = done at pz nxt dlen
      clear tk ev e2
      obtain ⟨Pw, hPw⟩ : ∃ Pw : Nat → Hp → Prop, Pw = (fun k Hy => Same H5 Hy ∧ ∃ zs, Hy c = some (.lst zs) ∧ PL Hy zs (done ++ ((rs.take k).filter fun y => crossB A B x y).map fun y => (x, y))) := ⟨_, rfl⟩
      refine ⟨rfl, iteT (B := True) ?_⟩
      refine ⟨_, rfl, o, rfl, ⟨_, SqL.of (sx _ _ ho)⟩, in_list (K := K) (a := o) (xs := rs.map V.int) Pw (by rw [hPw]; exact ⟨sx, zs, hc, by rw [List.take_zero]; simpa using pz⟩) (fun k Hy _ pw => by rw [hPw] at pw; exact SqL.of (pw.1 _ _ ho)) (fun k v Hy gv pw => ?_) (fun Hy pw => ?_)⟩
      · rw [hPw] at pw
        obtain ⟨sy, ws', hc2, pz2⟩ := pw
        rw [List.getElem?_map] at gv
        obtain ⟨y, gy, rfl⟩ : ∃ y, rs[k]? = some y ∧ v = V.int y := by
          cases e : rs[k]? with
          | none => rw [e] at gv; cases gv
          | some y => rw [e] at gv; exact ⟨y, rfl, (Option.some.inj gv).symm⟩
        have my : y ∈ rs := List.mem_of_getElem? gy
        simp only [wipe]
        unfold tDGet
        walk_at "rd"
        obtain ⟨wx, ewx⟩ := wS x mx
        obtain ⟨wy, ewy⟩ := wS y my
        have dW : ∀ (z : Int) (q : Str), wordL A z = some q → DGet Hy p (.int z) (some (.str q)) := fun z q e => by
          have h := DGet.k (k := Sum.inl z) (sy _ _ hp5)
          rw [lastF_val, e] at h
          exact h
        have dA : ∀ z ∈ rs, DGet Hy d1 (.int z) (some (.int (placeI A z))) := fun z hz => by
          rw [← place_some g1 (pA z hz)]
          exact DGet.k (k := Sum.inl z) (sy _ _ hd1)
        have dB : ∀ z ∈ rs, DGet Hy d2 (.int z) (some (.int (placeI B z))) := fun z hz => by
          rw [← place_some g2 (pB z hz)]
          exact DGet.k (k := Sum.inl z) (sy _ _ hd2)
        have step : (rs.take (k + 1)).filter (fun y => crossB A B x y) = (rs.take k).filter (fun y => crossB A B x y) ++ (if crossB A B x y = true then [y] else []) := by
          rw [List.take_add_one, gy, List.filter_append]
          congr 1
          show List.filter _ [y] = _
          by_cases h : crossB A B x y = true
          · rw [if_pos h, List.filter_cons_of_pos h, List.filter_nil]
          · rw [if_neg h, List.filter_cons_of_neg h, List.filter_nil]
        have skip : ¬ crossB A B x y = true → Pw (k + 1) Hy := fun h => by
          rw [hPw]
          refine ⟨sy, ws', hc2, ?_⟩
          rw [step, if_neg h, List.append_nil]
          exact pz2
        have cb : crossB A B x y = (decide (wx ≠ wy) && (decide (placeI A y < placeI A x) && decide (placeI B x < placeI B y))) := by
          unfold crossB
          rw [ewx, ewy]
          congr 1
          by_cases h : wx = wy
          · simp [h]
          · simp [h]
        refine ⟨_, dW x wx ewx, _, dW y wy ewy, rfl, _, rfl, ?_⟩
        by_cases cw : wx = wy
        · rw [decide_eq_true (show V.str wx = V.str wy by rw [cw]), if_neg (by decide), if_neg (show ¬ False from id)]
          exact skip (by rw [cb, decide_eq_false (fun z => z cw)]; simp)
        rw [decide_eq_false (show ¬ V.str wx = V.str wy from fun z => cw (V.str.inj z)), if_pos (show (!false) = true from rfl)]
        refine ⟨_, dA x mx, _, dA y my, _, rfl, _, rfl, ?_⟩
        by_cases ca : placeI A y < placeI A x
        rotate_left
        · rw [if_neg ca, if_neg (show ¬ False from id)]
          exact skip (by rw [cb, decide_eq_false ca]; simp)
        rw [if_pos ca]
        refine ⟨_, dB x mx, _, dB y my, _, rfl, _, rfl, ?_⟩
        by_cases cc : placeI B x < placeI B y
        rotate_left
        · rw [if_neg cc]
          exact skip (by rw [cb, decide_eq_false cc]; simp)
        rw [if_pos cc]
        have yes : crossB A B x y = true := by rw [cb, decide_eq_true (show wx ≠ wy from cw), decide_eq_true ca, decide_eq_true cc]; rfl
        refine ⟨by decide, fun t nt => ?_⟩
        have nct : c ≠ t := ne_of_none hc2 nt
        have wl : ws'.length ≤ 1000 := by
          rw [pz2.len, List.length_append, List.length_map]
          have h1 := List.length_filter_le (fun y => crossB A B x y) (rs.take k)
          rw [List.length_take] at h1
          omega
        refine ⟨ws', by rw [upd_ne nct]; exact hc2, len_big (by omega), ?_⟩
        rw [hPw]
        refine ⟨same_ch (sy.trans (same_upd nt)) nc, ws' ++ [.ref t], upd_same, ?_⟩
        rw [step, if_pos yes, List.map_append, ← List.append_assoc]
        refine PL.snoc ((pz2.kt (KT.new nt)).kt (KT.lst (by rw [upd_ne nct]; exact hc2))) ⟨t, rfl, ?_⟩
        rw [upd_ne nct.symm, upd_same]
      · rw [hPw] at pw
        obtain ⟨sy, ws', hc2, pz2⟩ := pw
        rw [lm, List.take_length] at pz2
        exact nxt Hy ws' sy hc2 pz2
    · have e : j = rs.length := by omega
      subst e
      rw [List.take_length] at pz
      refine .inl ⟨⟨_, SqL.of (sx _ _ ho), by rw [lm]; exact Nat.le_refl _⟩, ?_⟩
      exact ret rs zs c Hx up memr (s25.trans sx) (s25.free nc) hc pz
end

abbrev sUr : Stmt := topS 20
def optS (o : Option Str) : V := match o with
  | some z => .str z
  | none => .non
theorem optS_scal (o o' : Option Str) : scal (optS o) (optS o') = true := by cases o <;> cases o' <;> rfl
theorem optS_inj {o o' : Option Str} (h : optS o = optS o') : o = o' := by
  cases o with
  | none =>
    cases o' with
    | none => rfl
    | some z => cases h
  | some y =>
    cases o' with
    | none => cases h
    | some z => exact congrArg some (V.str.inj h)
theorem wordL_snoc (S : List Cl) (c : Cl) (x : Int) : wordL (S ++ [c]) x = if c.1 = x then some c.2 else wordL S x := by
  unfold wordL lastIn
  rw [List.reverse_append]
  show Option.map _ (List.find? _ (c :: S.reverse)) = _
  by_cases h : c.1 = x
  · rw [List.find?_cons_of_pos (by simp [h]), if_pos h]
    rfl
  · rw [List.find?_cons_of_neg (by simp [h]), if_neg h]
theorem wordsF_get {r : Nat} {L : List Cl} (inr : InR r L) {k : Nat} (hk : k < r) : (wordsF r L)[k]? = some (optS (wordL L k)) := by
  have key : ∀ j, j ≤ L.length → (wordsF r (L.take j))[k]? = some (optS (wordL (L.take j) k)) := by
    intro j
    induction j with
    | zero =>
      intro _
      show (List.replicate r V.non)[k]? = _
      rw [List.getElem?_replicate, if_pos hk]
      rfl
    | succ j ih =>
      intro hj
      have gc : L[j]? = some L[j] := List.getElem?_eq_getElem (by omega)
      have ic := inr L[j] (List.getElem_mem _)
      rw [wordsF_step gc, List.take_add_one, gc]
      show _ = some (optS (wordL (L.take j ++ [L[j]]) k))
      rw [wordL_snoc]
      have ih := ih (by omega)
      generalize L[j] = c at ic
      by_cases h : c.1 = (k : Int)
      · rw [if_pos h, show c.1.toNat = k by omega, List.getElem?_set_self (by rw [wordsF_len]; exact hk)]
        rfl
      · rw [if_neg h, List.getElem?_set_ne (by omega)]
        exact ih
  have := key L.length (Nat.le_refl _)
  rw [List.take_length] at this
  exact this
section
variable {P : Program} {w : World} {K : PySem.W.Frag} {mg : Str → Option Value} {base : Heap}
theorem scUr : FnScope ["house", "first", "second", "words", "others", "room"] ["house", "first", "second"] (defScope sUr) := ⟨rfl, rfl, rfl, by decide +kernel, rfl, by decide +kernel, by decide +kernel⟩
def spUr (C : Addr) : Sp := fun vs H Q _ => ∃ (p a b : Addr) (us ws : List V) (A B : List Cl) (r : Nat) (D : List Pr) (own : List Addr), vs = [.ref p, .ref a, .ref b] ∧ HouseAt C H p r D own ∧ H a = some (.lst us) ∧ LG H us A ∧ InR r A ∧ H b = some (.lst ws) ∧ LG H ws B ∧ InR r B ∧
  (∀ k : Nat, k < r → wordL A k ≠ wordL B k → (∀ j : Nat, j < k → wordL A j = wordL B j) → ∀ H', Same H H' → Q (.int k) H') ∧ ((∀ k : Nat, k < r → wordL A k = wordL B k) → ∀ H', Same H H' → Q .non H')
theorem ok_ur {f C fW : Addr} {fd fdW : FuncData} (F : Fun K "unlike_room" "unlike_room" sUr f fd) (T : Bi mg) (U : Hs K mg C) (d_words_of : Df P w K mg base "words_of" ["house", "log"] 1 (spWds C) fW fdW) : FnOk P w K mg base CX0 2 f fd ["house", "first", "second"] (spUr C) := by
  refine F.ok scUr (fun vs H Q E h => ?_) (fun cdv A0 outer s H vs Q E hr h => ?_)
  · obtain ⟨p, a, b, us, ws, A, B, r, D, own, rfl, _⟩ := h
    rfl
  · obtain ⟨p, a, b, us, ws, A, B, r, D, own, rfl, hh, ha, la, ia, hb, lb, ib, hN, hS⟩ := h
    refine ⟨_, (pss_cons (ps_set (i := 3) scUr.nd rfl (Or.inl rfl) (pe_call d_words_of.ok (hr.mono (by decide)) (by rfl) d_words_of.at_ d_words_of.kp d_words_of.b .nil pass0 (pa_cons (pv 0) (pa_cons (pv 1) pa_nil))))
      (pss_cons (ps_set (i := 4) scUr.nd rfl (Or.inl rfl) (pe_call d_words_of.ok (hr.mono (by decide)) (by rfl) d_words_of.at_ d_words_of.kp d_words_of.b .nil pass0 (pa_cons (pv 0) (pa_cons (pv 2) pa_nil))))
      (pss_cons (ps_for PassesOwn.never rfl (pi_range1 (by rfl) T.range (pa_cons (pe_fld (pv 0) rfl) pa_nil)) (pg_name (i := 5) scUr.nd rfl (Or.inl rfl))
      (pss_one (ps_if (pt_cmpR op_ne (pe_ix ix_list (pv 3) (pv 5) (fun _ _ => rfl)) (pe_ix ix_list (pv 4) (pv 5) (fun _ _ => rfl)) (nomark _))
        (pss_one (ps_ret (pv 5)))
        pss_nil)))
      (pss_one (ps_ret pe_non))))), ?_⟩
    walk_at "rd"
    refine ⟨p, a, us, A, r, D, own, rfl, hh, ha, la, ia, fun q1 H1 s1 nq1 hq1 => ?_⟩
    refine ⟨p, b, ws, B, r, D, own, rfl, hh.same s1, s1 _ _ hb, lb.kt (KT.same s1), ib, fun q2 H2 s2 nq2 hq2 => ?_⟩
    have s12 := s1.trans s2
    have hq1 := s2 _ _ hq1
    obtain ⟨dx, l0, m0, ls, nss, h1, _⟩ := (hh.same s12).ex
    have r12 := hh.r12
    refine for_iterW ?_
    walk_at "rd"
    refine ⟨C, dx, _, h1, U.cl, U.nR, .int r, hf_rooms _ _ _, r, rfl, by omega, by omega, ?_⟩
    obtain ⟨Pv, hPv⟩ : ∃ Pv : Nat → L2.St → Hp → Prop, Pv = (fun i σ H' => ∃ v5, σ = [some (.ref p), some (.ref a), some (.ref b), some (.ref q1), some (.ref q2), v5] ∧ H2 = H' ∧ ∀ j : Nat, j < i → wordL A j = wordL B j) := ⟨_, rfl⟩
    refine for_range (lo := 0) (n := (r : Int).toNat) Pv (by rw [hPv]; exact ⟨none, rfl, rfl, fun j hj => absurd hj (by omega)⟩) (fun i σ H' hi pv => ?_) (fun σ H' pv => ?_)
    · rw [hPv] at pv
      obtain ⟨v5, rfl, rfl, all⟩ := pv
      have hir : i < r := by omega
      walk_at "rd"
      refine ⟨_, SqL.of hq1, optS (wordL A i), at_of (j := i) (by omega) (wordsF_get ia hir), _, SqL.of hq2, optS (wordL B i), at_of (j := i) (by omega) (wordsF_get ib hir), ?_⟩
      refine ⟨optS_scal _ _, _, rfl, ?_⟩
      by_cases h : wordL A i = wordL B i
      · rw [decide_eq_true (show optS (wordL A i) = optS (wordL B i) by rw [h]), if_neg (by decide), hPv]
        exact ⟨_, rfl, rfl, fun j hj => (Nat.lt_succ_iff_lt_or_eq.mp hj).elim (all j) (fun e => by rw [e]; exact h)⟩
      · rw [decide_eq_false (fun z => h (optS_inj z)), if_pos (show (!false) = true from rfl), Int.zero_add]
        exact hN i hir h all _ s12
    · rw [hPv] at pv
      obtain ⟨v5, rfl, rfl, all⟩ := pv
      walk_at "rd"
      exact hS (fun k hk => all k (by omega)) _ s12
end

abbrev sPp : Stmt := topS 19
/-! ### (len(path), path), compared -/
def lenD (p : List Int) : PyData := .tuple [.int p.length, .tuple (p.map PyData.int)]
theorem toks_lt : ∀ (p q : List Int) (x y : List (Int ⊕ List Nat)), p.length = q.length → x = y → (PyProof.Rows.lexLt itemOrd (PySem.W.keyToksAll (p.map PyData.int) ++ x) (PySem.W.keyToksAll (q.map PyData.int) ++ y) = true ↔ ltL p q)
  | [], [], x, y, _, e => by
    subst e
    rw [PyProof.Rows.lex_irrefl]
    simp [ltL]
  | [], _ :: _, _, _, h, _ => by cases h
  | _ :: _, [], _, _, h, _ => by cases h
  | a :: s, b :: t, x, y, h, e => by
    show PyProof.Rows.lexLt itemOrd (Sum.inl 1 :: Sum.inl a :: (PySem.W.keyToksAll (s.map PyData.int) ++ x)) (Sum.inl 1 :: Sum.inl b :: (PySem.W.keyToksAll (t.map PyData.int) ++ y)) = true ↔ _
    rw [PyProof.Rows.lex_self]
    by_cases c : a = b
    · subst c
      rw [PyProof.Rows.lex_self, toks_lt s t x y (Nat.succ.inj h) e]
      show _ ↔ (a < a ∨ (a = a ∧ ltL s t))
      exact ⟨fun z => .inr ⟨rfl, z⟩, fun z => z.elim (fun w => absurd w (by omega)) (·.2)⟩
    · rw [PyProof.Rows.lex_diff (fun z => c (Sum.inl.inj z))]
      show decide (a < b) = true ↔ (a < b ∨ (a = b ∧ ltL s t))
      rw [decide_eq_true_iff]
      exact ⟨.inl, fun z => z.elim id fun w => absurd w.1 c⟩
theorem dataLt_len (p q : List Int) : PySem.W.dataLt (lenD p) (lenD q) = true ↔ slt p q := by
  unfold PySem.W.dataLt lenD
  show PyProof.Rows.lexLt itemOrd (Sum.inl 1 :: Sum.inl (p.length : Int) :: Sum.inl 1 :: (PySem.W.keyToksAll (p.map PyData.int) ++ [Sum.inl 0])) (Sum.inl 1 :: Sum.inl (q.length : Int) :: Sum.inl 1 :: (PySem.W.keyToksAll (q.map PyData.int) ++ [Sum.inl 0])) = true ↔ _
  rw [PyProof.Rows.lex_self]
  by_cases c : p.length = q.length
  · rw [c, PyProof.Rows.lex_self, PyProof.Rows.lex_self, toks_lt p q _ _ c rfl]
    exact ⟨fun z => .inr ⟨c, z⟩, fun z => z.elim (fun w => absurd w (by omega)) (·.2)⟩
  · rw [PyProof.Rows.lex_diff (fun z => c (by have := Sum.inl.inj z; omega))]
    show decide ((p.length : Int) < q.length) = true ↔ _
    rw [decide_eq_true_iff]
    exact ⟨fun z => .inl (by omega), fun z => z.elim (fun w => by omega) fun w => absurd w.1 c⟩
theorem alike_ints : ∀ p q : List Int, PySem.W.alikeAll (p.map PyData.int) (q.map PyData.int) = true
  | [], [] => rfl
  | [], _ :: _ => rfl
  | _ :: _, [] => rfl
  | _ :: s, _ :: t => by
    show (true && PySem.W.alikeAll (s.map PyData.int) (t.map PyData.int)) = true
    rw [alike_ints s t]
    rfl
theorem alike_len (p q : List Int) : PySem.W.alike (lenD p) (lenD q) = true := by
  show (true && (PySem.W.alikeAll (p.map PyData.int) (q.map PyData.int) && true)) = true
  rw [alike_ints]
  rfl
theorem dep_ints : ∀ p : List Int, PyData.depthAll (p.map PyData.int) = 0
  | [] => rfl
  | _ :: s => by
    show max 0 (PyData.depthAll (s.map PyData.int)) = 0
    rw [dep_ints s]
    rfl
theorem dep_len (p : List Int) : (lenD p).depth ≤ 2 := by
  show max 0 (max (PyData.depthAll (p.map PyData.int) + 1) 0) + 1 ≤ 2
  rw [dep_ints]
  decide
theorem dp_ints {K : PySem.W.Frag} {H : Hp} : ∀ p : List Int, DpAll K H (p.map V.int) (p.map PyData.int)
  | [] => .nil
  | _ :: s => .cons (.int _) (dp_ints s)
theorem dp_len {K : PySem.W.Frag} {H : Hp} {u t : Addr} {p : List Int} (hu : H u = some (.tup [.int p.length, .ref t])) (ht : H t = some (.tup (p.map V.int))) : Dp K H (.ref u) (lenD p) :=
  .tup (SqT.of hu) (.cons (.int _) (.cons (.tup (SqT.of ht) (dp_ints p)) .nil))
theorem Room.u2 {k : Nat} {A : Around} (r : Room k A) : A.units + 2 < cLine := by
  have := r.un
  omega
/-! ### the best of a set of paths -/
def BestOf (H : Hp) (S : List Int → Prop) (v : V) : Prop := (∃ q t, v = .ref t ∧ H t = some (.tup (q.map V.int)) ∧ S q ∧ ∀ q', S q' → sle q q') ∨ (v = .non ∧ ∀ q, ¬ S q)
theorem BestOf.same {H H' : Hp} {S : List Int → Prop} {v : V} (h : BestOf H S v) (s : Same H H') : BestOf H' S v := by
  rcases h with ⟨q, t, e, ht, h1, h2⟩ | h
  · exact .inl ⟨q, t, e, s _ _ ht, h1, h2⟩
  · exact .inr h
theorem BestOf.congr {H : Hp} {S S' : List Int → Prop} {v : V} (h : BestOf H S v) (e : ∀ q, S q ↔ S' q) : BestOf H S' v := by
  rcases h with ⟨q, t, ev, ht, h1, h2⟩ | ⟨ev, h⟩
  · exact .inl ⟨q, t, ev, ht, (e q).mp h1, fun q' hq => h2 q' ((e q').mpr hq)⟩
  · exact .inr ⟨ev, fun q hq => h q ((e q).mpr hq)⟩
theorem best_add {H : Hp} {S N : List Int → Prop} {bv v : V} {D : List Pr} {R : List Int} {x y : Int} (hN : ∀ q, N q ↔ Lst D R x y q) (hb : BestOf H S bv) (hv : (∃ q t, v = V.ref t ∧ H t = some (.tup (q.map V.int)) ∧ Lst D R x y q) ∨ (v = .non ∧ ∀ q, ¬ Pth D R x y q)) :
    (v = .non → BestOf H (fun q => S q ∨ N q) bv) ∧ (v ≠ .non → bv = .non → BestOf H (fun q => S q ∨ N q) v) ∧ (∀ q t qb tb, v = V.ref t → H t = some (.tup (q.map V.int)) → Lst D R x y q → bv = V.ref tb → H tb = some (.tup (qb.map V.int)) → S qb → (∀ q', S q' → sle qb q') → (slt q qb → BestOf H (fun q => S q ∨ N q) v) ∧ (¬ slt q qb → BestOf H (fun q => S q ∨ N q) bv)) := by
  refine ⟨fun e => ?_, fun ne eb => ?_, fun q t qb tb ev ht hl eb htb sb mb => ⟨fun lt => ?_, fun nl => ?_⟩⟩
  · rcases hv with ⟨q, t, ev, _⟩ | ⟨_, no⟩
    · rw [ev] at e; cases e
    · exact hb.congr fun q => ⟨.inl, fun z => z.elim id fun n => absurd ((hN q).mp n).1 (no q)⟩
  · rcases hv with ⟨q, t, ev, ht, hl⟩ | ⟨e, _⟩
    · rcases hb with ⟨qb, tb, e2, _⟩ | ⟨_, nb⟩
      · rw [e2] at eb; cases eb
      · refine .inl ⟨q, t, ev, ht, .inr ((hN q).mpr hl), fun q' hq => ?_⟩
        rcases hq with hq | hq
        · exact absurd hq (nb q')
        · exact .inl (Lst.uniq hl ((hN q').mp hq))
    · exact absurd e ne
  · refine .inl ⟨q, t, ev, ht, .inr ((hN q).mpr hl), fun q' hq => ?_⟩
    rcases hq with hq | hq
    · exact sle_trans (.inr lt) (mb q' hq)
    · exact .inl (Lst.uniq hl ((hN q').mp hq))
  · refine .inl ⟨qb, tb, eb, htb, .inl sb, fun q' hq => ?_⟩
    rcases hq with hq | hq
    · exact mb q' hq
    · rw [← Lst.uniq hl ((hN q').mp hq)]
      rcases slt_tri qb q with e | e | e
      · exact .inl e
      · exact .inr e
      · exact absurd e nl
section
variable {P : Program} {w : World} {K : PySem.W.Frag} {mg : Str → Option Value} {base : Heap}
theorem scPp : FnScope ["house", "first", "second", "room", "best", "x", "y", "inside", "path"] ["house", "first", "second"] (defScope sPp) := ⟨rfl, rfl, rfl, by decide +kernel, rfl, by decide +kernel, by decide +kernel⟩
/-- a first path between the two rooms of a crossed pair, inside its hall -/
def Cnd (A B : List Cl) (r : Nat) (D : List Pr) (d : Pr) (q : List Int) : Prop := Lst D (hallF r A B d.1 d.2) d.1 d.2 q ∨ Lst D (hallF r A B d.1 d.2) d.2 d.1 q
def spPp (C : Addr) : Sp := fun vs H Q _ => ∃ (p a b : Addr) (us ws : List V) (A B : List Cl) (r : Nat) (D : List Pr) (own : List Addr), vs = [.ref p, .ref a, .ref b] ∧ HouseAt C H p r D own ∧ H a = some (.lst us) ∧ LG H us A ∧ A.length ≤ 1000 ∧ InR r A ∧ H b = some (.lst ws) ∧ LG H ws B ∧ B.length ≤ 1000 ∧ InR r B ∧
  (∀ k : Nat, k < r → wordL A k ≠ wordL B k → (∀ j : Nat, j < k → wordL A j = wordL B j) → ∀ t H', Same H H' → H' t = some (.tup [.int k]) → Q (.ref t) H') ∧
  ((∀ k : Nat, k < r → wordL A k = wordL B k) → ∀ (rs : List Int) (v : V) (H' : Hp), rs.Pairwise (· < ·) → (∀ x, x ∈ rs ↔ x ∈ A.map (·.1)) → Same H H' → BestOf H' (fun q => ∃ d ∈ crossF A B rs, Cnd A B r D d q) v → Q v H')
theorem ok_pp {f C g fU fX fH fF : Addr} {fd fdU fdX fdH fdF : FuncData} (F : Fun K "parting_path" "parting_path" sPp f fd) (T : Bi mg) (U : Hs K mg C) (d_unlike_room : Df P w K mg base "unlike_room" ["house", "first", "second"] 2 (spUr C) fU fdU) (d_crossed_pairs : Df P w K mg base "crossed_pairs" ["first", "second"] 2 spCrp fX fdX) (d_hall : Df P w K mg base "hall" ["house", "first", "second", "pair"] 2 (spHall C) fH fdH) (d_first_path : Df P w K mg base "first_path" ["house", "start", "goal", "inside"] 3 (spFst K C) fF fdF) : FnOk P w K mg base CX0 4 f fd ["house", "first", "second"] (spPp C) := by
  refine F.ok scPp (fun vs H Q E h => ?_) (fun cdv A0 outer s H vs Q E hr h => ?_)
  · obtain ⟨p, a, b, us, ws, A, B, r, D, own, rfl, _⟩ := h
    rfl
  · obtain ⟨p, a, b, us, ws, A, B, r, D, own, rfl, hh, ha, la, al, ia, hb, lb, bl, ib, hN, hS⟩ := h
    refine ⟨_, (pss_cons (ps_set (i := 3) scPp.nd rfl (Or.inl rfl) (pe_call d_unlike_room.ok (hr.mono (by decide)) (by rfl) d_unlike_room.at_ d_unlike_room.kp d_unlike_room.b .nil pass0 (pa_cons (pv 0) (pa_cons (pv 1) (pa_cons (pv 2) pa_nil)))))
      (pss_cons (ps_if (pt_cmpR op_notN (pv 3) pe_non (nomark _))
      (pss_one (ps_ret (pe_tup (pa_cons (pv 3) pa_nil))))
      pss_nil)
      (pss_cons (ps_set (i := 4) scPp.nd rfl (Or.inl rfl) pe_non)
      (pss_cons (ps_for PassesOwn.never rfl (pi_list (pe_call d_crossed_pairs.ok (hr.mono (by decide)) (by rfl) d_crossed_pairs.at_ d_crossed_pairs.kp d_crossed_pairs.b .nil pass0 (pa_cons (pv 1) (pa_cons (pv 2) pa_nil)))) (pg_tup rfl (pgs_cons (pg_name (i := 5) scPp.nd rfl (Or.inl rfl)) (pgs_cons (pg_name (i := 6) scPp.nd rfl (Or.inl rfl)) pgs_nil)))
      (pss_cons (ps_set (i := 7) scPp.nd rfl (Or.inl rfl) (pe_call d_hall.ok (hr.mono (by decide)) (by rfl) d_hall.at_ d_hall.kp d_hall.b .nil pass0 (pa_cons (pv 0) (pa_cons (pv 1) (pa_cons (pv 2) (pa_cons (pe_tup (pa_cons (pv 5) (pa_cons (pv 6) pa_nil))) pa_nil))))))
        (pss_one (ps_for PassesOwn.never rfl (pi_tup (pe_tup (pa_cons (pe_call d_first_path.ok (hr.mono (by decide)) (by rfl) d_first_path.at_ d_first_path.kp d_first_path.b .nil pass0 (pa_cons (pv 0) (pa_cons (pv 5) (pa_cons (pv 6) (pa_cons (pv 7) pa_nil))))) (pa_cons (pe_call d_first_path.ok (hr.mono (by decide)) (by rfl) d_first_path.at_ d_first_path.kp d_first_path.b .nil pass0 (pa_cons (pv 0) (pa_cons (pv 6) (pa_cons (pv 5) (pa_cons (pv 7) pa_nil))))) pa_nil)))) (pg_name (i := 8) scPp.nd rfl (Or.inl rfl))
        (pss_one (ps_if (PW.pt (pw_and (pt_cmpR op_notN (pv 8) pe_non (nomark _)) (pw_and1 (PW.pt (pw_or (pt_cmpR op_isN (pv 4) pe_non (nomark _)) (pw_or1 (pt_cmpR (op_ltD (n := 2) (Room.u2 hr)) (pe_tup (pa_cons (pe_callB call_len_seq (by rfl) T.len (by decide +kernel) (pa_cons (pv 8) pa_nil)) (pa_cons (pv 8) pa_nil))) (pe_tup (pa_cons (pe_callB call_len_seq (by rfl) T.len (by decide +kernel) (pa_cons (pv 4) pa_nil)) (pa_cons (pv 4) pa_nil))) (nomark _))))))))
          (pss_one (ps_set (i := 4) scPp.nd rfl (Or.inl rfl) (pv 8)))
          pss_nil))))))
      (pss_one (ps_ret (pv 4))))))), ?_⟩
    walk_at "rd"
    have r12 := hh.r12
    refine ⟨p, a, b, us, ws, A, B, r, D, own, rfl, hh, ha, la, ia, hb, lb, ib, fun k hk ne least H1 s1 => ?_, fun eq H1 s1 => ?_⟩
    · dsimp only
      rw [if_pos (show (!decide (V.int (k : Int) = V.non)) = true by simp)]
      exact ⟨by decide, fun t nt => hN k hk ne least t _ (s1.trans (same_upd nt)) upd_same⟩
    dsimp only
    rw [if_neg (show ¬ (!decide (V.non = V.non)) = true by simp)]
    have calls : ∀ c ∈ A, (placeF B c.1).isSome := fun c hc => by
      have i := ia c hc
      have e := eq c.1.toNat (by omega)
      rw [show ((c.1.toNat : Nat) : Int) = c.1 by omega] at e
      by_cases m : c.1 ∈ B.map (·.1)
      · exact place_in m
      · rw [wordL_none.mpr m] at e
        exact absurd (List.mem_map.mpr ⟨c, hc, rfl⟩) (wordL_none.mp e)
    refine for_iterW ?_
    walk_at "rd"
    refine ⟨a, b, us, ws, A, B, r, rfl, s1 _ _ ha, la.kt (KT.same s1), al, s1 _ _ hb, lb.kt (KT.same s1), bl, ia, r12, calls, fun rs zs tl H2 up memr s2 ntl htl pz => ?_⟩
    have s12 := s1.trans s2
    have hS := hS eq rs
    have mem : ∀ d ∈ crossF A B rs, d.1 ∈ A.map (·.1) ∧ d.2 ∈ A.map (·.1) := fun d hd => by
      obtain ⟨x, hx, hd⟩ := List.mem_flatMap.mp hd
      obtain ⟨y, hy, rfl⟩ := List.mem_map.mp hd
      exact ⟨(memr x).mp hx, (memr y).mp (List.mem_filter.mp hy).1⟩
    have zl : zs.length = (crossF A B rs).length := pz.len
    obtain ⟨Pv, hPv⟩ : ∃ Pv : Nat → L2.St → Hp → Prop, Pv = (fun i σ H' => ∃ (bv : V) (v5 v6 v7 v8 : Option V), σ = [some (.ref p), some (.ref a), some (.ref b), some .non, some bv, v5, v6, v7, v8] ∧ Same H2 H' ∧ BestOf H' (fun q => ∃ d ∈ (crossF A B rs).take i, Cnd A B r D d q) bv) := ⟨_, rfl⟩
    refine ⟨tl, rfl, ⟨_, SqL.of htl⟩, for_list (K := K) (a := tl) (xs := zs) Pv (by rw [hPv]; exact ⟨_, _, _, _, _, rfl, Same.refl _, .inr ⟨rfl, fun q ⟨d, hd, _⟩ => by cases hd⟩⟩) (fun i σ H' _ pv => by rw [hPv] at pv; obtain ⟨_, _, _, _, _, _, sm, _⟩ := pv; exact SqL.of (sm _ _ htl)) (fun i v σ H3 gv pv => ?_) (fun σ H3 pv => ?_)⟩
    · rw [hPv] at pv
      obtain ⟨bv, v5, v6, v7, v8, rfl, sm, bo⟩ := pv
      obtain ⟨d, gd, td, rfl, htd⟩ := pz.get gv
      have md := mem d (List.mem_of_getElem? gd)
      have s13 := s12.trans sm
      walk_at "rd"
      refine ⟨_, SqT.of (sm _ _ htd), rfl, .int d.1, [.int d.2], rfl, .int d.2, [], rfl, rfl, ?_⟩
      walk_at "rd"
      refine ⟨by decide, fun t1 nt1 => ?_⟩
      have s34 := same_upd (o := HO.tup [V.int d.1, V.int d.2]) nt1
      have s14 := s13.trans s34
      have pA := place_in md.1
      have pB : (placeF B d.2).isSome := by
        obtain ⟨c, hc, e⟩ := List.mem_map.mp md.2
        rw [← e]
        exact calls c hc
      refine ⟨p, a, b, t1, d.1, d.2, us, ws, A, B, r, D, own, rfl, hh.same s14, s14 _ _ ha, la.kt (KT.same s14), al, s14 _ _ hb, lb.kt (KT.same s14), bl, upd_same, pA, pB, fun o H5 s45 no ho => ?_⟩
      have s15 := s14.trans s45
      have s35 := s34.trans s45
      have inH : ∀ x ∈ hallF r A B d.1 d.2, 0 ≤ x ∧ x < r := fun x hx => rg_mem (List.mem_filter.mp hx).1
      refine for_iterW ?_
      unfold iTup
      walk_at "rd"
      refine ⟨p, o, d.1, d.2, hallF r A B d.1 d.2, r, D, own, rfl, hh.same s15, .inl (SqL.of ho), inH, fun v1 H6 s56 r1 => ?_⟩
      refine ⟨p, o, d.2, d.1, hallF r A B d.1 d.2, r, D, own, rfl, hh.same (s15.trans s56), .inl (SqL.of (s56 _ _ ho)), inH, fun v2 H7 s67 r2 => ⟨by decide, fun tt ntt => ?_⟩⟩
      have s78 := same_upd (o := HO.tup [v1, v2]) ntt
      have htt := upd_same (H := H7) (a := tt) (o := HO.tup [v1, v2])
      generalize upd H7 tt (HO.tup [v1, v2]) = H8 at s78 htt ⊢
      have s68 := s67.trans s78
      have s38 := s35.trans (s56.trans s68)
      have bo8 := bo.same s38
      obtain ⟨Sj, hSj⟩ : ∃ Sj : Nat → List Int → Prop, Sj = (fun j q => ((∃ e ∈ (crossF A B rs).take i, Cnd A B r D e q) ∨ (1 ≤ j ∧ Lst D (hallF r A B d.1 d.2) d.1 d.2 q)) ∨ (2 ≤ j ∧ Lst D (hallF r A B d.1 d.2) d.2 d.1 q)) := ⟨_, rfl⟩
      have hv1 : ∀ H9, Same H8 H9 → (∃ q t, v1 = V.ref t ∧ H9 t = some (.tup (q.map V.int)) ∧ Lst D (hallF r A B d.1 d.2) d.1 d.2 q) ∨ (v1 = .non ∧ ∀ q, ¬ Pth D (hallF r A B d.1 d.2) d.1 d.2 q) := fun H9 s9 => by
        rcases r1 with ⟨q, t, e, ht, hl⟩ | h
        · exact .inl ⟨q, t, e, s9 _ _ (s68 _ _ ht), hl⟩
        · exact .inr h
      have hv2 : ∀ H9, Same H8 H9 → (∃ q t, v2 = V.ref t ∧ H9 t = some (.tup (q.map V.int)) ∧ Lst D (hallF r A B d.1 d.2) d.2 d.1 q) ∨ (v2 = .non ∧ ∀ q, ¬ Pth D (hallF r A B d.1 d.2) d.2 d.1 q) := fun H9 s9 => by
        rcases r2 with ⟨q, t, e, ht, hl⟩ | h
        · exact .inl ⟨q, t, e, s9 _ _ (s78 _ _ ht), hl⟩
        · exact .inr h
      obtain ⟨Pw, hPw⟩ : ∃ Pw : Nat → L2.St → Hp → Prop, Pw = (fun j σ H' => ∃ (bv : V) (v8 : Option V), σ = [some (.ref p), some (.ref a), some (.ref b), some .non, some bv, some (.int d.1), some (.int d.2), some (.ref o), v8] ∧ Same H8 H' ∧ BestOf H' (Sj j) bv) := ⟨_, rfl⟩
      refine ⟨⟨_, SqT.of htt⟩, for_tup (K := K) (a := tt) (xs := [v1, v2]) Pw (by rw [hPw]; exact ⟨_, _, rfl, Same.refl _, bo8.congr fun q => by rw [hSj]; simp⟩) (fun j σ H' _ pw => by rw [hPw] at pw; obtain ⟨_, _, _, sw, _⟩ := pw; exact SqT.of (sw _ _ htt)) (fun j v σ H9 gv pw => ?_) (fun σ H9 pw => ?_)⟩
      · rw [hPw] at pw
        obtain ⟨bw, v8', rfl, s89, bow⟩ := pw
        have nxt : ∀ (bw : V) (v8 : Option V) H', Same H9 H' → BestOf H' (Sj (j + 1)) bw → Pw (j + 1) [some (.ref p), some (.ref a), some (.ref b), some .non, some bw, some (.int d.1), some (.int d.2), some (.ref o), v8] H' := fun bw v8 H' h1 h2 => by
          rw [hPw]
          exact ⟨bw, v8, rfl, s89.trans h1, h2⟩
        obtain ⟨x, y, hv, hs⟩ : ∃ x y, ((∃ q t, v = V.ref t ∧ H9 t = some (.tup (q.map V.int)) ∧ Lst D (hallF r A B d.1 d.2) x y q) ∨ (v = .non ∧ ∀ q, ¬ Pth D (hallF r A B d.1 d.2) x y q)) ∧ ∀ q, (Sj j q ∨ Lst D (hallF r A B d.1 d.2) x y q) ↔ Sj (j + 1) q := by
          match j, gv with
          | 0, gv =>
            cases gv
            exact ⟨d.1, d.2, hv1 H9 s89, fun q => by rw [hSj]; simp⟩
          | 1, gv =>
            cases gv
            exact ⟨d.2, d.1, hv2 H9 s89, fun q => by rw [hSj]; simp⟩
        obtain ⟨b1, b2, b3⟩ := best_add (N := fun q => Lst D (hallF r A B d.1 d.2) x y q) (fun q => Iff.rfl) bow hv
        walk_at "rd"
        rcases hv with ⟨q, t, rfl, ht, hl⟩ | ⟨rfl, no⟩
        rotate_left
        · rw [if_neg (show ¬ (!decide (V.non = V.non)) = true by simp), if_neg (show ¬ False from id)]
          exact nxt bw _ _ (Same.refl _) ((b1 rfl).congr hs)
        rw [if_pos (show (!decide (V.ref t = V.non)) = true by simp)]
        rcases bow with ⟨qb, tb, rfl, htb, sb, mb⟩ | ⟨rfl, nob⟩
        rotate_left
        · rw [if_pos (show V.non = V.non from rfl), if_pos trivial]
          exact nxt _ _ _ (Same.refl _) ((b2 (fun z => by cases z) rfl).congr hs)
        rw [if_neg (show ¬ V.ref tb = V.non from fun z => by cases z)]
        obtain ⟨c1, c2⟩ := b3 q t qb tb rfl ht hl rfl htb sb mb
        refine ⟨t, rfl, _, .inr (SqT.of ht), by decide, fun u1 nu1 => ?_⟩
        have t1 := same_upd (o := HO.tup [V.int ((q.map V.int).length : Nat), V.ref t]) nu1
        refine ⟨tb, rfl, _, .inr (SqT.of (t1 _ _ htb)), by decide, fun u2 nu2 => ?_⟩
        have t2 := same_upd (o := HO.tup [V.int ((qb.map V.int).length : Nat), V.ref tb]) nu2
        have t12 := t1.trans t2
        have hu1 := t2 _ _ (upd_same (H := H9) (a := u1) (o := HO.tup [V.int ((q.map V.int).length : Nat), V.ref t]))
        have hu2 := upd_same (H := upd H9 u1 (HO.tup [V.int ((q.map V.int).length : Nat), V.ref t])) (a := u2) (o := HO.tup [V.int ((qb.map V.int).length : Nat), V.ref tb])
        generalize upd (upd H9 u1 (HO.tup [V.int ((q.map V.int).length : Nat), V.ref t])) u2 (HO.tup [V.int ((qb.map V.int).length : Nat), V.ref tb]) = Hz at t12 hu1 hu2 ⊢
        rw [List.length_map] at hu1 hu2
        refine ⟨lenD q, lenD qb, dp_len hu1 (t12 _ _ ht), dp_len hu2 (t12 _ _ htb), alike_len _ _, (fun z => by unfold lenD at z; cases z), dep_len _, _, rfl, ?_⟩
        by_cases lt : slt q qb
        · rw [(dataLt_len q qb).mpr lt, if_pos rfl]
          exact nxt _ _ _ t12 (((c1 lt).congr hs).same t12)
        · have e : PySem.W.dataLt (lenD q) (lenD qb) = false := by
            cases h : PySem.W.dataLt (lenD q) (lenD qb) with
            | false => rfl
            | true => exact absurd ((dataLt_len q qb).mp h) lt
          rw [e, if_neg (by decide)]
          exact nxt _ _ _ t12 (((c2 lt).congr hs).same t12)
      · rw [hPw] at pw
        obtain ⟨bw, v8', rfl, s89, bow⟩ := pw
        show Pv (i + 1) _ _
        rw [hPv]
        refine ⟨bw, _, _, _, _, rfl, sm.trans (s38.trans s89), bow.congr fun q => ?_⟩
        rw [List.take_add_one, gd, hSj]
        simp [Cnd, or_assoc]
    · rw [hPv] at pv
      obtain ⟨bv, v5, v6, v7, v8, rfl, sm, bo⟩ := pv
      rw [zl, List.take_length] at bo
      walk_at "rd"
      exact hS bv H3 up memr (s12.trans sm) bo
end

/-! ### what many laws need: the same data, a house made -/
theorem same_ok {n : Nat} {H : Hp} {x y : V} {Q : VK} {E : XK} (h : Sm H n x y) (q : Q (.bl true) H) : spSame n [x, y] H Q E := ⟨x, y, rfl, h, q⟩
theorem paired_flat {H : Hp} {n : Nat} {us : List V} (h : ∀ x ∈ us, flat4 x = true) : Paired (Sm H n) us us := by
  induction us with
  | nil => exact Paired.nil
  | cons a l ih => exact Paired.cons (Sm.flat (h a List.mem_cons_self)) (ih fun x hx => h x (List.mem_cons_of_mem _ hx))
theorem sm_flats {H : Hp} {x y : Addr} {us : List V} (hx : H x = some (.lst us)) (hy : H y = some (.lst us)) (h : ∀ x ∈ us, flat4 x = true) (hl : us.length ≤ 100000) (n : Nat) : Sm H (n + 1) (.ref x) (.ref y) :=
  .inr ⟨x, y, _, _, rfl, rfl, .inl ⟨hx, hy⟩, paired_flat h, hl⟩
theorem sm_flatsT {H : Hp} {x y : Addr} {us : List V} (hx : H x = some (.tup us)) (hy : H y = some (.tup us)) (h : ∀ x ∈ us, flat4 x = true) (hl : us.length ≤ 100000) (n : Nat) : Sm H (n + 1) (.ref x) (.ref y) :=
  .inr ⟨x, y, _, _, rfl, rfl, .inr ⟨hx, hy⟩, paired_flat h, hl⟩
theorem flat_intsV (l : List Int) : ∀ x ∈ l.map V.int, flat4 x = true := fun x hx => by
  obtain ⟨i, _, rfl⟩ := List.mem_map.mp hx
  rfl
theorem sm_call {H : Hp} {u v : V} {d : Cl} (hu : IsC H u d) (hv : IsC H v d) (n : Nat) : Sm H (n + 1) u v := by
  obtain ⟨t, rfl, e1⟩ := hu
  obtain ⟨t', rfl, e2⟩ := hv
  exact .inr ⟨t, t', _, _, rfl, rfl, .inr ⟨e1, e2⟩, Paired.cons (Sm.flat rfl) (Paired.cons (Sm.flat rfl) Paired.nil), by show 2 ≤ 100000; decide⟩
theorem sm_logs {H : Hp} {x y : Addr} {us vs : List V} {D : List Cl} (hx : H x = some (.lst us)) (hy : H y = some (.lst vs)) (pu : LG H us D) (pv : LG H vs D) (hl : D.length ≤ 100000) (n : Nat) : Sm H (n + 2) (.ref x) (.ref y) := by
  refine .inr ⟨x, y, _, _, rfl, rfl, .inl ⟨hx, hy⟩, ?_, by rw [pu.len]; exact hl⟩
  clear hx hy hl
  induction pu generalizing vs with
  | nil => cases pv; exact Paired.nil
  | cons r _ ih => cases pv with | cons r2 t2 => exact Paired.cons (sm_call r r2 n) (ih t2)
theorem sm_pair {H : Hp} {u v : V} {d : Pr} (hu : IsP H u d) (hv : IsP H v d) (n : Nat) : Sm H (n + 1) u v := by
  obtain ⟨t, rfl, e1⟩ := hu
  obtain ⟨t', rfl, e2⟩ := hv
  exact .inr ⟨t, t', _, _, rfl, rfl, .inr ⟨e1, e2⟩, Paired.cons (Sm.flat rfl) (Paired.cons (Sm.flat rfl) Paired.nil), by show 2 ≤ 100000; decide⟩
theorem sm_pairs {H : Hp} {x y : Addr} {us vs : List V} {D : List Pr} (hx : H x = some (.lst us)) (hy : H y = some (.lst vs)) (pu : PL H us D) (pv : PL H vs D) (hl : us.length ≤ 100000) (n : Nat) : Sm H (n + 2) (.ref x) (.ref y) := by
  refine .inr ⟨x, y, _, _, rfl, rfl, .inl ⟨hx, hy⟩, ?_, hl⟩
  clear hx hy hl
  induction pu generalizing vs with
  | nil => cases pv; exact Paired.nil
  | cons r _ ih => cases pv with | cons r2 t2 => exact Paired.cons (sm_pair r r2 n) (ih t2)
theorem mm2_same {r : Nat} {D : List Pr} (h : Drs r D) : D.map mm2 = D := by
  refine (List.map_congr_left fun d hd => ?_).trans (List.map_id _)
  have := (h.ok d hd).2.1
  unfold mm2
  rw [if_neg (by omega), if_pos (by omega)]
  rfl
theorem use_init {C x dx l : Addr} {r : Nat} {us : List V} {D G : List Pr} {H : Hp} {Q : VK} {E : XK} (nx : H x = none) (ndx : H dx = none) (hl : H l = some (.lst us)) (pl : PL H us D) (pm : (D.map mm2).Perm G) (drs : Drs r G) (r1 : 1 ≤ r) (r12 : r ≤ 12)
    (q : ∀ own H2, HouseAt C H2 x r G own → Same H H2 → (∀ b ∈ own, H b = none) → Q .non H2) : spHinit C [.ref x, .int r, .ref l] (upd (upd H dx (.own x)) x (.ins C dx [])) Q E := by
  have s0 : Same H (upd (upd H dx (.own x)) x (.ins C dx [])) := fun b o e => by
    rw [upd_ne (ne_of_none e nx), upd_ne (ne_of_none e ndx)]
    exact e
  refine ⟨x, dx, l, r, us, D, D.map mm2, rfl, upd_same, s0 _ _ hl, pl.kt (KT.same s0), rfl, pm.nodup_iff.mpr drs.asc.nodup, fun d hd => drs.ok d (pm.mem_iff.mp hd), r1, r12, fun D' own H' mem hh keep free => ?_⟩
  have e : D' = G := asc_uniq hh.ok.asc drs.asc fun d => (mem d).trans pm.mem_iff
  subst e
  refine q own H' hh (fun b o e => keep b o (s0 b o e) (ne_of_none e nx)) fun b hb => ?_
  by_cases e : b = x
  · rw [e]
    exact nx
  · exact s0.free (free b hb e)
/-- a method of the class at C that keeps a promise -/
structure Md (P : Program) (w : World) (K : PySem.W.Frag) (mg : Str → Option Value) (base : Heap) (C : Addr) (x : Str) (ps : List Str) (k : Nat) (sp : Sp) (f : Addr) (fd : FuncData) : Prop where
  m : Meth K C x f
  b : Binds K fd ps []
  ok : FnOk P w K mg base CX0 k f fd ps sp
theorem atI_neg {xs : List V} {j : Nat} {v : V} {z : Int} (e : z = -(1 + (j : Int))) (hj : j < xs.length) (g : xs[xs.length - 1 - j]? = some v) : atI xs z = some v := by
  unfold atI
  have e2 : ixN xs.length z = some (xs.length - 1 - j) := by
    unfold ixN
    rw [if_neg (by omega), if_pos (by omega)]
    congr 1
    omega
  rw [e2]
  exact g
theorem paired_append {α β : Type} {F : α → β → Prop} {a c : List α} {b d : List β} (h : Paired F a b) (k : Paired F c d) : Paired F (a ++ c) (b ++ d) := by
  induction h with
  | nil => exact k
  | cons r _ ih => exact Paired.cons r ih

/-! ### min of a list of tuples of ints -/
def dataT (q : List Int) : PyData := .tuple (q.map PyData.int)
def IsT (H : Hp) (v : V) (q : List Int) : Prop := ∃ t, v = .ref t ∧ H t = some (.tup (q.map V.int))
def TL (H : Hp) (us : List V) (L : List (List Int)) : Prop := Paired (IsT H) us L
theorem IsT.same {H H' : Hp} {v : V} {q : List Int} (h : IsT H v q) (s : Same H H') : IsT H' v q := by
  obtain ⟨t, e, ht⟩ := h
  exact ⟨t, e, s _ _ ht⟩
theorem TL.same {H H' : Hp} {us : List V} {L : List (List Int)} (h : TL H us L) (s : Same H H') : TL H' us L := Paired.mapP h fun _ _ q => q.same s
theorem dp_T {K : PySem.W.Frag} {H : Hp} {us : List V} {L : List (List Int)} (h : TL H us L) : DpAll K H us (L.map dataT) := by
  induction h with
  | nil => exact .nil
  | cons r _ ih =>
    obtain ⟨t, rfl, ht⟩ := r
    exact .cons (.tup (SqT.of ht) (dp_ints _)) ih
theorem toksG : ∀ p q : List Int, PyProof.Rows.lexLt itemOrd (PySem.W.keyToksAll (p.map PyData.int)) (PySem.W.keyToksAll (q.map PyData.int)) = true ↔ ltL p q
  | [], [] => by
    rw [PyProof.Rows.lex_irrefl]
    simp [ltL]
  | [], b :: t => by
    show PyProof.Rows.lexLt itemOrd (Sum.inl 0 :: []) (Sum.inl 1 :: Sum.inl b :: PySem.W.keyToksAll (t.map PyData.int)) = true ↔ True
    rw [PyProof.Rows.lex_diff (fun z => by have := Sum.inl.inj z; omega)]
    exact ⟨fun _ => trivial, fun _ => rfl⟩
  | a :: t, [] => by
    show PyProof.Rows.lexLt itemOrd (Sum.inl 1 :: Sum.inl a :: PySem.W.keyToksAll (t.map PyData.int)) (Sum.inl 0 :: []) = true ↔ False
    rw [PyProof.Rows.lex_diff (fun z => by have := Sum.inl.inj z; omega)]
    exact ⟨fun z => (by cases z), fun z => z.elim⟩
  | a :: s, b :: t => by
    show PyProof.Rows.lexLt itemOrd (Sum.inl 1 :: Sum.inl a :: PySem.W.keyToksAll (s.map PyData.int)) (Sum.inl 1 :: Sum.inl b :: PySem.W.keyToksAll (t.map PyData.int)) = true ↔ (a < b ∨ (a = b ∧ ltL s t))
    rw [PyProof.Rows.lex_self]
    by_cases c : a = b
    · subst c
      rw [PyProof.Rows.lex_self, toksG s t]
      exact ⟨fun z => .inr ⟨rfl, z⟩, fun z => z.elim (fun w => absurd w (by omega)) (·.2)⟩
    · rw [PyProof.Rows.lex_diff (fun z => c (Sum.inl.inj z))]
      show decide (a < b) = true ↔ _
      rw [decide_eq_true_iff]
      exact ⟨.inl, fun z => z.elim id fun w => absurd w.1 c⟩
theorem dataLt_T (p q : List Int) : PySem.W.dataLt (dataT p) (dataT q) = true ↔ ltL p q := toksG p q
theorem alike_T (p q : List Int) : PySem.W.alike (dataT p) (dataT q) = true := alike_ints p q
theorem dep_TL (L : List (List Int)) : PyData.depthAll (L.map dataT) ≤ 1 := by
  induction L with
  | nil => exact Nat.zero_le _
  | cons q L ih =>
    show max (PyData.depthAll (q.map PyData.int) + 1) (PyData.depthAll (L.map dataT)) ≤ 1
    rw [dep_ints]
    exact Nat.max_le.mpr ⟨Nat.le_refl _, ih⟩
theorem minD_T : ∀ (L : List (List Int)) (q : List Int), ∃ m ∈ q :: L, PySem.W.minD (dataT q) (L.map dataT) = dataT m ∧ ∀ p ∈ q :: L, m = p ∨ ltL m p
  | [], q => ⟨q, List.mem_cons_self, rfl, fun p hp => .inl (List.mem_singleton.mp hp).symm⟩
  | y :: L, q => by
    have e : PySem.W.minD (dataT q) ((y :: L).map dataT) = PySem.W.minD (if PySem.W.dataLt (dataT y) (dataT q) then dataT y else dataT q) (L.map dataT) := rfl
    by_cases c : ltL y q
    · rw [(dataLt_T y q).mpr c, if_pos rfl] at e
      obtain ⟨m, hm, em, le⟩ := minD_T L y
      refine ⟨m, List.mem_cons_of_mem _ hm, e.trans em, fun p hp => ?_⟩
      rcases List.mem_cons.mp hp with h | h
      · rw [h]
        rcases le y List.mem_cons_self with z | z
        · rw [z]; exact .inr c
        · exact .inr (ltL_trans z c)
      · exact le p h
    · have nc : ¬ PySem.W.dataLt (dataT y) (dataT q) = true := fun z => c ((dataLt_T y q).mp z)
      rw [if_neg nc] at e
      obtain ⟨m, hm, em, le⟩ := minD_T L q
      refine ⟨m, ?_, e.trans em, fun p hp => ?_⟩
      · rcases List.mem_cons.mp hm with h | h
        · rw [h]; exact List.mem_cons_self
        · exact List.mem_cons_of_mem _ (List.mem_cons_of_mem _ h)
      · rcases List.mem_cons.mp hp with h | h
        · exact le p (by rw [h]; exact List.mem_cons_self)
        · rcases List.mem_cons.mp h with h | h
          · rw [h]
            rcases le q List.mem_cons_self with z | z
            · rw [z]
              rcases ltL_tri q y with w | w | w
              · exact .inl w
              · exact .inr w
              · exact absurd w c
            · rcases ltL_tri q y with w | w | w
              · exact .inr (by rw [← w]; exact z)
              · exact .inr (ltL_trans z w)
              · exact absurd w c
          · exact le p (List.mem_cons_of_mem _ h)
theorem dataT_inj {p q : List Int} (h : dataT p = dataT q) : p = q := by
  unfold dataT at h
  have h2 : p.map PyData.int = q.map PyData.int := PyData.tuple.inj h
  exact List.map_inj_right (fun a b e => PyData.int.inj e) |>.mp h2
def rMinT (K : PySem.W.Frag) : List V → Hp → VK → Prop := fun vs H Q => ∃ (a : Addr) (us : List V) (L : List (List Int)), vs = [.ref a] ∧ SqL K H a us ∧ TL H us L ∧ L ≠ [] ∧ ∀ (v : V) (q : List Int), v ∈ us → IsT H v q → q ∈ L → (∀ p ∈ L, q = p ∨ ltL q p) → Q v H
theorem cr_minT {X : Cx} (hc : X.calm = true) (hu : X.A.units + 2 < cLine) : CallR X (.builtin "min") (rMinT X.K) := by
  intro pins s σ H vs us0 Q I r h
  obtain ⟨a, us, L, rfl, hs, tl, ne, q⟩ := h
  obtain ⟨its, rv, hl, _⟩ := I.list hs
  rw [Vals.ref1 r]
  cases L with
  | nil => exact absurd rfl ne
  | cons q0 L =>
    have dp := dp_T (K := X.K) tl
    obtain ⟨as, hr⟩ := Dp.readsAll I ((q0 :: L).map dataT) us its dp rv
    obtain ⟨m, hm, em, le⟩ := minD_T L q0
    refine PySem.W.min_list_data (x := dataT q0) (xs := L.map dataT) (I.ok.hd hc) hl.isList (by simpa using hr) ⟨fun x hx y hy => ?_, fun x hx => ?_⟩ ?_ fun i v h' tk bs hv hb hk => ?_
    · obtain ⟨p1, _, rfl⟩ := List.mem_map.mp (show x ∈ (q0 :: L).map dataT from hx)
      obtain ⟨p2, _, rfl⟩ := List.mem_map.mp (show y ∈ (q0 :: L).map dataT from hy)
      exact alike_T p1 p2
    · obtain ⟨p1, _, rfl⟩ := List.mem_map.mp (show x ∈ (q0 :: L).map dataT from hx)
      intro z
      cases z
    · have := dep_TL (q0 :: L)
      show X.A.units + 1 + PyData.depthAll ((q0 :: L).map dataT) < cLine
      omega
    · have hv2 : its[i]? = some v := by simpa using hv
      have hi := (List.getElem?_eq_some_iff.mp hv2).1
      have ul := rv.length
      obtain ⟨u, hu'⟩ : ∃ u, us[i]? = some u := ⟨us[i]'(by omega), List.getElem?_eq_getElem (by omega)⟩
      obtain ⟨v', hv', rel⟩ := rv.get hu'
      have ev := Option.some.inj (hv'.symm.trans hv2)
      subst ev
      obtain ⟨d, hd, isd⟩ := pget tl hu'
      have dpd : Dp X.K H u (dataT d) := by
        obtain ⟨t, rfl, ht⟩ := isd
        exact .tup (SqT.of ht) (dp_ints _)
      obtain ⟨as2, r2⟩ := Dp.reads I (dataT d) u v' dpd rel
      have eq := (PySem.Reads.unique (PySem.W.reads_keeps hk r2) _ _ hb).1
      rw [em] at eq
      have edm := dataT_inj eq
      subst edm
      exact ⟨u, H, I.kept hk, rel, q u d (List.mem_of_getElem? hu') isd hm le⟩

abbrev sLre : Stmt := topS 35
abbrev sLpc : Stmt := topS 39
theorem up_of {ys ks : List Int} (p : ys.Perm ks) (nd : ks.Nodup) (s : ys.Pairwise (· ≤ ·)) : Up ys := by
  have n2 : ys.Nodup := p.nodup_iff.mpr nd
  unfold Up
  refine List.Pairwise.imp (fun {a b} (h : a ≤ b ∧ a ≠ b) => by omega) (List.Pairwise.and s n2)
theorem lget {α β : Type} {F : α → β → Prop} : ∀ {vs : List α} {D : List β} {i : Nat} {v : α}, Paired F vs D → vs[i]? = some v → ∃ d, D[i]? = some d ∧ F v d
  | _, _, _, _, Paired.nil, e => by simp at e
  | _, _, 0, v, .cons r _, e => by
    have e2 := Option.some.inj e
    subst e2
    exact ⟨_, rfl, r⟩
  | _, _, i + 1, v, .cons _ t, e => lget (i := i) t e
theorem int_sub_len {l m : List Int} (nd : l.Nodup) (h : ∀ x ∈ l, x ∈ m) (p : ∀ x ∈ m, 0 ≤ x) : l.length ≤ m.length := by
  have h1 : (l.map Int.toNat).Nodup := by
    refine List.pairwise_map.mpr (List.Pairwise.imp_of_mem (fun {x y} hx hy ne e => ?_) nd)
    have b1 := p x (h x hx)
    have b2 := p y (h y hy)
    omega
  have h2 := nat_nodup_len _ (m.map Int.toNat) h1 fun c hc => by
    obtain ⟨x, hx, rfl⟩ := List.mem_map.mp hc
    exact List.mem_map.mpr ⟨x, h x hx, rfl⟩
  rw [List.length_map, List.length_map] at h2
  exact h2
theorem FInv.full {D : List Pr} {R F : List Int} {s : Int} (h : FInv D R s F) (p : ∀ x ∈ R, 0 ≤ x) (l : R.length ≤ F.length) : Clo D R F := fun a ha b hb ab => Classical.byContradiction fun n => by
  have h2 := h.add ha hb ab n
  have := int_sub_len h2.nd (fun x hx => (h2.rc x hx).mem) p
  rw [List.length_append] at this
  have e : F.length + 1 ≤ R.length := this
  omega
/-- the doors so far lead nowhere new -/
def Cl1 (R F : List Int) (E : List Pr) : Prop := ∀ d ∈ E, (d.1 ∈ F → d.2 ∈ R → d.2 ∈ F) ∧ (d.2 ∈ F → d.1 ∈ R → d.1 ∈ F)
theorem Cl1.clo {D : List Pr} {R F : List Int} (h : Cl1 R F D) : Clo D R F := fun a ha b hb ab => by
  rcases ab with m | m
  · exact (h _ m).1 ha hb
  · exact (h _ m).2 ha hb
theorem half {K : PySem.W.Frag} {i j : Nat} {x y : Int} {fnd o : Addr} {Fc R : List Int} {D : Ends} {σ : L2.St} {H : Hp} (g1 : σ[i]? = some (some (.int x))) (g2 : σ[j]? = some (some (.int y))) (g3 : σ[3]? = some (some (.ref fnd))) (g4 : σ[2]? = some (some (.ref o))) (hf : H fnd = some (.lst (Fc.map V.int))) (ho : SeqI K H o R) (hl : Fc.length ≤ 1000)
    (no : ¬ (x ∈ Fc ∧ y ∈ R ∧ y ∉ Fc) → D.nx σ H) (yes : x ∈ Fc → y ∈ R → y ∉ Fc → D.nx σ (upd H fnd (.lst ((Fc ++ [y]).map V.int)))) :
    tIfS (tAnd (tTest (tOp (rIn K false) (tVar i) (tVar 3))) (tAnd (tTest (tOp (rIn K false) (tVar j) (tVar 2))) (tTest (tOp (rIn K true) (tVar j) (tVar 3))))) (tDrop (tBM K "list" rAppend (tVar 3) (tCons (tVar j) tNil))) tNext D σ H := by
  refine ⟨_, g1, _, g3, fnd, _, rfl, .inl (SqL.of hf), rfl, flI _, ?_⟩
  rw [inI]
  refine ⟨_, rfl, ?_⟩
  by_cases h1 : x ∈ Fc
  · rw [decide_eq_true h1]
    refine iteT ⟨_, g2, _, g4, o, _, rfl, ho, rfl, flI _, ?_⟩
    rw [inI]
    refine ⟨_, rfl, ?_⟩
    by_cases h2 : y ∈ R
    · rw [decide_eq_true h2]
      refine iteT ⟨_, g2, _, g3, fnd, _, rfl, .inl (SqL.of hf), rfl, flI _, ?_⟩
      rw [inI]
      refine ⟨_, rfl, ?_⟩
      by_cases h3 : y ∈ Fc
      · rw [decide_eq_true h3]
        exact iteF (no fun z => z.2.2 h3)
      · rw [decide_eq_false h3]
        refine iteT ⟨_, g3, .inl ⟨rfl, _, SqL.of hf⟩, _, g2, ?_⟩
        walk_at "rd"
        refine ⟨_, hf, len_big (by rw [List.length_map]; omega), ?_⟩
        have q := yes h1 h2 h3
        rw [List.map_append] at q
        exact q
    · rw [decide_eq_false h2]
      exact iteF (no fun z => h2 z.2.1)
  · rw [decide_eq_false h1]
    exact iteF (no fun z => h1 z.1)
section
variable {P : Program} {w : World} {K : PySem.W.Frag} {mg : Str → Option Value} {base : Heap}
theorem scLre : FnScope ["doors", "start", "inside", "found", "k", "before", "a", "b"] ["doors", "start", "inside"] (defScope sLre) := ⟨rfl, rfl, rfl, by decide +kernel, rfl, by decide +kernel, by decide +kernel⟩
def spLre (K : PySem.W.Frag) : Sp := fun vs H Q _ => ∃ (l o : Addr) (s : Int) (us : List V) (D : List Pr) (R : List Int), vs = [.ref l, .int s, .ref o] ∧ H l = some (.lst us) ∧ PL H us D ∧ SeqI K H o R ∧ R.length < 64 ∧ (∀ x ∈ R, 0 ≤ x) ∧
  ∀ (ys : List Int) (t : Addr) (H' : Hp), Pc D R s ys → Same H H' → H t = none → H' t = some (.lst (ys.map V.int)) → Q (.ref t) H'
theorem ok_lre {f : Addr} {fd : FuncData} (F : Fun K "_law_reach" "_law_reach" sLre f fd) (T : Bi mg) : FnOk P w K mg base CX0 1 f fd ["doors", "start", "inside"] (spLre K) := by
  refine F.ok scLre (fun vs H Q E h => ?_) (fun cdv A outer s0 H vs Q E hr h => ?_)
  · obtain ⟨l, o, s, us, D, R, rfl, _⟩ := h
    rfl
  · obtain ⟨l, o, s, us, D, R, rfl, hl, pl, ho, h64, hR, ret⟩ := h
    refine ⟨_, (pss_cons (ps_set (i := 3) scLre.nd rfl (Or.inl rfl) (pe_lst pa_nil))
      (pss_cons (ps_if (pt_cmpR op_in_seq (pv 1) (pv 2) (by rfl))
      (pss_one (ps_expr (pe_bm PySem.F.plainAttrs_list PySem.F.slot_list_append PySem.F.type_list_append mt_append (pv 3) (pa_cons (pv 1) pa_nil))))
      pss_nil)
      (pss_cons (ps_for PassesOwn.never rfl (pi_range1 (by rfl) T.range (pa_cons (pe_callB call_len_seq (by rfl) T.len (by decide +kernel) (pa_cons (pv 2) pa_nil)) pa_nil)) (pg_name (i := 4) scLre.nd rfl (Or.inl rfl))
      (pss_cons (ps_set (i := 5) scLre.nd rfl (Or.inl rfl) (pe_callB call_len_seq (by rfl) T.len (by decide +kernel) (pa_cons (pv 3) pa_nil)))
        (pss_cons (ps_for PassesOwn.never rfl (pi_list (pv 0)) (pg_tup rfl (pgs_cons (pg_name (i := 6) scLre.nd rfl (Or.inl rfl)) (pgs_cons (pg_name (i := 7) scLre.nd rfl (Or.inl rfl)) pgs_nil)))
        (pss_cons (ps_if (PW.pt (pw_and (pt_cmpR op_in_seq (pv 6) (pv 3) (by rfl)) (pw_and (pt_cmpR op_in_seq (pv 7) (pv 2) (by rfl)) (pw_and1 (pt_cmpR op_notIn_seq (pv 7) (pv 3) (by rfl))))))
          (pss_one (ps_expr (pe_bm PySem.F.plainAttrs_list PySem.F.slot_list_append PySem.F.type_list_append mt_append (pv 3) (pa_cons (pv 7) pa_nil))))
          pss_nil)
          (pss_one (ps_if (PW.pt (pw_and (pt_cmpR op_in_seq (pv 7) (pv 3) (by rfl)) (pw_and (pt_cmpR op_in_seq (pv 6) (pv 2) (by rfl)) (pw_and1 (pt_cmpR op_notIn_seq (pv 6) (pv 3) (by rfl))))))
          (pss_one (ps_expr (pe_bm PySem.F.plainAttrs_list PySem.F.slot_list_append PySem.F.type_list_append mt_append (pv 3) (pa_cons (pv 6) pa_nil))))
          pss_nil))))
        (pss_one (ps_if (pt_cmpR op_eqI (pe_callB call_len_seq (by rfl) T.len (by decide +kernel) (pa_cons (pv 3) pa_nil)) (pv 5) (nomark _))
        (pss_one (ps_break))
        pss_nil)))))
      (pss_one (ps_ret (pe_callB cr_sorted (by rfl) T.sorted (by decide +kernel) (pa_cons (pv 3) pa_nil))))))), ?_⟩
    walk_at "rd"
    refine ⟨Nat.zero_le _, fun fnd nf => ?_⟩
    have s1 : Same H (upd H fnd (HO.lst [])) := same_upd nf
    refine ⟨o, _, rfl, ho.same s1, rfl, flI _, ?_⟩
    rw [inI]
    refine ⟨_, rfl, ?_⟩
    by_cases m : s ∈ R
    rw [decide_eq_true m]
    refine iteT ?_
    walk_at "rd"
    refine ⟨.inl ⟨rfl, _, SqL.of upd_same⟩, [], upd_same, by decide, ?_⟩
    have s2 : Same H (upd (upd H fnd (HO.lst [])) fnd (HO.lst ([] ++ [V.int s]))) := same_ch s1 nf
    have pk : ∃ F0 : List Int, upd (upd H fnd (HO.lst [])) fnd (HO.lst ([] ++ [V.int s])) fnd = some (.lst (F0.map V.int)) ∧ FInv D R s F0 :=
      ⟨[s], upd_same, (by simp), fun x hx => (by rw [List.mem_singleton.mp hx]; exact .base m), fun _ => List.mem_cons_self⟩
    generalize upd (upd H fnd (HO.lst [])) fnd (HO.lst ([] ++ [V.int s])) = H1 at s2 pk
    rotate_left
    rw [decide_eq_false m]
    refine iteF ?_
    have s2 := s1
    have pk : ∃ F0 : List Int, upd H fnd (HO.lst []) fnd = some (.lst (F0.map V.int)) ∧ FInv D R s F0 := ⟨[], upd_same, List.nodup_nil, fun x hx => (by cases hx), fun z => absurd z m⟩
    generalize upd H fnd (HO.lst []) = H1 at s1 s2 pk
    all_goals
      clear s1
      obtain ⟨F0, hF0, fi0⟩ := pk
      have ul : us.length = D.length := pl.len
      have flen : ∀ F : List Int, FInv D R s F → F.length ≤ R.length := fun F fi => int_sub_len fi.nd (fun x hx => (fi.rc x hx).mem) hR
      refine for_iterW ?_
      walk_at "rd"
      obtain ⟨Pv, hPv⟩ : ∃ Pv : Nat → L2.St → Hp → Prop, Pv = (fun i σ H' => ∃ (F : List Int) (v4 v5 v6 v7 : Option V), σ = [some (.ref l), some (.int s), some (.ref o), some (.ref fnd), v4, v5, v6, v7] ∧ Same H H' ∧ H' fnd = some (.lst (F.map V.int)) ∧ FInv D R s F ∧ i ≤ F.length) := ⟨_, rfl⟩
      refine ⟨R.map V.int, ho.same s2, by rw [List.length_map]; omega, by rw [List.length_map]; omega, for_range (lo := 0) (n := (((R.map V.int).length : Nat) : Int).toNat) Pv (by rw [hPv]; exact ⟨F0, none, none, none, none, rfl, s2, hF0, fi0, Nat.zero_le _⟩) (fun i σ H2 hi pv => ?body) (fun σ H2 pv => ?done)⟩
      case done =>
        rw [hPv] at pv
        obtain ⟨F, v4, v5, v6, v7, rfl, sm, hF, fi, le⟩ := pv
        rw [List.length_map, Int.toNat_natCast] at le
        have clo := fi.full hR le
        have fl := flen F fi
        walk_at "rd"
        refine ⟨_, F, rfl, SqL.of hF, by omega, fun ys t pm so nt => ?_⟩
        exact ret ys t _ ⟨up_of pm fi.nd so, fun x => pm.mem_iff.trans (fi.all clo x)⟩ (sm.trans (same_upd nt)) (sm.free nt) upd_same
      case body =>
        rw [hPv] at pv
        obtain ⟨F, v4, v5, v6, v7, rfl, sm, hF, fi, le⟩ := pv
        have hl2 := sm _ _ hl
        have pl2 := pl.kt (KT.same sm)
        walk_at "rg"
        refine ⟨_, rfl, fnd, rfl, F.map V.int, .inl (SqL.of hF), ?_⟩
        walk_at "rg"
        refine for_iterW ?_
        obtain ⟨Pw, hPw⟩ : ∃ Pw : Nat → L2.St → Hp → Prop, Pw = (fun j σ H' => ∃ (G : List Int) (v6 v7 : Option V), σ = [some (.ref l), some (.int s), some (.ref o), some (.ref fnd), some (.int (0 + (i : Int))), some (.int ((F.map V.int).length : Nat)), v6, v7] ∧ Same H H' ∧ H' fnd = some (.lst ((F ++ G).map V.int)) ∧ FInv D R s (F ++ G) ∧ (G = [] → Cl1 R F (D.take j))) := ⟨_, rfl⟩
        refine ⟨_, rfl, l, rfl, ⟨_, SqL.of hl2⟩, for_list (K := K) (a := l) (xs := us) Pw (by rw [hPw]; exact ⟨[], v6, v7, rfl, sm, by rw [List.append_nil]; exact hF, by rw [List.append_nil]; exact fi, fun _ d hd => by rw [List.take_zero] at hd; cases hd⟩) (fun j σ H' _ pv => by rw [hPw] at pv; obtain ⟨_, _, _, _, s5, _⟩ := pv; exact SqL.of (s5 _ _ hl)) (fun j v σ H3 gv pv => ?inner) (fun σ H3 pv => ?after)⟩
        case after =>
          rw [hPw] at pv
          obtain ⟨G, v6, v7, rfl, s5, hG, fi5, cl5⟩ := pv
          rw [ul, List.take_length] at cl5
          have fl := flen _ fi5
          rw [List.length_append] at fl
          walk_at "rd"
          refine ⟨_, .inl (SqL.of hG), ?_⟩
          rw [List.length_map, List.length_map, List.length_append]
          cases G with
          | nil =>
            rw [List.append_nil] at hG fi5
            refine ite2 (fun _ => ?_) (fun z => (by simp at z))
            refine ⟨_, F, rfl, SqL.of hG, by omega, fun ys t pm so nt => ?_⟩
            exact ret ys t _ ⟨up_of pm fi5.nd so, fun x => pm.mem_iff.trans (fi5.all (cl5 rfl).clo x)⟩ (s5.trans (same_upd nt)) (s5.free nt) upd_same
          | cons g0 G =>
            refine ite2 (fun z => absurd z (by rw [List.length_cons]; omega)) (fun _ => ?_)
            rw [hPv]
            exact ⟨F ++ g0 :: G, _, _, _, _, rfl, s5, hG, fi5, by rw [List.length_append, List.length_cons]; omega⟩
        case inner =>
          have nxt : ∀ (G : List Int) (v6 v7 : Option V) (H' : Hp), Same H H' → H' fnd = some (.lst ((F ++ G).map V.int)) → FInv D R s (F ++ G) → (G = [] → Cl1 R F (D.take (j + 1))) → Pw (j + 1) [some (.ref l), some (.int s), some (.ref o), some (.ref fnd), some (.int (0 + (i : Int))), some (.int ((F.map V.int).length : Nat)), v6, v7] H' := fun G v6 v7 H' h1 h2 h3 h4 => by
            rw [hPw]
            exact ⟨G, v6, v7, rfl, h1, h2, h3, h4⟩
          rw [hPw] at pv
          obtain ⟨G, v6, v7, rfl, s5, hG, fi5, cl5⟩ := pv
          obtain ⟨d, gd, td, rfl, htd⟩ := lget pl gv
          have fl := flen _ fi5
          have dD : d ∈ D := List.mem_of_getElem? gd
          have tk : D.take (j + 1) = D.take j ++ [d] := by rw [List.take_add_one, gd]; rfl
          rw [tk] at nxt
          walk_at "rg"
          refine ⟨_, SqT.of (s5 _ _ htd), rfl, _, _, rfl, _, _, rfl, rfl, ?_⟩
          walk_at "rg"
          refine half (R := R) rfl rfl rfl rfl hG (ho.same s5) (by omega) (fun n1 => ?_) (fun a1 b1 c1 => ?_)
          · refine half (R := R) rfl rfl rfl rfl hG (ho.same s5) (by omega) (fun n2 => ?_) (fun a2 b2 c2 => ?_)
            · refine nxt G _ _ H3 s5 hG fi5 fun e => ?_
              subst e
              rw [List.append_nil] at n1 n2
              intro c hc
              rcases List.mem_append.mp hc with z | z
              · exact cl5 rfl c z
              · rw [List.mem_singleton.mp z]
                exact ⟨fun h1 h2 => Classical.byContradiction fun h3 => n1 ⟨h1, h2, h3⟩, fun h1 h2 => Classical.byContradiction fun h3 => n2 ⟨h1, h2, h3⟩⟩
            · rw [List.append_assoc]
              refine nxt (G ++ [d.1]) _ _ _ (same_ch s5 nf) (by rw [upd_same]) ?_ (fun e => absurd e (by simp))
              rw [← List.append_assoc]
              exact fi5.add a2 b2 (.inr dD) c2
          · have fi6 := fi5.add a1 b1 (.inl dD) c1
            have fl6 := flen _ fi6
            have s6 := same_ch (o := HO.lst ((F ++ G ++ [d.2]).map V.int)) s5 nf
            have hG6 : upd H3 fnd (HO.lst ((F ++ G ++ [d.2]).map V.int)) fnd = some (.lst ((F ++ G ++ [d.2]).map V.int)) := upd_same
            generalize upd H3 fnd (HO.lst ((F ++ G ++ [d.2]).map V.int)) = H6 at s6 hG6
            refine half (R := R) rfl rfl rfl rfl hG6 (ho.same s6) (by omega) (fun n2 => ?_) (fun a2 b2 c2 => ?_)
            · refine nxt (G ++ [d.2]) _ _ H6 s6 (by rw [← List.append_assoc]; exact hG6) (by rw [← List.append_assoc]; exact fi6) (fun e => absurd e (by simp))
            · rw [List.append_assoc, List.append_assoc]
              refine nxt (G ++ ([d.2] ++ [d.1])) _ _ _ (same_ch s6 nf) (by rw [upd_same]) ?_ (fun e => absurd e (by simp))
              rw [← List.append_assoc, ← List.append_assoc]
              exact fi6.add a2 b2 (.inr dD) c2
end

abbrev sLwd : Stmt := topS 24
abbrev sLws : Stmt := topS 0
abbrev sLlg : Stmt := topS 30
section
variable {P : Program} {w : World} {K : PySem.W.Frag} {mg : Str → Option Value} {base : Heap}
theorem scLlg : FnScope ["numbers", "at", "many", "rooms", "words", "log", "k", "room"] ["numbers", "at", "many", "rooms", "words"] (defScope sLlg) := ⟨rfl, rfl, rfl, by decide +kernel, rfl, by decide +kernel, by decide +kernel⟩
def spLlg (K : PySem.W.Frag) : Sp := fun vs H Q _ => ∃ (a b : Addr) (ns : List Int) (at_ m r : Nat) (Z : List Str), vs = [.ref a, .int at_, .int m, .int r, .ref b] ∧ SqL K H a (ns.map V.int) ∧ at_ + 2 * m ≤ ns.length ∧ m ≤ 1000 ∧ 1 ≤ r ∧ H b = some (.lst (Z.map V.str)) ∧ 1 ≤ Z.length ∧ (∀ z ∈ Z, wk 17 z) ∧
  ∀ L ws p H', L.length = m → InR r L → (∀ c ∈ L, wk 17 c.2) → Same H H' → H p = none → H' p = some (.lst ws) → LG H' ws L → Q (.ref p) H'
theorem ok_llg {f : Addr} {fd : FuncData} (F : Fun K "_law_log" "_law_log" sLlg f fd) (T : Bi mg) : FnOk P w K mg base CX0 1 f fd ["numbers", "at", "many", "rooms", "words"] (spLlg K) := by
  refine F.ok scLlg (fun vs H Q E h => ?_) (fun cdv A outer s H vs Q E hr h => ?_)
  · obtain ⟨a, b, ns, at_, m, r, Z, rfl, _⟩ := h
    rfl
  · obtain ⟨a, b, ns, at_, m, r, Z, rfl, hS, hn, hm, r1, hb, z1, zw, q⟩ := h
    refine ⟨_, (pss_cons (ps_set (i := 5) scLlg.nd rfl (Or.inl rfl) (pe_lst pa_nil))
      (pss_cons (ps_for PassesOwn.never rfl (pi_range1 (by rfl) T.range (pa_cons (pv 2) pa_nil)) (pg_name (i := 6) scLlg.nd rfl (Or.inl rfl))
      (pss_cons (ps_set (i := 7) scLlg.nd rfl (Or.inl rfl) (pe_op op_mod (pe_callTy cr_intI (by rfl) T.int (by decide +kernel) (pa_cons (pe_ix ix_list (pv 0) (pe_op op_add (pv 1) (pe_op op_mul pe_int (pv 6))) (fun _ _ => rfl)) pa_nil)) (pv 3)))
        (pss_one (ps_expr (pe_bm PySem.F.plainAttrs_list PySem.F.slot_list_append PySem.F.type_list_append mt_append (pv 5) (pa_cons (pe_tup (pa_cons (pv 7) (pa_cons (pe_ix ix_list (pv 4) (pe_op op_mod (pe_callTy cr_intI (by rfl) T.int (by decide +kernel) (pa_cons (pe_ix ix_list (pv 0) (pe_op op_add (pe_op op_add (pv 1) (pe_op op_mul pe_int (pv 6))) pe_int) (fun _ _ => rfl)) pa_nil)) (pe_callB call_len_seq (by rfl) T.len (by decide +kernel) (pa_cons (pv 4) pa_nil))) (fun _ _ => rfl)) pa_nil))) pa_nil))))))
      (pss_one (ps_ret (pv 5))))), ?_⟩
    walk_at "rd"
    have gn : ∀ (j : Nat), j < ns.length → ∃ x, (ns.map V.int)[j]? = some (.int x) := fun j hj => ⟨ns[j], by rw [List.getElem?_map, List.getElem?_eq_getElem hj]; rfl⟩
    refine ⟨by decide, fun p np => ?_⟩
    refine for_iterW ?_
    walk_at "rd"
    obtain ⟨Pv, hPv⟩ : ∃ Pv : Nat → L2.St → Hp → Prop, Pv = (fun i σ H' => ∃ (ws : List V) (L : List Cl) (v5 v6 : Option V), σ = [some (.ref a), some (.int at_), some (.int m), some (.int r), some (.ref b), some (.ref p), v5, v6] ∧ Same H H' ∧ H' p = some (.lst ws) ∧ LG H' ws L ∧ L.length = i ∧ InR r L ∧ ∀ c ∈ L, wk 17 c.2) := ⟨_, rfl⟩
    refine ⟨by omega, by omega, for_range (lo := 0) (n := (m : Int).toNat) Pv (by rw [hPv]; exact ⟨[], [], none, none, rfl, same_upd np, upd_same, LG.nil0 _, rfl, (fun c hc => by cases hc), fun c hc => by cases hc⟩) (fun i σ H' hi pv => ?_) (fun σ H' pv => ?_)⟩
    rotate_left
    · rw [hPv] at pv
      obtain ⟨ws, L, v5, v6, rfl, sm, hp, lw, lL, inr, wks⟩ := pv
      walk_at "rd"
      exact q L ws p H' (by omega) inr wks sm np hp lw
    rw [hPv] at pv
    obtain ⟨ws, L, v5, v6, rfl, sm, hp, lw, lL, inr, wks⟩ := pv
    have hS' := sm.seq hS
    have hb' := sm _ _ hb
    obtain ⟨x0, g0⟩ := gn (at_ + 2 * i) (by omega)
    obtain ⟨x1, g1⟩ := gn (at_ + 2 * i + 1) (by omega)
    have r0 := Int.emod_nonneg x0 (show (r : Int) ≠ 0 by omega)
    have r2 := Int.emod_lt_of_pos x0 (show (0 : Int) < r by omega)
    have p0 := Int.emod_nonneg x1 (show (Z.length : Int) ≠ 0 by omega)
    have p1 := Int.emod_lt_of_pos x1 (show (0 : Int) < (Z.length : Int) by omega)
    obtain ⟨j, ej⟩ : ∃ j : Nat, x1 % (Z.length : Int) = j := ⟨(x1 % (Z.length : Int)).toNat, by omega⟩
    obtain ⟨z, gz, zk⟩ : ∃ z, (Z.map V.str)[j]? = some (.str z) ∧ wk 17 z := ⟨Z[j]'(by omega), by rw [List.getElem?_map, List.getElem?_eq_getElem (by omega)]; rfl, zw _ (List.getElem_mem _)⟩
    have wl : ws.length ≤ 1000 := by rw [lw.len]; omega
    walk_at "rd"
    refine ⟨.inl (by decide), _, hS', _, at_of (j := at_ + 2 * i) (by omega) g0, x0, rfl, by omega, .inl ⟨rfl, _, SqL.of hp⟩, .inl (by decide), _, hS', _, at_of (j := at_ + 2 * i + 1) (by omega) g1, x1, rfl, _, .inl (SqL.of hb'), by rw [List.length_map]; omega, _, SqL.of hb', .str z, by rw [List.length_map, ej]; exact atI_nat gz, by decide, fun t nt => ?_⟩
    have st := same_upd (o := HO.tup [V.int (x0 % (r : Int)), V.str z]) nt
    have ht := upd_same (H := H') (a := t) (o := HO.tup [V.int (x0 % (r : Int)), V.str z])
    generalize upd H' t (HO.tup [V.int (x0 % (r : Int)), V.str z]) = H2 at st ht ⊢
    have hp2 := st _ _ hp
    have kt : KT H2 (upd H2 p (HO.lst (ws ++ [V.ref t]))) := KT.lst hp2
    refine ⟨ws, hp2, len_big (by omega), ?_⟩
    rw [hPv]
    refine ⟨ws ++ [.ref t], L ++ [(x0 % (r : Int), z)], _, _, rfl, same_ch (sm.trans st) np, upd_same, LG.snoc ((lw.kt (KT.same st)).kt kt) ⟨t, rfl, kt _ _ ht⟩, by rw [List.length_append, lL]; rfl, fun c hc => ?_, fun c hc => ?_⟩
    · rcases List.mem_append.mp hc with h | h
      · exact inr c h
      · rw [List.mem_singleton.mp h]
        exact ⟨r0, r2⟩
    · rcases List.mem_append.mp hc with h | h
      · exact wks c h
      · rw [List.mem_singleton.mp h]
        exact zk
end

/-! ### _law_calls: a call for each cell -/
abbrev sLcs : Stmt := topS 33
theorem for_itL {wi : TI} {g : TG} {tb : TS} {D : Ends} {σ : L2.St} {H : Hp} (h : wi σ H fun J H1 => tFor (fun _ H R => R J H) g tb D σ H1) : tFor wi g tb D σ H := h
section
variable {P : Program} {w : World} {K : PySem.W.Frag} {mg : Str → Option Value} {base : Heap}
theorem scLcs : FnScope ["script", "at", "rooms", "words", "most", "log", "k", "cell"] ["script", "at", "rooms", "words", "most"] (defScope sLcs) := ⟨rfl, rfl, rfl, by decide +kernel, rfl, by decide +kernel, by decide +kernel⟩
def spLcs (K : PySem.W.Frag) : Sp := fun vs H Q _ => ∃ (a b : Addr) (ns : List Int) (at_ most r n : Nat) (Z : List Str), vs = [.ref a, .int at_, .int r, .ref b, .int most] ∧ SqL K H a (ns.map V.int) ∧ ns.length ≤ 63 ∧ at_ ≤ 1000 ∧ most ≤ 1000 ∧ 1 ≤ r ∧ H b = some (.lst (Z.map V.str)) ∧ 1 ≤ Z.length ∧ (∀ z ∈ Z, wk n z) ∧
  ∀ L ws p H', L.length ≤ most → InR r L → (∀ c ∈ L, wk n c.2) → (∀ c ∈ L, c.2 ∈ Z) → Same H H' → H p = none → H' p = some (.lst ws) → LG H' ws L → Q (.ref p) H'
theorem ok_lcs {f fC : Addr} {fd fdC : FuncData} (F : Fun K "_law_calls" "_law_calls" sLcs f fd) (T : Bi mg) (d__law_cell : Df P w K mg base "_law_cell" ["script", "k"] 1 (spCell K) fC fdC) : FnOk P w K mg base CX0 2 f fd ["script", "at", "rooms", "words", "most"] (spLcs K) := by
  refine F.ok scLcs (fun vs H Q E h => ?_) (fun cdv A outer s H vs Q E hr h => ?_)
  · obtain ⟨a, b, ns, at_, most, r, n, Z, rfl, _⟩ := h
    rfl
  · obtain ⟨a, b, ns, at_, most, r, n, Z, rfl, hS, hn, ha, hm, r1, hb, z1, zw, q⟩ := h
    refine ⟨_, (pss_cons (ps_set (i := 5) scLcs.nd rfl (Or.inl rfl) (pe_lst pa_nil))
      (pss_cons (ps_for PassesOwn.never rfl (pi_range2 (by rfl) T.range (pa_cons (pv 1) (pa_cons (pe_callB (call_min2 rfl) (by rfl) T.min (by decide +kernel) (pa_cons (pe_callB call_len_seq (by rfl) T.len (by decide +kernel) (pa_cons (pv 0) pa_nil)) (pa_cons (pe_op op_add (pv 1) (pv 4)) pa_nil))) pa_nil))) (pg_name (i := 6) scLcs.nd rfl (Or.inl rfl))
      (pss_cons (ps_set (i := 7) scLcs.nd rfl (Or.inl rfl) (pe_call d__law_cell.ok (hr.mono (by decide)) (by rfl) d__law_cell.at_ d__law_cell.kp d__law_cell.b .nil pass0 (pa_cons (pv 0) (pa_cons (pv 6) pa_nil))))
        (pss_one (ps_expr (pe_bm PySem.F.plainAttrs_list PySem.F.slot_list_append PySem.F.type_list_append mt_append (pv 5) (pa_cons (pe_tup (pa_cons (pe_op op_mod (pe_callTy cr_intI (by rfl) T.int (by decide +kernel) (pa_cons (pv 7) pa_nil)) (pv 2)) (pa_cons (pe_ix ix_list (pv 3) (pe_op op_mod (pe_callTy cr_intI (by rfl) T.int (by decide +kernel) (pa_cons (pe_op op_fdiv (pv 7) pe_int) pa_nil)) (pe_callB call_len_seq (by rfl) T.len (by decide +kernel) (pa_cons (pv 3) pa_nil))) (fun _ _ => rfl)) pa_nil))) pa_nil))))))
      (pss_one (ps_ret (pv 5))))), ?_⟩
    walk_at "rd"
    refine ⟨by decide, fun p np => ?_⟩
    refine for_itL ?_
    walk_at "rd"
    have hS1 := (same_upd (o := HO.lst []) np).seq hS
    refine ⟨_, .inl hS1, ?_⟩
    obtain ⟨e, he, el⟩ : ∃ e : Int, (if (at_ : Int) + (most : Int) < (((ns.map V.int).length : Nat) : Int) then (at_ : Int) + (most : Int) else (((ns.map V.int).length : Nat) : Int)) = e ∧ 0 ≤ e ∧ e ≤ at_ + most ∧ e ≤ 63 := by
      rw [List.length_map]
      by_cases c : (at_ : Int) + most < ns.length
      · rw [if_pos c]
        exact ⟨_, rfl, by omega, by omega, by omega⟩
      · rw [if_neg c]
        exact ⟨_, rfl, by omega, by omega, by omega⟩
    rw [he]
    obtain ⟨e0, e1, e2⟩ := el
    obtain ⟨Pv, hPv⟩ : ∃ Pv : Nat → L2.St → Hp → Prop, Pv = (fun i σ H' => ∃ (ws : List V) (L : List Cl) (v6 v7 : Option V), σ = [some (.ref a), some (.int at_), some (.int r), some (.ref b), some (.int most), some (.ref p), v6, v7] ∧ Same H H' ∧ H' p = some (.lst ws) ∧ LG H' ws L ∧ L.length = i ∧ InR r L ∧ (∀ c ∈ L, wk n c.2) ∧ ∀ c ∈ L, c.2 ∈ Z) := ⟨_, rfl⟩
    refine ⟨by omega, by omega, by omega, by omega, for_range (lo := (at_ : Int)) (n := (e - (at_ : Int)).toNat) Pv (by rw [hPv]; exact ⟨[], [], none, none, rfl, same_upd np, upd_same, LG.nil0 _, rfl, (fun c hc => by cases hc), (fun c hc => by cases hc), fun c hc => by cases hc⟩) (fun i σ H' hi pv => ?_) (fun σ H' pv => ?_)⟩
    rotate_left
    · rw [hPv] at pv
      obtain ⟨ws, L, v6, v7, rfl, sm, hp, lw, lL, inr, wks, mz⟩ := pv
      walk_at "rd"
      exact q L ws p H' (by omega) inr wks mz sm np hp lw
    rw [hPv] at pv
    obtain ⟨ws, L, v6, v7, rfl, sm, hp, lw, lL, inr, wks, mz⟩ := pv
    have hS' := sm.seq hS
    have hb' := sm _ _ hb
    rw [show ((at_ : Int) + (i : Int)) = ((at_ + i : Nat) : Int) by omega]
    walk_at "rd"
    refine ⟨a, ns, at_ + i, rfl, hS', fun x0 _ => ?_⟩
    have r0 := Int.emod_nonneg x0 (show (r : Int) ≠ 0 by omega)
    have r2 := Int.emod_lt_of_pos x0 (show (0 : Int) < r by omega)
    have p0 := Int.emod_nonneg (x0 / 13) (show (Z.length : Int) ≠ 0 by omega)
    have p1 := Int.emod_lt_of_pos (x0 / 13) (show (0 : Int) < (Z.length : Int) by omega)
    obtain ⟨j, ej⟩ : ∃ j : Nat, x0 / 13 % (Z.length : Int) = j := ⟨(x0 / 13 % (Z.length : Int)).toNat, by omega⟩
    obtain ⟨z, gz, zk, zm⟩ : ∃ z, (Z.map V.str)[j]? = some (.str z) ∧ wk n z ∧ z ∈ Z := ⟨Z[j]'(by omega), by rw [List.getElem?_map, List.getElem?_eq_getElem (by omega)]; rfl, zw _ (List.getElem_mem _), List.getElem_mem _⟩
    have wl : ws.length ≤ 1063 := by rw [lw.len]; omega
    refine ⟨.inl ⟨rfl, _, SqL.of hp⟩, x0, rfl, by omega, x0, rfl, (by unfold CDiv; first | exact .inr (by decide) | decide | omega), _, .inl (SqL.of hb'), by rw [List.length_map]; omega, _, SqL.of hb', .str z, by rw [List.length_map, ej]; exact atI_nat gz, by decide, fun t nt => ?_⟩
    have st := same_upd (o := HO.tup [V.int (x0 % (r : Int)), V.str z]) nt
    have ht := upd_same (H := H') (a := t) (o := HO.tup [V.int (x0 % (r : Int)), V.str z])
    generalize upd H' t (HO.tup [V.int (x0 % (r : Int)), V.str z]) = H2 at st ht ⊢
    have hp2 := st _ _ hp
    have kt : KT H2 (upd H2 p (HO.lst (ws ++ [V.ref t]))) := KT.lst hp2
    refine ⟨ws, hp2, len_big (by omega), ?_⟩
    rw [hPv]
    refine ⟨ws ++ [.ref t], L ++ [(x0 % (r : Int), z)], _, _, rfl, same_ch (sm.trans st) np, upd_same, LG.snoc ((lw.kt (KT.same st)).kt kt) ⟨t, rfl, kt _ _ ht⟩, by rw [List.length_append, lL]; rfl, fun c hc => ?_, fun c hc => ?_, fun c hc => ?_⟩
    · rcases List.mem_append.mp hc with h | h
      · exact inr c h
      · rw [List.mem_singleton.mp h]
        exact ⟨r0, r2⟩
    · rcases List.mem_append.mp hc with h | h
      · exact wks c h
      · rw [List.mem_singleton.mp h]
        exact zk
    · rcases List.mem_append.mp hc with h | h
      · exact mz c h
      · rw [List.mem_singleton.mp h]
        exact zm
end

/-! ### a block cut into stretches -/
theorem sq1 {a1 b : TS} {D : Ends} {σ : L2.St} {H : Hp} (h : ∀ N : L2.St → Hp → Prop, (∀ σ' H', b D σ' H' → N σ' H') → a1 { D with nx := N } σ H) : (tSeq a1 b) D σ H := h (b D) fun _ _ z => z
theorem sq2 {a1 a2 b : TS} {D : Ends} {σ : L2.St} {H : Hp} (h : ∀ N : L2.St → Hp → Prop, (∀ σ' H', b D σ' H' → N σ' H') → (tSeq a1 a2) { D with nx := N } σ H) : (tSeq a1 (tSeq a2 b)) D σ H := h (b D) fun _ _ z => z
theorem sq3 {a1 a2 a3 b : TS} {D : Ends} {σ : L2.St} {H : Hp} (h : ∀ N : L2.St → Hp → Prop, (∀ σ' H', b D σ' H' → N σ' H') → (tSeq a1 (tSeq a2 a3)) { D with nx := N } σ H) : (tSeq a1 (tSeq a2 (tSeq a3 b))) D σ H := h (b D) fun _ _ z => z
theorem sq4 {a1 a2 a3 a4 b : TS} {D : Ends} {σ : L2.St} {H : Hp} (h : ∀ N : L2.St → Hp → Prop, (∀ σ' H', b D σ' H' → N σ' H') → (tSeq a1 (tSeq a2 (tSeq a3 a4))) { D with nx := N } σ H) : (tSeq a1 (tSeq a2 (tSeq a3 (tSeq a4 b)))) D σ H := h (b D) fun _ _ z => z
theorem sq5 {a1 a2 a3 a4 a5 b : TS} {D : Ends} {σ : L2.St} {H : Hp} (h : ∀ N : L2.St → Hp → Prop, (∀ σ' H', b D σ' H' → N σ' H') → (tSeq a1 (tSeq a2 (tSeq a3 (tSeq a4 a5)))) { D with nx := N } σ H) : (tSeq a1 (tSeq a2 (tSeq a3 (tSeq a4 (tSeq a5 b))))) D σ H := h (b D) fun _ _ z => z
theorem sq6 {a1 a2 a3 a4 a5 a6 b : TS} {D : Ends} {σ : L2.St} {H : Hp} (h : ∀ N : L2.St → Hp → Prop, (∀ σ' H', b D σ' H' → N σ' H') → (tSeq a1 (tSeq a2 (tSeq a3 (tSeq a4 (tSeq a5 a6))))) { D with nx := N } σ H) : (tSeq a1 (tSeq a2 (tSeq a3 (tSeq a4 (tSeq a5 (tSeq a6 b)))))) D σ H := h (b D) fun _ _ z => z
theorem sq7 {a1 a2 a3 a4 a5 a6 a7 b : TS} {D : Ends} {σ : L2.St} {H : Hp} (h : ∀ N : L2.St → Hp → Prop, (∀ σ' H', b D σ' H' → N σ' H') → (tSeq a1 (tSeq a2 (tSeq a3 (tSeq a4 (tSeq a5 (tSeq a6 a7)))))) { D with nx := N } σ H) : (tSeq a1 (tSeq a2 (tSeq a3 (tSeq a4 (tSeq a5 (tSeq a6 (tSeq a7 b))))))) D σ H := h (b D) fun _ _ z => z
theorem sq8 {a1 a2 a3 a4 a5 a6 a7 a8 b : TS} {D : Ends} {σ : L2.St} {H : Hp} (h : ∀ N : L2.St → Hp → Prop, (∀ σ' H', b D σ' H' → N σ' H') → (tSeq a1 (tSeq a2 (tSeq a3 (tSeq a4 (tSeq a5 (tSeq a6 (tSeq a7 a8))))))) { D with nx := N } σ H) : (tSeq a1 (tSeq a2 (tSeq a3 (tSeq a4 (tSeq a5 (tSeq a6 (tSeq a7 (tSeq a8 b)))))))) D σ H := h (b D) fun _ _ z => z
theorem sq9 {a1 a2 a3 a4 a5 a6 a7 a8 a9 b : TS} {D : Ends} {σ : L2.St} {H : Hp} (h : ∀ N : L2.St → Hp → Prop, (∀ σ' H', b D σ' H' → N σ' H') → (tSeq a1 (tSeq a2 (tSeq a3 (tSeq a4 (tSeq a5 (tSeq a6 (tSeq a7 (tSeq a8 a9)))))))) { D with nx := N } σ H) : (tSeq a1 (tSeq a2 (tSeq a3 (tSeq a4 (tSeq a5 (tSeq a6 (tSeq a7 (tSeq a8 (tSeq a9 b))))))))) D σ H := h (b D) fun _ _ z => z
theorem sq10 {a1 a2 a3 a4 a5 a6 a7 a8 a9 a10 b : TS} {D : Ends} {σ : L2.St} {H : Hp} (h : ∀ N : L2.St → Hp → Prop, (∀ σ' H', b D σ' H' → N σ' H') → (tSeq a1 (tSeq a2 (tSeq a3 (tSeq a4 (tSeq a5 (tSeq a6 (tSeq a7 (tSeq a8 (tSeq a9 a10))))))))) { D with nx := N } σ H) : (tSeq a1 (tSeq a2 (tSeq a3 (tSeq a4 (tSeq a5 (tSeq a6 (tSeq a7 (tSeq a8 (tSeq a9 (tSeq a10 b)))))))))) D σ H := h (b D) fun _ _ z => z
theorem sq11 {a1 a2 a3 a4 a5 a6 a7 a8 a9 a10 a11 b : TS} {D : Ends} {σ : L2.St} {H : Hp} (h : ∀ N : L2.St → Hp → Prop, (∀ σ' H', b D σ' H' → N σ' H') → (tSeq a1 (tSeq a2 (tSeq a3 (tSeq a4 (tSeq a5 (tSeq a6 (tSeq a7 (tSeq a8 (tSeq a9 (tSeq a10 a11)))))))))) { D with nx := N } σ H) : (tSeq a1 (tSeq a2 (tSeq a3 (tSeq a4 (tSeq a5 (tSeq a6 (tSeq a7 (tSeq a8 (tSeq a9 (tSeq a10 (tSeq a11 b))))))))))) D σ H := h (b D) fun _ _ z => z
theorem sq12 {a1 a2 a3 a4 a5 a6 a7 a8 a9 a10 a11 a12 b : TS} {D : Ends} {σ : L2.St} {H : Hp} (h : ∀ N : L2.St → Hp → Prop, (∀ σ' H', b D σ' H' → N σ' H') → (tSeq a1 (tSeq a2 (tSeq a3 (tSeq a4 (tSeq a5 (tSeq a6 (tSeq a7 (tSeq a8 (tSeq a9 (tSeq a10 (tSeq a11 a12))))))))))) { D with nx := N } σ H) : (tSeq a1 (tSeq a2 (tSeq a3 (tSeq a4 (tSeq a5 (tSeq a6 (tSeq a7 (tSeq a8 (tSeq a9 (tSeq a10 (tSeq a11 (tSeq a12 b)))))))))))) D σ H := h (b D) fun _ _ z => z
/-- sorted of a list of unlike pairs -/
theorem use_sortedP {K : PySem.W.Frag} {H : Hp} {l : Addr} {us : List V} {G : List Pr} {Q : VK} (hl : H l = some (.lst us)) (pl : PL H us G) (nd : G.Nodup) (q : ∀ (S : List Pr) (ys : List V) (p : Addr) (H' : Hp), Asc S → (∀ d, d ∈ S ↔ d ∈ G) → S.length = G.length → Same H H' → H p = none → H' p = some (.lst ys) → PL H' ys S → Q (.ref p) H') : rSortedPO K [.ref l] H Q := by
  obtain ⟨k1, k2⟩ := pl.toK
  refine ⟨l, us, kH H, rfl, SqL.of hl, k2, fun ys t so st nt => ?_⟩
  have pmy := st.perm
  have hy : ∀ v ∈ ys, IsP H v (kH H v) := fun v hv => k2 v (pmy.mem_iff.mp hv)
  have nd2 : (ys.map (kH H)).Nodup := by
    refine (pmy.map _).nodup_iff.mpr ?_
    rw [← k1]
    exact nd
  refine q (ys.map (kH H)) ys t _ (srtd_asc nd2 so) (fun d => ?_) ?_ (same_upd nt) nt upd_same ((PL.ofK hy).kt (KT.new nt))
  · rw [k1]
    exact (pmy.map _).mem_iff
  · rw [k1, List.length_map, List.length_map, pmy.length_eq]

/-! ### drawn words and logs of the laws k12 to k23 -/
abbrev sLw4 : Stmt := topS 24
abbrev sPo4 : Stmt := topS 25
abbrev sLen : Stmt := topS 31
abbrev sAny : Stmt := topS 32
section
variable {P : Program} {w : World} {K : PySem.W.Frag} {mg : Str → Option Value} {base : Heap}
theorem scLw4 : FnScope ["numbers", "at", "letters", "rest", "k", "word"] ["numbers", "at"] (defScope sLw4) := ⟨rfl, rfl, rfl, by decide +kernel, rfl, by decide +kernel, by decide +kernel⟩
def spSp2 (K : PySem.W.Frag) : Sp := fun vs H Q _ => ∃ (a : Addr) (ns : List Int) (at_ : Nat), vs = [.ref a, .int at_] ∧ SqL K H a (ns.map V.int) ∧ at_ + 4 < ns.length ∧ ∀ z : Str, wk 8 z → 1 ≤ z.length → Q (.str z) H
theorem ok_lw4 {f : Addr} {fd : FuncData} (F : Fun K "_law_word" "_law_word" sLw4 f fd) (T : Bi mg) : FnOk P w K mg base CX0 1 f fd ["numbers", "at"] (spSp2 K) := by
  refine F.ok scLw4 (fun vs H Q E h => ?_) (fun cdv A outer s H vs Q E hr h => ?_)
  · obtain ⟨a, ns, at_, rfl, _⟩ := h
    rfl
  · obtain ⟨a, ns, at_, rfl, hS, hn, q⟩ := h
    refine ⟨_, (pss_cons (ps_set (i := 2) scLw4.nd rfl (Or.inl rfl) pe_str)
      (pss_cons (ps_set (i := 3) scLw4.nd rfl (Or.inl rfl) pe_int)
      (pss_cons (ps_for PassesOwn.never rfl (pi_range1 (by rfl) T.range (pa_cons pe_int pa_nil)) (pg_name (i := 4) scLw4.nd rfl (Or.inl rfl))
      (pss_one (ps_set (i := 3) scLw4.nd rfl (Or.inl rfl) (pe_op op_add (pe_op op_mul (pv 3) pe_int) (pe_ix ix_list (pv 0) (pe_op op_add (pe_op op_add (pv 1) pe_int) (pv 4)) (fun _ _ => rfl))))))
      (pss_cons (ps_set (i := 5) scLw4.nd rfl (Or.inl rfl) pe_str)
      (pss_cons (ps_for PassesOwn.never rfl (pi_range1 (by rfl) T.range (pa_cons (pe_op op_add pe_int (pe_op op_mod (pe_callTy cr_intI (by rfl) T.int (by decide +kernel) (pa_cons (pe_ix ix_list (pv 0) (pv 1) (fun _ _ => rfl)) pa_nil)) pe_int)) pa_nil)) (pg_name (i := 4) scLw4.nd rfl (Or.inl rfl))
      (pss_cons (ps_set (i := 5) scLw4.nd rfl (Or.inl rfl) (pe_op op_add_str (pv 5) (pe_ix ix_str (pv 2) (pe_op op_mod (pe_callTy cr_intI (by rfl) T.int (by decide +kernel) (pa_cons (pv 3) pa_nil)) pe_int) (fun _ _ => rfl))))
        (pss_one (ps_set (i := 3) scLw4.nd rfl (Or.inl rfl) (pe_op op_fdiv (pv 3) pe_int)))))
      (pss_one (ps_ret (pv 5)))))))), ?_⟩
    walk_at "rd"
    have at4 : ∀ j : Nat, j ≤ 4 → ∃ x, (ns.map V.int)[at_ + j]? = some (.int x) := fun j hj => ⟨ns[at_ + j]'(by omega), by rw [List.getElem?_map, List.getElem?_eq_getElem (by omega)]; rfl⟩
    obtain ⟨x0, g0⟩ := at4 0 (by omega)
    have m0 := Int.emod_nonneg x0 (show (8 : Int) ≠ 0 by decide)
    have m1 := Int.emod_lt_of_pos x0 (show (0 : Int) < 8 by decide)
    obtain ⟨Pv, hPv⟩ : ∃ Pv : Nat → L2.St → Hp → Prop, Pv = (fun i σ H' => ∃ (rest : Int) (v4 v5 : Option V), σ = [some (.ref a), some (.int at_), some (.str (Str.ofString "abcdefghijklmnopqrstuvwxyz")), some (.int rest), v4, v5] ∧ H' = H) := ⟨_, rfl⟩
    refine ⟨_, rfl, by decide, by decide, for_range (lo := 0) (n := ((4 : Int)).toNat) Pv (by rw [hPv]; exact ⟨0, none, none, rfl, rfl⟩) (fun i σ H' hi pv => ?_) (fun σ H' pv => ?_)⟩
    · rw [hPv] at pv
      obtain ⟨rest, v4, v5, rfl, rfl⟩ := pv
      obtain ⟨x, gx⟩ := at4 (1 + i) (by have : ((4 : Int)).toNat = 4 := rfl; omega)
      walk_at "rd"
      refine ⟨.inr (by decide), _, hS, .int x, at_of (j := at_ + (1 + i)) (by omega) gx, x, rfl, ?_⟩
      rw [hPv]
      exact ⟨_, _, _, rfl, rfl⟩
    rw [hPv] at pv
    obtain ⟨rest0, v4, v5, rfl, rfl⟩ := pv
    clear hPv Pv
    walk_at "rd"
    obtain ⟨Pv, hPv⟩ : ∃ Pv : Nat → L2.St → Hp → Prop, Pv = (fun i σ Hx => ∃ (rest : Int) (z : Str) (v4 : Option V), σ = [some (.ref a), some (.int at_), some (.str (Str.ofString "abcdefghijklmnopqrstuvwxyz")), some (.int rest), v4, some (.str z)] ∧ Hx = H' ∧ z.length = i ∧ PyData.strOk z = true) := ⟨_, rfl⟩
    refine for_iterW ?_
    walk_at "rd"
    refine ⟨_, hS, .int x0, at_of (j := at_ + 0) (by omega) g0, x0, rfl, by decide, by omega, by omega, for_range (lo := 0) (n := (1 + x0 % 8).toNat) Pv (by rw [hPv]; exact ⟨rest0, _, _, rfl, rfl, by decide +kernel, by decide +kernel⟩) (fun i σ Hx hi pv => ?_) (fun σ Hx pv => ?_)⟩
    · have nxt : ∀ rest z v4, z.length = i + 1 → PyData.strOk z = true → Pv (i + 1) [some (.ref a), some (.int at_), some (.str (Str.ofString "abcdefghijklmnopqrstuvwxyz")), some (.int rest), v4, some (.str z)] H' := fun rest z v4 h h2 => by
        rw [hPv]
        exact ⟨rest, z, v4, rfl, rfl, h, h2⟩
      rw [hPv] at pv
      obtain ⟨rest, z, v4', rfl, rfl, lz, oz⟩ := pv
      have k0 := Int.emod_nonneg rest (show (26 : Int) ≠ 0 by decide)
      have k1 := Int.emod_lt_of_pos rest (show (0 : Int) < 26 by decide)
      obtain ⟨j, ej⟩ : ∃ j : Nat, rest % 26 = j := ⟨(rest % 26).toNat, by omega⟩
      obtain ⟨c, gc, c11⟩ := letters_at (j := j) (by omega)
      walk_at "rd"
      rw [ej]
      refine ⟨by decide, by decide +kernel, c, gc, ?_, ⟨by decide, by decide⟩, nxt _ _ _ ?_ (strOk_app oz (strOk_one c11))⟩
      · have e1 : (Str.mk #[c]).length = 1 := rfl
        rw [e1]
        exact Nat.le_of_lt (len_big (by omega))
      · rw [Str.length_append, lz]
        rfl
    · rw [hPv] at pv
      obtain ⟨rest, z, v4', rfl, rfl, lz, oz⟩ := pv
      walk_at "rd"
      exact q z ⟨by omega, oz⟩ (by omega)
theorem scPo4 : FnScope ["cell", "numbers", "many", "k"] ["cell"] (defScope sPo4) := ⟨rfl, rfl, rfl, by decide +kernel, rfl, by decide +kernel, by decide +kernel⟩
def spPo4 : Sp := fun vs H Q _ => ∃ (c : Int), vs = [.int c] ∧ ∀ (Z : List Str) (p : Addr) (H' : Hp), 1 ≤ Z.length → Z.length ≤ 120 → (∀ z ∈ Z, wk 8 z) → Same H H' → H p = none → H' p = some (.lst (Z.map V.str)) → Q (.ref p) H'
theorem ok_po4 {f fS fN : Addr} {fd fdS fdN : FuncData} (F : Fun K "_law_pool" "_law_pool" sPo4 f fd) (T : Bi mg) (d__law_numbers : Df P w K mg base "_law_numbers" ["cell", "count"] 1 (spNum K) fN fdN) (d__law_word : Df P w K mg base "_law_word" ["numbers", "at"] 1 (spSp2 K) fS fdS) : FnOk P w K mg base CX0 2 f fd ["cell"] spPo4 := by
  refine F.ok scPo4 (fun vs H Q E h => ?_) (fun cdv A outer s H vs Q E hr h => ?_)
  · obtain ⟨c, rfl, _⟩ := h
    rfl
  · obtain ⟨c, rfl, q⟩ := h
    refine ⟨_, (pss_cons (ps_set (i := 1) scPo4.nd rfl (Or.inr rfl) (pe_call d__law_numbers.ok (hr.mono (by decide)) (by rfl) d__law_numbers.at_ d__law_numbers.kp d__law_numbers.b .nil pass0 (pa_cons (pv 0) (pa_cons pe_int pa_nil))))
      (pss_cons (ps_set (i := 2) scPo4.nd rfl (Or.inl rfl) (pe_ix ix_list (pe_lst (pa_cons pe_int (pa_cons pe_int (pa_cons pe_int (pa_cons pe_int (pa_cons pe_int (pa_cons pe_int (pa_cons pe_int (pa_cons pe_int pa_nil))))))))) (pe_op op_mod (pe_callTy cr_intI (by rfl) T.int (by decide +kernel) (pa_cons (pe_ix ix_list (pv 1) pe_int (fun _ _ => rfl)) pa_nil)) pe_int) (fun _ _ => rfl)))
      (pss_cons (ps_if (pt_cmpR op_eqI (pe_op op_mod (pe_callTy cr_intI (by rfl) T.int (by decide +kernel) (pa_cons (pe_ix ix_list (pv 1) pe_int (fun _ _ => rfl)) pa_nil)) pe_int) pe_int (nomark _))
      (pss_one (ps_set (i := 2) scPo4.nd rfl (Or.inl rfl) (pe_op op_add pe_int (pe_op op_mod (pe_callTy cr_intI (by rfl) T.int (by decide +kernel) (pa_cons (pe_ix ix_list (pv 1) pe_int (fun _ _ => rfl)) pa_nil)) pe_int))))
      pss_nil)
      (pss_cons (ps_set (i := 1) scPo4.nd rfl (Or.inr rfl) (pe_call d__law_numbers.ok (hr.mono (by decide)) (by rfl) d__law_numbers.at_ d__law_numbers.kp d__law_numbers.b .nil pass0 (pa_cons (pv 0) (pa_cons (pe_op op_add pe_int (pe_op op_mul pe_int (pv 2))) pa_nil))))
      (pss_one (ps_ret (pe_lc (own := [("k", 3)]) (te := (tCall (spSp2 K) [] E0 (tCons (tVar 1) (tCons (tOp (rI0 fun i j => V.int (i + j)) (tC (V.int 2)) (tOp (rI CMul fun i j => V.int (i * j)) (tC (V.int 5)) (tVar 3))) tNil)))) (by rfl) scPo4.nd (pi_range1 (by rfl) T.range (pa_cons (pv 2) pa_nil)) (blkOk_by (N := ["cell", "numbers", "many", "k"]) (sc := defScope sPo4) (by decide +kernel)) (fun _ _ _ _ _ => pg_name (i := 3) scPo4.nd rfl (Or.inl rfl)) (fun _ _ _ _ _ => pts_nil) (fun _ _ _ _ _ => (pe_call d__law_word.ok (hr.mono (by decide)) (by rfl) d__law_word.at_ d__law_word.kp d__law_word.b .nil pass0 (pa_cons (pv 1) (pa_cons (pe_op op_add pe_int (pe_op op_mul pe_int (pv 3))) pa_nil))))))))))), ?_⟩
    refine sq3 fun N hN => ?_
    walk_at "rd"
    refine ⟨c, 2, rfl, by decide, fun nl ln H1 N1 s1 fn1 hln => ?_⟩
    have gN : ∀ j : Nat, j < 2 → ∃ x, (nl.map V.int)[j]? = some (.int x) := fun j hj => ⟨nl[j]'(by rw [N1.1]; exact hj), by rw [List.getElem?_map, List.getElem?_eq_getElem (by rw [N1.1]; exact hj)]; rfl⟩
    obtain ⟨n0, g0⟩ := gN 0 (by decide)
    obtain ⟨n1, g1⟩ := gN 1 (by decide)
    refine ⟨by decide, fun tb ntb => ?_⟩
    have s2 := same_upd (o := HO.lst [V.int 2, V.int 3, V.int 4, V.int 2, V.int 3, V.int 5, V.int 1, V.int 3]) ntb
    have htb := upd_same (H := H1) (a := tb) (o := HO.lst [V.int 2, V.int 3, V.int 4, V.int 2, V.int 3, V.int 5, V.int 1, V.int 3])
    generalize upd H1 tb (HO.lst [V.int 2, V.int 3, V.int 4, V.int 2, V.int 3, V.int 5, V.int 1, V.int 3]) = H2 at s2 htb ⊢
    have hln2 := s2 _ _ hln
    have s02 := s1.trans s2
    obtain ⟨j0, ej⟩ : ∃ j : Nat, n0 % 8 = j := ⟨(n0 % 8).toNat, by omega⟩
    obtain ⟨m0, gm, m1, m8⟩ : ∃ m : Nat, [V.int 2, V.int 3, V.int 4, V.int 2, V.int 3, V.int 5, V.int 1, V.int 3][j0]? = some (.int (m : Int)) ∧ 1 ≤ m ∧ m ≤ 120 := by
      have : j0 = 0 ∨ j0 = 1 ∨ j0 = 2 ∨ j0 = 3 ∨ j0 = 4 ∨ j0 = 5 ∨ j0 = 6 ∨ j0 = 7 := by omega
      rcases this with rfl | rfl | rfl | rfl | rfl | rfl | rfl | rfl
      · exact ⟨2, rfl, by decide, by decide⟩
      · exact ⟨3, rfl, by decide, by decide⟩
      · exact ⟨4, rfl, by decide, by decide⟩
      · exact ⟨2, rfl, by decide, by decide⟩
      · exact ⟨3, rfl, by decide, by decide⟩
      · exact ⟨5, rfl, by decide, by decide⟩
      · exact ⟨1, rfl, by decide, by decide⟩
      · exact ⟨3, rfl, by decide, by decide⟩
    have tail : ∀ m : Nat, 1 ≤ m → m ≤ 120 → N [some (.int c), some (.ref ln), some (.int m), none] H2 := fun m m1 m120 => by
      refine hN _ _ ?_
      clear hN N
      walk_at "rd"
      refine ⟨.inl (by decide), c, 2 + 5 * m, by rw [show (2 : Int) + 5 * (m : Int) = ((2 + 5 * m : Nat) : Int) by omega], by omega, fun nl2 ln2 H3 N2 s3 fn3 hln3 => ?_⟩
      have s03 := s02.trans s3
      refine lcW ?_
      walk_at "rd"
      refine ⟨by omega, by omega, fun p np => ?_⟩
      obtain ⟨Pw, hPw⟩ : ∃ Pw : Nat → Hp → Prop, Pw = (fun i Hx => ∃ Z : List Str, Same H3 Hx ∧ Hx p = some (.lst (Z.map V.str)) ∧ Z.length = i ∧ ∀ z ∈ Z, wk 8 z) := ⟨_, rfl⟩
      refine lc_range (lo := 0) (n := ((m : Nat) : Int).toNat) Pw (by rw [hPw]; exact ⟨[], same_upd np, upd_same, rfl, fun z hz => by cases hz⟩) (fun i Hx hi pv => ?_) (fun H4 pv => ?_)
      · rw [hPw] at pv
        obtain ⟨Z, sx, hp, lz, wz⟩ := pv
        simp only [wipe]
        walk_at "rd"
        refine ⟨.inl (by decide), ln2, nl2, 2 + 5 * i, by rw [show (2 : Int) + 5 * (0 + (i : Int)) = ((2 + 5 * i : Nat) : Int) by omega], SqL.of (sx _ _ hln3), by rw [N2.1]; omega, fun z kz lz1 => ?_⟩
        refine ⟨_, hp, len_big (by rw [List.length_map]; omega), ?_⟩
        rw [hPw]
        refine ⟨Z ++ [z], same_ch sx np, by rw [upd_same, List.map_append]; rfl, by rw [List.length_append, lz]; rfl, fun y hy => ?_⟩
        rcases List.mem_append.mp hy with h | h
        · exact wz y h
        · rw [List.mem_singleton.mp h]
          exact kz
      rw [hPw] at pv
      obtain ⟨Z, s4, hp, lz, wz⟩ := pv
      exact q Z p H4 (by omega) (by omega) wz (s03.trans s4) (s03.free np) hp
    refine ⟨ln, rfl, _, SqL.of hln2, .int n0, at_of (j := 0) rfl g0, n0, rfl, by decide, _, SqL.of htb, _, at_of ej gm, ln, rfl, _, SqL.of hln2, .int n1, at_of (j := 1) rfl g1, n1, rfl, by decide, ite2 (fun _ => ?_) (fun _ => tail m0 m1 m8)⟩
    refine ⟨ln, rfl, _, SqL.of hln2, .int n0, at_of (j := 0) rfl g0, n0, rfl, by decide, ?_⟩
    rw [show 1 + n0 % 120 = (((1 + n0 % 120).toNat : Nat) : Int) by omega]
    exact tail _ (by omega) (by omega)
theorem scLen : FnScope ["numbers", "at"] ["numbers", "at"] (defScope sLen) := ⟨rfl, rfl, rfl, by decide +kernel, rfl, by decide +kernel, by decide +kernel⟩
def spLen (K : PySem.W.Frag) : Sp := fun vs H Q _ => ∃ (a : Addr) (ns : List Int) (at_ : Nat), vs = [.ref a, .int at_] ∧ SqL K H a (ns.map V.int) ∧ at_ + 1 < ns.length ∧ ∀ n : Nat, n ≤ 60 → Q (.int n) H
theorem ok_len {f : Addr} {fd : FuncData} (F : Fun K "_law_length" "_law_length" sLen f fd) (T : Bi mg) : FnOk P w K mg base CX0 1 f fd ["numbers", "at"] (spLen K) := by
  refine F.ok scLen (fun vs H Q E h => ?_) (fun cdv A outer s H vs Q E hr h => ?_)
  · obtain ⟨a, ns, at_, rfl, _⟩ := h
    rfl
  · obtain ⟨a, ns, at_, rfl, hS, hn, q⟩ := h
    refine ⟨_, (pss_cons (ps_if (pt_cmpR op_eqI (pe_op op_mod (pe_callTy cr_intI (by rfl) T.int (by decide +kernel) (pa_cons (pe_ix ix_list (pv 0) (pe_op op_add (pv 1) pe_int) (fun _ _ => rfl)) pa_nil)) pe_int) pe_int (nomark _))
      (pss_one (ps_ret (pe_op op_mod (pe_callTy cr_intI (by rfl) T.int (by decide +kernel) (pa_cons (pe_ix ix_list (pv 0) (pv 1) (fun _ _ => rfl)) pa_nil)) pe_int)))
      pss_nil)
      (pss_one (ps_ret (pe_op op_mod (pe_callTy cr_intI (by rfl) T.int (by decide +kernel) (pa_cons (pe_ix ix_list (pv 0) (pv 1) (fun _ _ => rfl)) pa_nil)) pe_int)))), ?_⟩
    walk_at "rd"
    have gN : ∀ j : Nat, j < ns.length → ∃ x, (ns.map V.int)[j]? = some (.int x) := fun j hj => ⟨ns[j], by rw [List.getElem?_map, List.getElem?_eq_getElem hj]; rfl⟩
    obtain ⟨n0, g0⟩ := gN at_ (by omega)
    obtain ⟨n1, g1⟩ := gN (at_ + 1) (by omega)
    refine ⟨_, hS, .int n1, at_of (j := at_ + 1) (by omega) g1, n1, rfl, by decide, ite2 (fun _ => ?_) (fun _ => ?_)⟩
    · refine ⟨_, hS, .int n0, at_of (j := at_) rfl g0, n0, rfl, by decide, ?_⟩
      rw [show n0 % 61 = (((n0 % 61).toNat : Nat) : Int) by omega]
      exact q _ (by omega)
    · refine ⟨_, hS, .int n0, at_of (j := at_) rfl g0, n0, rfl, by decide, ?_⟩
      rw [show n0 % 13 = (((n0 % 13).toNat : Nat) : Int) by omega]
      exact q _ (by omega)
theorem scAny : FnScope ["cell", "rooms", "words", "many"] ["cell", "rooms", "words"] (defScope sAny) := ⟨rfl, rfl, rfl, by decide +kernel, rfl, by decide +kernel, by decide +kernel⟩
def spAny : Sp := fun vs H Q _ => ∃ (c : Int) (r : Nat) (b : Addr) (Z : List Str), vs = [.int c, .int r, .ref b] ∧ 1 ≤ r ∧ H b = some (.lst (Z.map V.str)) ∧ 1 ≤ Z.length ∧ (∀ z ∈ Z, wk 17 z) ∧
  ∀ (L : List Cl) (ws : List V) (p : Addr) (H' : Hp), L.length ≤ 60 → InR r L → (∀ c ∈ L, wk 17 c.2) → Same H H' → H p = none → H' p = some (.lst ws) → LG H' ws L → Q (.ref p) H'
theorem ok_any {f fN fL fG : Addr} {fd fdN fdL fdG : FuncData} (F : Fun K "_law_any_log" "_law_any_log" sAny f fd) (T : Bi mg) (d__law_numbers : Df P w K mg base "_law_numbers" ["cell", "count"] 1 (spNum K) fN fdN) (d__law_length : Df P w K mg base "_law_length" ["numbers", "at"] 1 (spLen K) fL fdL) (d__law_log : Df P w K mg base "_law_log" ["numbers", "at", "many", "rooms", "words"] 1 (spLlg K) fG fdG) : FnOk P w K mg base CX0 2 f fd ["cell", "rooms", "words"] spAny := by
  refine F.ok scAny (fun vs H Q E h => ?_) (fun cdv A outer s H vs Q E hr h => ?_)
  · obtain ⟨c, r, b, Z, rfl, _⟩ := h
    rfl
  · obtain ⟨c, r, b, Z, rfl, r1, hb, z1, zw, q⟩ := h
    refine ⟨_, (pss_cons (ps_set (i := 3) scAny.nd rfl (Or.inl rfl) (pe_call d__law_length.ok (hr.mono (by decide)) (by rfl) d__law_length.at_ d__law_length.kp d__law_length.b .nil pass0 (pa_cons (pe_call d__law_numbers.ok (hr.mono (by decide)) (by rfl) d__law_numbers.at_ d__law_numbers.kp d__law_numbers.b .nil pass0 (pa_cons (pv 0) (pa_cons pe_int pa_nil))) (pa_cons pe_int pa_nil))))
      (pss_one (ps_ret (pe_call d__law_log.ok (hr.mono (by decide)) (by rfl) d__law_log.at_ d__law_log.kp d__law_log.b .nil pass0 (pa_cons (pe_call d__law_numbers.ok (hr.mono (by decide)) (by rfl) d__law_numbers.at_ d__law_numbers.kp d__law_numbers.b .nil pass0 (pa_cons (pv 0) (pa_cons (pe_op op_add pe_int (pe_op op_mul pe_int (pv 3))) pa_nil))) (pa_cons pe_int (pa_cons (pv 3) (pa_cons (pv 1) (pa_cons (pv 2) pa_nil))))))))), ?_⟩
    walk_at "rd"
    refine ⟨c, 2, rfl, by decide, fun nl ln H1 N1 s1 fn1 hln => ?_⟩
    refine ⟨ln, nl, 0, rfl, SqL.of hln, by rw [N1.1]; decide, fun m m60 => ?_⟩
    refine ⟨m, rfl, .inl (by decide), c, 2 + 2 * m, by rw [show (2 : Int) + 2 * (m : Int) = ((2 + 2 * m : Nat) : Int) by omega], by omega, fun nl2 ln2 H2 N2 s2 fn2 hln2 => ?_⟩
    have s02 := s1.trans s2
    refine ⟨ln2, b, nl2, 2, m, r, Z, rfl, SqL.of hln2, by rw [N2.1]; omega, by omega, r1, s02 _ _ hb, z1, zw, fun L ws p H3 l1 inr wks s3 np hp lg => ?_⟩
    exact q L ws p H3 (by omega) inr wks (s02.trans s3) (s02.free np) hp lg
end

/-! ### comprehensions with one name, over a list or a range -/
theorem fm_step {β : Type} (sel : Nat → Option β) (i : Nat) : (List.range (i + 1)).filterMap sel = (List.range i).filterMap sel ++ (match sel i with | some b => [b] | none => []) := by
  rw [List.range_succ, List.filterMap_append]
  congr 1
  rw [List.filterMap_cons, List.filterMap_nil]
  cases sel i <;> rfl
theorem fm_len {β : Type} (sel : Nat → Option β) (i : Nat) : ((List.range i).filterMap sel).length ≤ i := by
  have := List.length_filterMap_le sel (List.range i)
  rw [List.length_range] at this
  exact this
theorem gc_list {β : Type} {K : PySem.W.Frag} {a : Addr} {xs : List V} {i : Nat} {tt : TT} {te : TE} {σ : L2.St} {H1 : Hp} {Q : VK} (rel : Hp → V → β → Prop) (up : ∀ H H' v b, rel H v b → KT H H' → rel H' v b) (sel : Nat → Option β) (ha : H1 a = some (.lst xs)) (len : xs.length ≤ 100000)
    (step : ∀ (j : Nat) (x : V) (Hx : Hp) (A : VK) (B : Hp → Prop), xs[j]? = some x → Same H1 Hx → (∀ v b Hy, sel j = some b → Same Hx Hy → rel Hy v b → A v Hy) → (∀ Hy, sel j = none → Same Hx Hy → B Hy) → tt (σ.set i (some x)) Hx fun c H3 => if c = true then te (σ.set i (some x)) H3 A else B H3)
    (q : ∀ o ys H', Same H1 H' → H1 o = none → H' o = some (.lst ys) → Paired (rel H') ys ((List.range xs.length).filterMap sel) → Q (.ref o) H') :
    tLc (fun _ H R => R (Itl K a) H) (gName i) tt te [i] σ H1 Q := by
  intro D nD
  obtain ⟨Pv, hPv⟩ : ∃ Pv : Nat → Hp → Prop, Pv = (fun j Hx => ∃ ys, Same H1 Hx ∧ Hx D = some (.lst ys) ∧ Paired (rel Hx) ys ((List.range j).filterMap sel)) := ⟨_, rfl⟩
  refine lc_list (K := K) (a := a) (xs := xs) Pv (by rw [hPv]; exact ⟨[], same_upd nD, upd_same, Paired.nil⟩) (fun j H' _ pv => by rw [hPv] at pv; obtain ⟨_, sm, _⟩ := pv; exact SqL.of (sm _ _ ha)) (fun j x H' gx pv => ?_) (fun H' pv => ?_)
  · rw [hPv] at pv
    obtain ⟨ys, sm, hD, pr⟩ := pv
    have jl := (List.getElem?_eq_some_iff.mp gx).1
    have yl : ys.length ≤ j := by rw [pr.length]; exact fm_len sel j
    have ew : (wipe σ [i]).set i (some x) = σ.set i (some x) := by show (σ.set i none).set i (some x) = _; rw [List.set_set]
    show wipe ((wipe σ [i]).set i (some x)) [i] = wipe σ [i] ∧ tt ((wipe σ [i]).set i (some x)) H' fun c H3 => if c = true then te ((wipe σ [i]).set i (some x)) H3 _ else _
    rw [ew]
    refine ⟨by show (σ.set i (some x)).set i none = σ.set i none; rw [List.set_set], ?_⟩
    refine step j x H' _ _ gx sm (fun v b Hy es sy r => ?_) (fun Hy es sy => ?_)
    · have hD2 := sy _ _ hD
      refine ⟨ys, hD2, len_big (by omega), ?_⟩
      rw [hPv]
      refine ⟨ys ++ [v], same_ch (sm.trans sy) nD, upd_same, ?_⟩
      rw [fm_step, es]
      have kt : KT Hy (upd Hy D (HO.lst (ys ++ [v]))) := KT.lst hD2
      exact Paired.snoc (Paired.mapP pr fun v b h => up _ _ _ _ (up _ _ _ _ h (KT.same sy)) kt) (up _ _ _ _ r kt)
    · rw [hPv]
      refine ⟨ys, sm.trans sy, sy _ _ hD, ?_⟩
      rw [fm_step, es, List.append_nil]
      exact Paired.mapP pr fun v b h => up _ _ _ _ h (KT.same sy)
  · rw [hPv] at pv
    obtain ⟨ys, sm, hD, pr⟩ := pv
    exact q D ys H' sm nD hD pr
theorem gc_range {β : Type} {lo : Int} {n i : Nat} {tt : TT} {te : TE} {σ : L2.St} {H1 : Hp} {Q : VK} (rel : Hp → V → β → Prop) (up : ∀ H H' v b, rel H v b → KT H H' → rel H' v b) (sel : Nat → Option β) (len : n ≤ 100000)
    (step : ∀ (j : Nat) (Hx : Hp) (A : VK) (B : Hp → Prop), j < n → Same H1 Hx → (∀ v b Hy, sel j = some b → Same Hx Hy → rel Hy v b → A v Hy) → (∀ Hy, sel j = none → Same Hx Hy → B Hy) → tt (σ.set i (some (.int (lo + (j : Nat))))) Hx fun c H3 => if c = true then te (σ.set i (some (.int (lo + (j : Nat))))) H3 A else B H3)
    (q : ∀ o ys H', Same H1 H' → H1 o = none → H' o = some (.lst ys) → Paired (rel H') ys ((List.range n).filterMap sel) → Q (.ref o) H') :
    tLc (fun _ H R => R (Itr lo n) H) (gName i) tt te [i] σ H1 Q := by
  intro D nD
  obtain ⟨Pv, hPv⟩ : ∃ Pv : Nat → Hp → Prop, Pv = (fun j Hx => ∃ ys, Same H1 Hx ∧ Hx D = some (.lst ys) ∧ Paired (rel Hx) ys ((List.range j).filterMap sel)) := ⟨_, rfl⟩
  refine lc_range (lo := lo) (n := n) Pv (by rw [hPv]; exact ⟨[], same_upd nD, upd_same, Paired.nil⟩) (fun j H' jl pv => ?_) (fun H' pv => ?_)
  · rw [hPv] at pv
    obtain ⟨ys, sm, hD, pr⟩ := pv
    have yl : ys.length ≤ j := by rw [pr.length]; exact fm_len sel j
    have ew : (wipe σ [i]).set i (some (.int (lo + (j : Nat)))) = σ.set i (some (.int (lo + (j : Nat)))) := by show (σ.set i none).set i (some (.int (lo + (j : Nat)))) = _; rw [List.set_set]
    show wipe ((wipe σ [i]).set i (some (.int (lo + (j : Nat))))) [i] = wipe σ [i] ∧ tt ((wipe σ [i]).set i (some (.int (lo + (j : Nat))))) H' fun c H3 => if c = true then te ((wipe σ [i]).set i (some (.int (lo + (j : Nat))))) H3 _ else _
    rw [ew]
    refine ⟨by show (σ.set i (some (.int (lo + (j : Nat))))).set i none = σ.set i none; rw [List.set_set], ?_⟩
    refine step j H' _ _ jl sm (fun v b Hy es sy r => ?_) (fun Hy es sy => ?_)
    · have hD2 := sy _ _ hD
      refine ⟨ys, hD2, len_big (by omega), ?_⟩
      rw [hPv]
      refine ⟨ys ++ [v], same_ch (sm.trans sy) nD, upd_same, ?_⟩
      rw [fm_step, es]
      have kt : KT Hy (upd Hy D (HO.lst (ys ++ [v]))) := KT.lst hD2
      exact Paired.snoc (Paired.mapP pr fun v b h => up _ _ _ _ (up _ _ _ _ h (KT.same sy)) kt) (up _ _ _ _ r kt)
    · rw [hPv]
      refine ⟨ys, sm.trans sy, sy _ _ hD, ?_⟩
      rw [fm_step, es, List.append_nil]
      exact Paired.mapP pr fun v b h => up _ _ _ _ h (KT.same sy)
  · rw [hPv] at pv
    obtain ⟨ys, sm, hD, pr⟩ := pv
    exact q D ys H' sm nD hD pr
/-- values that are these ints -/
def IsI (_ : Hp) (v : V) (n : Int) : Prop := v = .int n
theorem isI_map {H : Hp} : ∀ {vs : List V} {ns : List Int}, Paired (IsI H) vs ns → vs = ns.map V.int
  | _, _, .nil => rfl
  | _, _, .cons r t => by
    rw [isI_map t, List.map_cons]
    exact congrArg (· :: _) r
theorem fmap_congr {α β : Type} {f g : α → Option β} : ∀ l : List α, (∀ a ∈ l, f a = g a) → l.filterMap f = l.filterMap g
  | [], _ => rfl
  | a :: l, h => by
    rw [List.filterMap_cons, List.filterMap_cons, h a List.mem_cons_self, fmap_congr l fun b hb => h b (List.mem_cons_of_mem _ hb)]
theorem snoc_indJ {α : Type} {M : List α → Prop} (h0 : M []) (hs : ∀ S c, M S → M (S ++ [c])) (L : List α) : M L := by
  have key : ∀ K : List α, M K.reverse := by
    intro K
    induction K with
    | nil => exact h0
    | cons c K ih => rw [List.reverse_cons]; exact hs _ _ ih
  have := key L.reverse
  rw [List.reverse_reverse] at this
  exact this
theorem fm_range {β : Type} {L : List β} {γ : Type} (f : β → Option γ) : (List.range L.length).filterMap (fun j => L[j]?.bind f) = L.filterMap f := by
  refine snoc_indJ (M := fun L => (List.range L.length).filterMap (fun j => L[j]?.bind f) = L.filterMap f) rfl (fun L b ih => ?_) L
  rw [List.length_append, List.length_singleton, fm_step, List.filterMap_append]
  have e : (List.range L.length).filterMap (fun j => (L ++ [b])[j]?.bind f) = (List.range L.length).filterMap (fun j => L[j]?.bind f) := fmap_congr _ fun j hj => by
    rw [List.getElem?_append_left (List.mem_range.mp hj)]
  rw [e, ih, List.getElem?_append_right (Nat.le_refl _), Nat.sub_self]
  congr 1
  show (match f b with | some b => [b] | none => []) = _
  rw [List.filterMap_cons, List.filterMap_nil]
  cases f b <;> rfl
theorem fm_rg {γ : Type} (n : Nat) (f : Int → Option γ) : (List.range n).filterMap (fun j : Nat => f (j : Int)) = (rg n).filterMap f := by
  unfold rg
  rw [List.filterMap_map]
  rfl
/-- [c[0] for c in calls] -/
theorem lc_fst {K : PySem.W.Frag} {a : Addr} {ws : List V} {L : List Cl} {i : Nat} {σ : L2.St} {H1 : Hp} {Q : VK} (ha : H1 a = some (.lst ws)) (lg : LG H1 ws L) (len : L.length ≤ 100000) (hi : i < σ.length)
    (q : ∀ o H', Same H1 H' → H1 o = none → H' o = some (.lst ((L.map (·.1)).map V.int)) → Q (.ref o) H') :
    tLc (fun _ H R => R (Itl K a) H) (gName i) tYes (tOp (rIxT K) (tVar i) (tC (V.int 0))) [i] σ H1 Q := by
  have wl := lg.len
  refine gc_list IsI (fun _ _ _ _ h _ => h) (fun j => L[j]?.bind fun c => some c.1) ha (by omega) (fun j x Hx A B gx sx hA hB => ?_) (fun o ys H' s no ho pr => ?_)
  · obtain ⟨c, gc, t, rfl, ht⟩ := pget lg gx
    refine (show (if true = true then tOp (rIxT K) (tVar i) (tC (V.int 0)) (σ.set i (some (.ref t))) Hx A else B Hx) from ?_)
    rw [if_pos rfl]
    refine ⟨.ref t, by rw [List.getElem?_set_self hi], ?_⟩
    refine ⟨t, _, 0, .int c.1, rfl, rfl, SqT.of (sx _ _ ht), rfl, ?_⟩
    exact hA _ c.1 Hx (by rw [gc]; rfl) (Same.refl _) rfl
  · refine q o H' s no ?_
    have e := isI_map pr
    rw [wl, fm_range (L := L) (fun c => some c.1), List.filterMap_eq_map'] at e
    rw [e] at ho
    exact ho
/-- [r for r in range(n) if r not in L] -/
theorem lc_notin {K : PySem.W.Frag} {m : Nat} {b : Addr} {R : List Int} {n i : Nat} {σ : L2.St} {H1 : Hp} {Q : VK} (hm : (σ.set i none)[m]? = some (some (.ref b))) (hb : SqL K H1 b (R.map V.int) ∨ SqT K H1 b (R.map V.int)) (len : n ≤ 100000) (hi : i < σ.length)
    (q : ∀ o H', Same H1 H' → H1 o = none → H' o = some (.lst (((rg n).filter fun z => decide (z ∉ R)).map V.int)) → Q (.ref o) H') :
    tLc (fun _ H R => R (Itr 0 n) H) (gName i) (tTest (tOp (rIn K true) (tVar i) (tVar m))) (tVar i) [i] σ H1 Q := by
  have nm : m ≠ i := fun z => by
    subst z
    rw [List.getElem?_set_self hi] at hm
    cases hm
  refine gc_range IsI (fun _ _ _ _ h _ => h) (fun j => if (j : Int) ∈ R then none else some (j : Int)) len (fun j Hx A B jl sx hA hB => ?_) (fun o ys H' s no ho pr => ?_)
  · rw [Int.zero_add]
    refine ⟨.int (j : Int), by rw [List.getElem?_set_self hi], .ref b, ?_, b, R.map V.int, rfl, ?_, rfl, flI _, ?_⟩
    · rw [List.getElem?_set_ne (fun z => nm z.symm)]
      rw [List.getElem?_set_ne (fun z => nm z.symm)] at hm
      exact hm
    · exact SeqI.same hb sx
    · rw [inI, if_pos rfl]
      refine ⟨_, rfl, ?_⟩
      by_cases c : (j : Int) ∈ R
      · rw [decide_eq_true c]
        exact hB Hx (if_pos c) (Same.refl _)
      · rw [decide_eq_false c]
        exact ⟨_, by rw [List.getElem?_set_self hi], hA _ (j : Int) Hx (if_neg c) (Same.refl _) rfl⟩
  · refine q o H' s no ?_
    have e := isI_map pr
    rw [fm_rg n (fun z => if z ∈ R then none else some z)] at e
    have e2 : ∀ l : List Int, l.filterMap (fun z => if z ∈ R then none else some z) = l.filter fun z => decide (z ∉ R) := fun l => by
      induction l with
      | nil => rfl
      | cons z l ih =>
        by_cases c : z ∈ R
        · rw [List.filterMap_cons, if_pos c, List.filter_cons_of_neg (by simpa using c)]
          exact ih
        · rw [List.filterMap_cons, if_neg c, List.filter_cons_of_pos (by simpa using c), ih]
    rw [e, e2] at ho
    exact ho
/-- the calls at these places -/
def pickC (C : List Cl) (xs : List Int) : List Cl := xs.filterMap fun x => C[x.toNat]?
theorem pickC_perm {C : List Cl} {xs : List Int} (h : xs.Perm (rg C.length)) : (pickC C xs).Perm C := by
  have e : pickC C (rg C.length) = C := by
    unfold pickC rg
    rw [List.filterMap_map]
    have := fm_range (L := C) (fun c => some c)
    rw [List.filterMap_some] at this
    refine Eq.trans (fmap_congr _ fun j _ => ?_) this
    show C[((j : Nat) : Int).toNat]? = _
    rw [Int.toNat_natCast]
    cases C[j]? <;> rfl
  have := h.filterMap (fun x => C[x.toNat]?)
  show (xs.filterMap _).Perm C
  refine this.trans ?_
  show (pickC C (rg C.length)).Perm C
  rw [e]
/-- [calls[k] for k in places] -/
theorem lc_pick {K : PySem.W.Frag} {a g : Addr} {ws : List V} {C : List Cl} {xs : List Int} {c i : Nat} {σ : L2.St} {H1 : Hp} {Q : VK} (hc : (σ.set i none)[c]? = some (some (.ref g))) (hg : H1 g = some (.lst ws)) (lg : LG H1 ws C) (ha : H1 a = some (.lst (xs.map V.int))) (pm : xs.Perm (rg C.length)) (len : C.length ≤ 100000) (hi : i < σ.length)
    (q : ∀ o vs H', Same H1 H' → H1 o = none → H' o = some (.lst vs) → LG H' vs (pickC C xs) → Q (.ref o) H') :
    tLc (fun _ H R => R (Itl K a) H) (gName i) tYes (tOp (rIxL K) (tVar c) (tVar i)) [i] σ H1 Q := by
  have nm : c ≠ i := fun z => by
    subst z
    rw [List.getElem?_set_self hi] at hc
    cases hc
  have xl : xs.length = C.length := by rw [pm.length_eq, rg_len]
  refine gc_list (fun H v b => IsC H v b) (fun _ _ _ _ h k => h.kt k) (fun j => xs[j]?.bind fun x => C[x.toNat]?) ha (by rw [List.length_map]; omega) (fun j x Hx A B gx sx hA hB => ?_) (fun o ys H' s no ho pr => ?_)
  · rw [List.getElem?_map] at gx
    cases e : xs[j]? with
    | none => rw [e] at gx; cases gx
    | some y =>
      rw [e] at gx hA
      have ex := Option.some.inj gx
      subst ex
      obtain ⟨n, hn, rfl⟩ := List.mem_map.mp (pm.mem_iff.mp (List.mem_of_getElem? e))
      have hn2 := List.mem_range.mp hn
      obtain ⟨d, gd⟩ : ∃ d, C[n]? = some d := ⟨_, List.getElem?_eq_getElem hn2⟩
      obtain ⟨v, gv, r⟩ := pget2 lg gd
      refine (show (if true = true then tOp (rIxL K) (tVar c) (tVar i) (σ.set i (some (.int (Int.ofNat n)))) Hx A else B Hx) from ?_)
      rw [if_pos rfl]
      refine ⟨.ref g, ?_, .int (Int.ofNat n), by rw [List.getElem?_set_self hi], g, ws, Int.ofNat n, v, rfl, rfl, SqL.of (sx _ _ hg), atI_nat gv, ?_⟩
      · rw [List.getElem?_set_ne (fun z => nm z.symm)]
        rw [List.getElem?_set_ne (fun z => nm z.symm)] at hc
        exact hc
      · exact hA _ d Hx gd (Same.refl _) (r.kt (KT.same sx))
  · refine q o ys H' s no ho ?_
    rw [List.length_map, fm_range (L := xs) (fun x => C[x.toNat]?)] at pr
    exact pr

/-! ### sets of rooms, last calls -/
def wordP (L : List Cl) (ps : List Int) : Option Str := (lastIn ps L).map (·.2)
theorem snoc_ind {α : Type} {M : List α → Prop} (h0 : M []) (hs : ∀ S c, M S → M (S ++ [c])) (L : List α) : M L := by
  have key : ∀ K : List α, M K.reverse := by
    intro K
    induction K with
    | nil => exact h0
    | cons c K ih => rw [List.reverse_cons]; exact hs _ _ ih
  have := key L.reverse
  rw [List.reverse_reverse] at this
  exact this
theorem lastIn_snoc (R : List Int) (S : List Cl) (c : Cl) : lastIn R (S ++ [c]) = if c.1 ∈ R then some c else lastIn R S := by
  unfold lastIn
  rw [List.reverse_append]
  show List.find? _ (c :: S.reverse) = _
  by_cases h : c.1 ∈ R
  · rw [List.find?_cons_of_pos (by simp [h]), if_pos h]
  · rw [List.find?_cons_of_neg (by simp [h]), if_neg h]
theorem lastIn_congr {R S : List Int} (h : ∀ x, x ∈ R ↔ x ∈ S) (L : List Cl) : lastIn R L = lastIn S L := by
  unfold lastIn
  refine find_ext _ fun c _ => ?_
  by_cases m : c.1 ∈ R
  · rw [decide_eq_true m, decide_eq_true ((h _).mp m)]
  · rw [decide_eq_false m, decide_eq_false fun z => m ((h _).mpr z)]
theorem wordP_snoc (S : List Cl) (c : Cl) (R : List Int) : wordP (S ++ [c]) R = if c.1 ∈ R then some c.2 else wordP S R := by
  unfold wordP
  rw [lastIn_snoc]
  by_cases h : c.1 ∈ R
  · rw [if_pos h, if_pos h]
    rfl
  · rw [if_neg h, if_neg h]
theorem wordP_congr {R S : List Int} (h : ∀ x, x ∈ R ↔ x ∈ S) (L : List Cl) : wordP L R = wordP L S := by
  unfold wordP
  rw [lastIn_congr h]
theorem lastIn_none {R : List Int} {L : List Cl} : lastIn R L = none ↔ ∀ c ∈ L, c.1 ∉ R := by
  unfold lastIn
  rw [List.find?_eq_none]
  constructor
  · intro h c hc z
    exact h c (List.mem_reverse.mpr hc) (decide_eq_true z)
  · intro h c hc z
    exact h c (List.mem_reverse.mp hc) (of_decide_eq_true z)
theorem int_sub_len2 {ys : List Int} : ∀ {R : List Int}, ys.Nodup → (∀ x ∈ ys, x ∈ R) → ys.length ≤ R.length := fun {R} nd h => by
  induction R generalizing ys with
  | nil =>
    cases ys with
    | nil => exact Nat.le_refl _
    | cons a l => exact absurd (h a List.mem_cons_self) (by simp)
  | cons a R ih =>
    have := ih (ys := ys.erase a) (nd.erase a) fun x hx => by
      have h2 := (List.Nodup.mem_erase_iff nd).mp hx
      rcases List.mem_cons.mp (h x h2.2) with e | e
      · exact absurd e h2.1
      · exact e
    have h3 : ys.length ≤ (ys.erase a).length + 1 := by
      by_cases m : a ∈ ys
      · rw [List.length_erase_of_mem m]
        omega
      · rw [List.erase_of_not_mem m]
        omega
    rw [List.length_cons]
    omega
theorem filter_lt {α : Type} {p : α → Bool} {x : α} : ∀ {l : List α}, x ∈ l → ¬ p x = true → (l.filter p).length < l.length
  | a :: l, h, n => by
    rcases List.mem_cons.mp h with e | m
    · rw [← e, List.filter_cons_of_neg n]
      exact Nat.lt_succ_of_le (List.length_filter_le _ _)
    · have ih := filter_lt m n
      by_cases c : p a = true
      · rw [List.filter_cons_of_pos c, List.length_cons, List.length_cons]
        omega
      · rw [List.filter_cons_of_neg c, List.length_cons]
        omega
theorem lastIn_in {R : List Int} {L : List Cl} {c : Cl} (h : lastIn R L = some c) : c.1 ∈ R := by
  have := List.find?_some h
  exact of_decide_eq_true this
/-- the last call of a set is the last one of each subset that holds its room -/
theorem lastIn_sub {R : List Int} {c : Cl} (L : List Cl) : ∀ {Q : List Int}, lastIn R L = some c → c.1 ∈ Q → (∀ z ∈ Q, z ∈ R) → lastIn Q L = some c := by
  refine snoc_ind (M := fun L => ∀ {Q : List Int}, lastIn R L = some c → c.1 ∈ Q → (∀ z ∈ Q, z ∈ R) → lastIn Q L = some c) (fun {Q} h => by cases h) (fun S d ih {Q} h hc sub => ?_) L
  rw [lastIn_snoc] at h ⊢
  by_cases m : d.1 ∈ R
  · rw [if_pos m] at h
    cases h
    rw [if_pos hc]
  · rw [if_neg m] at h
    rw [if_neg fun z => m (sub _ z)]
    exact ih h hc sub

/-! ### parting paths: theory (after FM0) -/
/-- the tuple is a path by the doors D -/
def Chn (D : List Pr) (ps : List Int) : Prop := ∀ i, i + 1 < ps.length → Adj D (ps.getD i 0) (ps.getD (i + 1) 0)
def IsP' (D : List Pr) (ps : List Int) : Prop := ps ≠ [] ∧ ps.Nodup ∧ Chn D ps
def bitsI (D : List Pr) (ps : List Int) (i : Nat) : List Bool := (List.range i).map fun k => decide (ps.getD (k + 1) 0 ∈ nearF (ps.getD k 0) D)
theorem bitsI_all {r : Nat} {D : List Pr} {ps : List Int} (drs : Drs r D) : (bitsI D ps (ps.length - 1)).all id = true ↔ Chn D ps := by
  unfold bitsI Chn
  rw [List.all_map, List.all_eq_true]
  constructor
  · intro h i hi
    have := h i (List.mem_range.mpr (by omega))
    exact (mem_nearF fun d hd => (drs.ok d hd).2.1).mp (of_decide_eq_true this)
  · intro h i hi
    have := List.mem_range.mp hi
    exact decide_eq_true ((mem_nearF fun d hd => (drs.ok d hd).2.1).mpr (h i (by omega)))

/-! ### crossed pairs: theory (after FM0) -/
theorem Pth.pre {D : List Pr} {R : List Int} {s x b : Int} {p : List Int} (h : Pth D R s x p) (m : b ∈ p) : ∃ q, Pth D R s b q ∧ q.Sublist p := by
  induction h with
  | base h =>
    rw [List.mem_singleton.mp m]
    exact ⟨[s], .base h, List.Sublist.refl _⟩
  | step k ab hb ih =>
    rcases List.mem_append.mp m with m | m
    · obtain ⟨q, h1, h2⟩ := ih m
      exact ⟨q, h1, h2.trans (List.sublist_append_left _ _)⟩
    · rw [List.mem_singleton.mp m]
      exact ⟨_, .step k ab hb, List.Sublist.refl _⟩
theorem Pth.short {D : List Pr} {R : List Int} {s x : Int} {p : List Int} (h : Pth D R s x p) : ∃ q, Pth D R s x q ∧ q.Nodup ∧ (q = p ∨ q.length < p.length) := by
  induction h with
  | base h => exact ⟨[s], .base h, by simp, .inl rfl⟩
  | step k ab hb ih =>
    rename_i a b p
    obtain ⟨q, h1, h2, h3⟩ := ih
    by_cases m : b ∈ q
    · obtain ⟨q2, k1, k2⟩ := h1.pre m
      refine ⟨q2, k1, h2.sublist k2, .inr ?_⟩
      have := k2.length_le
      rw [List.length_append, List.length_singleton]
      rcases h3 with e | e
      · rw [e] at this; omega
      · omega
    · refine ⟨q ++ [b], .step h1 ab hb, List.nodup_append.mpr ⟨h2, by simp, fun y hy z hz e => ?_⟩, ?_⟩
      · rw [List.mem_singleton.mp hz] at e
        rw [e] at hy
        exact m hy
      · rcases h3 with e | e
        · exact .inl (by rw [e])
        · refine .inr ?_
          rw [List.length_append, List.length_append]
          exact Nat.add_lt_add_right e _
theorem Lst.nodup {D : List Pr} {R : List Int} {s x : Int} {p : List Int} (h : Lst D R s x p) : p.Nodup := by
  obtain ⟨q, h1, h2, h3⟩ := h.1.short
  rcases h3 with e | e
  · rw [← e]; exact h2
  · have := sle_len (h.2 q h1)
    omega
theorem Pth.ends {D : List Pr} {R : List Int} {s x : Int} {p : List Int} (h : Pth D R s x p) : s ∈ p ∧ x ∈ p ∧ p.getD (p.length - 1) 0 = x := by
  induction h with
  | base h => exact ⟨List.mem_cons_self, List.mem_cons_self, rfl⟩
  | step k ab hb ih =>
    refine ⟨List.mem_append.mpr (.inl ih.1), List.mem_append.mpr (.inr List.mem_cons_self), ?_⟩
    rw [List.length_append, List.length_singleton, Nat.add_sub_cancel, List.getD_eq_getElem?_getD, List.getElem?_append_right (Nat.le_refl _), Nat.sub_self]
    rfl
theorem Pth.chn {D : List Pr} {R : List Int} {s x : Int} {p : List Int} (h : Pth D R s x p) : Chn D p := by
  induction h with
  | base h => intro i hi; exact absurd hi (by show ¬ i + 1 < 1; omega)
  | step k ab hb ih =>
    rename_i a b p
    intro i hi
    rw [List.length_append, List.length_singleton] at hi
    have g : ∀ j, j < p.length → (p ++ [b]).getD j 0 = p.getD j 0 := fun j hj => by
      rw [List.getD_eq_getElem?_getD, List.getElem?_append_left hj, List.getD_eq_getElem?_getD]
    by_cases e : i + 1 = p.length
    · have e2 : (p ++ [b]).getD (i + 1) 0 = b := by
        rw [List.getD_eq_getElem?_getD, e, List.getElem?_append_right (Nat.le_refl _), Nat.sub_self]
        rfl
      have e3 := k.ends.2.2
      rw [show p.length - 1 = i by omega] at e3
      rw [e2, g i (by omega), e3]
      exact ab
    · rw [g i (by omega), g (i + 1) (by omega)]
      exact ih i (by omega)
theorem place_lt {L : List Cl} {x : Int} {i : Nat} (h : placeF L x = some i) : i < L.length := by
  have := List.mem_of_find?_eq_some h
  simpa using this
theorem placeI_lt (L : List Cl) (x : Int) : placeI L x < L.length := by
  unfold placeI
  cases h : placeF L x with
  | none => show (-1 : Int) < _; omega
  | some i => have := place_lt h; show (i : Int) < _; omega
theorem placeI_snoc (S : List Cl) (c : Cl) (x : Int) : placeI (S ++ [c]) x = if c.1 = x then (S.length : Int) else placeI S x := by
  unfold placeI
  rw [placeF_snoc]
  by_cases h : c.1 = x
  · rw [if_pos h, if_pos h]
  · rw [if_neg h, if_neg h]
theorem last_top {ps : List Int} {x : Int} (hx : x ∈ ps) (L : List Cl) : (∀ z ∈ ps, placeI L z ≤ placeI L x) → lastIn ps L = lastIn [x] L := by
  refine snoc_ind (M := fun L => (∀ z ∈ ps, placeI L z ≤ placeI L x) → lastIn ps L = lastIn [x] L) (fun _ => rfl) (fun S c ih h => ?_) L
  rw [lastIn_snoc, lastIn_snoc]
  by_cases e : c.1 = x
  · rw [if_pos (by rw [e]; exact hx), if_pos (by rw [e]; exact List.mem_cons_self)]
  · rw [if_neg (show ¬ c.1 ∈ [x] from fun z => e (List.mem_singleton.mp z))]
    by_cases m : c.1 ∈ ps
    · have h1 := h c.1 m
      rw [placeI_snoc, placeI_snoc, if_pos rfl, if_neg e] at h1
      have := placeI_lt S x
      omega
    · rw [if_neg m]
      refine ih fun z hz => ?_
      have h1 := h z hz
      rw [placeI_snoc, placeI_snoc, if_neg (show ¬ c.1 = z from fun q => m (by rw [q]; exact hz)), if_neg e] at h1
      exact h1
theorem cross_of {A B : List Cl} {rs : List Int} {d : Pr} (h : d ∈ crossF A B rs) : d.1 ∈ rs ∧ d.2 ∈ rs ∧ crossB A B d.1 d.2 = true := by
  obtain ⟨x, hx, hd⟩ := List.mem_flatMap.mp h
  obtain ⟨y, hy, rfl⟩ := List.mem_map.mp hd
  obtain ⟨h1, h2⟩ := List.mem_filter.mp hy
  exact ⟨hx, h1, h2⟩
theorem part_of {A B : List Cl} {rs : List Int} {r : Nat} {D : List Pr} {d : Pr} {q : List Int} (hd : d ∈ crossF A B rs) (hr : ∀ x ∈ rs, 0 ≤ x ∧ x < r) (eq : ∀ k : Nat, k < r → wordL A k = wordL B k) (hc : Cnd A B r D d q) : IsP' D q ∧ wordP A q ≠ wordP B q := by
  obtain ⟨m1, m2, cb⟩ := cross_of hd
  have core : ∀ s x, Lst D (hallF r A B d.1 d.2) s x q → d.1 ∈ q → d.2 ∈ q → IsP' D q ∧ wordP A q ≠ wordP B q := fun s x hl i1 i2 => by
    have inH : ∀ z ∈ q, placeI A z ≤ placeI A d.1 ∧ placeI B z ≤ placeI B d.2 := fun z hz => by
      have h := (List.mem_filter.mp (hl.1.inR z hz)).2
      rw [Bool.and_eq_true, decide_eq_true_iff, decide_eq_true_iff] at h
      exact h
    refine ⟨⟨?_, hl.nodup, hl.1.chn⟩, ?_⟩
    · intro e
      rw [e] at i1
      cases i1
    · unfold wordP
      rw [last_top i1 A fun z hz => (inH z hz).1, last_top i2 B fun z hz => (inH z hz).2]
      show wordL A d.1 ≠ wordL B d.2
      have b2 := hr d.2 m2
      have e := eq d.2.toNat (by omega)
      rw [show ((d.2.toNat : Nat) : Int) = d.2 by omega] at e
      rw [← e]
      unfold crossB at cb
      rw [Bool.and_eq_true, decide_eq_true_iff] at cb
      exact cb.1
  rcases hc with h | h
  · exact core _ _ h h.1.ends.1 h.1.ends.2.1
  · exact core _ _ h h.1.ends.2.1 h.1.ends.1

/-! ### forms: the theory -/
/-- ascending, the same rooms -/
def insI (x : Int) : List Int → List Int
  | [] => [x]
  | y :: ys => if x < y then x :: y :: ys else if x = y then y :: ys else y :: insI x ys
theorem insI_mem (x : Int) : ∀ (ys : List Int) (z : Int), z ∈ insI x ys ↔ z = x ∨ z ∈ ys
  | [], z => by simp [insI]
  | y :: ys, z => by
    unfold insI
    split
    · rw [List.mem_cons]
    · split
      · rename_i h
        rw [h, List.mem_cons]
        exact ⟨fun q => .inr q, fun q => q.elim (fun e => .inl e) id⟩
      · rw [List.mem_cons, insI_mem x ys z, List.mem_cons]
        exact ⟨fun q => q.elim (fun e => .inr (.inl e)) fun q => q.elim .inl fun q => .inr (.inr q), fun q => q.elim (fun e => .inr (.inl e)) fun q => q.elim .inl fun q => .inr (.inr q)⟩
theorem insI_up (x : Int) : ∀ ys : List Int, Up ys → Up (insI x ys)
  | [], _ => List.pairwise_singleton _ _
  | y :: ys, h => by
    obtain ⟨h1, h2⟩ := List.pairwise_cons.mp h
    unfold insI
    split
    · rename_i c
      refine List.pairwise_cons.mpr ⟨fun z hz => ?_, h⟩
      rcases List.mem_cons.mp hz with e | m
      · omega
      · have := h1 z m
        omega
    · split
      · exact h
      · refine List.pairwise_cons.mpr ⟨fun z hz => ?_, insI_up x ys h2⟩
        rcases (insI_mem x ys z).mp hz with e | m
        · omega
        · exact h1 z m
def upF (R : List Int) : List Int := R.foldr insI []
theorem upF_mem (R : List Int) (x : Int) : x ∈ upF R ↔ x ∈ R := by
  induction R with
  | nil => exact Iff.rfl
  | cons y R ih =>
    show x ∈ insI y (upF R) ↔ _
    rw [insI_mem, ih, List.mem_cons]
theorem upF_up (R : List Int) : Up (upF R) := by
  induction R with
  | nil => exact List.Pairwise.nil
  | cons y R ih => exact insI_up y _ ih
theorem upF_eq {R ys : List Int} (h : Up ys) (m : ∀ x, x ∈ ys ↔ x ∈ R) : upF R = ys := up_uniq (upF_up R) h fun x => (upF_mem R x).trans (m x).symm
theorem up_nd {ys : List Int} (h : Up ys) : ys.Nodup := List.Pairwise.imp (fun {a b} (h : a < b) => by omega) h
open Classical in
theorem pc_ex (D : List Pr) (R : List Int) (s : Int) : ∃ ys, Pc D R s ys := by
  refine ⟨(upF R).filter fun x => decide (Rch D R s x), (upF_up R).filter _, fun x => ?_⟩
  rw [List.mem_filter, decide_eq_true_iff, upF_mem]
  exact ⟨fun h => h.2, fun h => ⟨h.mem, h⟩⟩
theorem pcs_go (D : List Pr) (R : List Int) : ∀ (n : Nat) (P : List (List Int)) (Lf : List Int), Lf.length ≤ n → PInv D R P Lf → ∃ L, Pcs D R L
  | _, P, [], _, h => ⟨P, h.done⟩
  | 0, _, _ :: _, h, _ => by cases h
  | n + 1, P, l0 :: Lf, hn, h => by
    obtain ⟨ys, hy⟩ := pc_ex D (l0 :: Lf) l0
    refine pcs_go D R n _ _ ?_ (h.step hy)
    have m : l0 ∈ ys := hy.self List.mem_cons_self
    rw [List.filter_cons_of_neg (by simpa using m)]
    exact Nat.le_trans (List.length_filter_le _ _) (Nat.le_of_succ_le_succ hn)
theorem pcs_ex (D : List Pr) (R : List Int) : ∃ L, Pcs D R L := pcs_go D R _ [] (upF R) (Nat.le_refl _) (.start (upF_mem R) (List.Pairwise.imp (fun {a b} (h : a < b) => Int.le_of_lt h) (upF_up R)))
open Classical in
noncomputable def pcsF (D : List Pr) (R : List Int) : List (List Int) := choose (pcs_ex D R)
theorem pcsF_spec (D : List Pr) (R : List Int) : Pcs D R (pcsF D R) := Classical.choose_spec (pcs_ex D R)
theorem pcsF_eq {D : List Pr} {R : List Int} {L : List (List Int)} (h : Pcs D R L) : pcsF D R = L := (pcsF_spec D R).uniq h fun _ => Iff.rfl
theorem pcsF_congr {D : List Pr} {R S : List Int} (h : ∀ x, x ∈ R ↔ x ∈ S) : pcsF D R = pcsF D S := (pcsF_spec D R).uniq (pcsF_spec D S) h
theorem pcsF_nil (D : List Pr) : pcsF D [] = [] := pcsF_eq (Pcs.nil D)
/-- a set of rooms that hangs together -/
def Part (D : List Pr) (Q : List Int) : Prop := Up Q ∧ ∃ s ∈ Q, ∀ x ∈ Q, Rch D Q s x
theorem Pc.part {D : List Pr} {R : List Int} {s : Int} {ys : List Int} (h : Pc D R s ys) (m : s ∈ R) : Part D ys := by
  refine ⟨h.1, s, h.self m, fun x hx => ?_⟩
  have key : ∀ x, Rch D R s x → Rch D ys s x := fun x k => by
    induction k with
    | base k => exact .base (h.self m)
    | step k a b ih => exact ih.step a ((h.2 _).mpr (k.step a b))
  exact key x ((h.2 x).mp hx)
theorem Pcs.part {D : List Pr} {R : List Int} {P : List (List Int)} (h : Pcs D R P) {ys : List Int} (m : ys ∈ P) : Part D ys := by
  obtain ⟨s, hs, hc⟩ := h.pc ys m
  exact hc.part hs
theorem Pcs.sub_of {D : List Pr} {R : List Int} {P : List (List Int)} (h : Pcs D R P) {ys : List Int} (m : ys ∈ P) : ∀ x ∈ ys, x ∈ R := fun x hx => by
  obtain ⟨s, hs, hc⟩ := h.pc ys m
  exact ((hc.2 x).mp hx).mem
theorem Pcs.ne {D : List Pr} {R : List Int} {P : List (List Int)} (h : Pcs D R P) {ys : List Int} (m : ys ∈ P) : ys ≠ [] := fun e => by
  obtain ⟨s, hs, hc⟩ := h.pc ys m
  have := hc.self hs
  rw [e] at this
  cases this
/-- a part lies in one piece -/
theorem Pcs.within {D : List Pr} {R : List Int} {P : List (List Int)} (h : Pcs D R P) {Q : List Int} (hQ : Part D Q) (sub : ∀ x ∈ Q, x ∈ R) {ys : List Int} (m : ys ∈ P) {x : Int} (hx : x ∈ Q) (hy : x ∈ ys) : ∀ z ∈ Q, z ∈ ys := fun z hz => by
  obtain ⟨_, s, hs, hr⟩ := hQ
  obtain ⟨t, ht, hc⟩ := h.pc ys m
  have r1 := (hr x hx).symm.trans (hr z hz)
  exact (hc.2 z).mpr (((hc.2 x).mp hy).trans (r1.mono sub))
theorem Pcs.apart {D : List Pr} {R : List Int} {P : List (List Int)} (h : Pcs D R P) {ys zs : List Int} (m : ys ∈ P) (k : zs ∈ P) {x : Int} (hy : x ∈ ys) (hz : x ∈ zs) : ys = zs := by
  obtain ⟨s, hs, hc⟩ := h.pc ys m
  obtain ⟨t, ht, hd⟩ := h.pc zs k
  exact (hc.of hy).uniq (hd.of hz)
theorem Pcs.len {D : List Pr} {R : List Int} {P : List (List Int)} (h : Pcs D R P) : P.length ≤ R.length := by
  have nd : (P.map hdI).Nodup := List.pairwise_map.mpr (List.Pairwise.imp (fun {a b} (q : hdI a < hdI b) => by omega) h.asc)
  have := int_sub_len2 nd fun x hx => by
    obtain ⟨ys, hy, rfl⟩ := List.mem_map.mp hx
    obtain ⟨s, hs, hc⟩ := h.pc ys hy
    exact ((hc.2 _).mp (hdI_mem (hc.self hs))).mem
  rw [List.length_map] at this
  exact this
/-- the keepers of a part with a word, the top room first -/
noncomputable def keepL (D : List Pr) (L : List Cl) : Nat → List Int → List Int
  | 0, _ => []
  | n + 1, P => match lastIn P L with
    | none => []
    | some c => c.1 :: (pcsF D (P.filter fun x => decide (x ≠ c.1))).flatMap fun Q => if wordP L Q = some c.2 then keepL D L n Q else []
theorem keepL_sub {D : List Pr} {L : List Cl} : ∀ (n : Nat) (P : List Int) (x : Int), x ∈ keepL D L n P → x ∈ P
  | 0, _, _, h => by cases h
  | n + 1, P, x, h => by
    unfold keepL at h
    split at h
    · cases h
    · rename_i c e
      rcases List.mem_cons.mp h with q | q
      · rw [q]
        exact (lastIn_in e)
      · obtain ⟨Q, hQ, hx⟩ := List.mem_flatMap.mp q
        split at hx
        · have := (pcsF_spec D _).sub_of hQ x (keepL_sub n Q x hx)
          exact (List.mem_filter.mp this).1
        · cases hx
/-- a keeper: each part within that holds the room has the word of the part -/
theorem keepL_iff {D : List Pr} {L : List Cl} : ∀ (n : Nat) (P : List Int) (w : Str), P.length ≤ n → Part D P → wordP L P = some w → ∀ x, x ∈ keepL D L n P ↔ x ∈ P ∧ ∀ Q, Part D Q → x ∈ Q → (∀ z ∈ Q, z ∈ P) → wordP L Q = some w
  | 0, P, w, hn, hp, _, x => by
    obtain ⟨_, s, hs, _⟩ := hp
    have : P = [] := List.length_eq_zero_iff.mp (Nat.le_zero.mp hn)
    rw [this] at hs
    cases hs
  | n + 1, P, w, hn, hp, hw, x => by
    obtain ⟨c, e, ec⟩ : ∃ c, lastIn P L = some c ∧ c.2 = w := by
      unfold wordP at hw
      cases e : lastIn P L with
      | none => rw [e] at hw; cases hw
      | some c => rw [e] at hw; exact ⟨c, rfl, Option.some.inj hw⟩
    subst ec
    have cP := lastIn_in e
    have hs := pcsF_spec D (P.filter fun x => decide (x ≠ c.1))
    have lt : ∀ Q ∈ pcsF D (P.filter fun x => decide (x ≠ c.1)), Q.length ≤ n := fun Q hQ => by
      have nd := up_nd (hs.part hQ).1
      have h1 := int_sub_len2 nd (hs.sub_of hQ)
      have h2 : (P.filter fun x => decide (x ≠ c.1)).length < P.length := filter_lt cP (by simp)
      omega
    have topIn : ∀ Q : List Int, c.1 ∈ Q → (∀ z ∈ Q, z ∈ P) → wordP L Q = some c.2 := fun Q hc sub => by
      unfold wordP
      rw [lastIn_sub L e hc sub]
      rfl
    unfold keepL
    rw [e]
    show x ∈ c.1 :: _ ↔ _
    rw [List.mem_cons]
    constructor
    · rintro (q | q)
      · rw [q]
        exact ⟨cP, fun Q _ hc sub => topIn Q hc sub⟩
      · obtain ⟨Q, hQ, hx⟩ := List.mem_flatMap.mp q
        split at hx
        · rename_i hwq
          obtain ⟨h1, h2⟩ := (keepL_iff n Q c.2 (lt Q hQ) (hs.part hQ) hwq x).mp hx
          refine ⟨(List.mem_filter.mp (hs.sub_of hQ x h1)).1, fun S hS xS sub => ?_⟩
          by_cases m : c.1 ∈ S
          · exact topIn S m sub
          · refine h2 S hS xS (hs.within hS (fun z hz => List.mem_filter.mpr ⟨sub z hz, decide_eq_true fun z' => m (by rw [← z']; exact hz)⟩) hQ xS h1)
        · cases hx
    · rintro ⟨h1, h2⟩
      by_cases q : x = c.1
      · exact .inl q
      · refine .inr ?_
        have xf : x ∈ P.filter fun x => decide (x ≠ c.1) := List.mem_filter.mpr ⟨h1, decide_eq_true q⟩
        obtain ⟨Q, hQ, xQ⟩ := hs.cov x xf
        have sub : ∀ z ∈ Q, z ∈ P := fun z hz => (List.mem_filter.mp (hs.sub_of hQ z hz)).1
        have hwq := h2 Q (hs.part hQ) xQ sub
        refine List.mem_flatMap.mpr ⟨Q, hQ, ?_⟩
        rw [if_pos hwq]
        exact (keepL_iff n Q c.2 (lt Q hQ) (hs.part hQ) hwq x).mpr ⟨xQ, fun S hS xS sb => h2 S hS xS fun z hz => sub z (sb z hz)⟩
/-- blocks -/
inductive Blk where
  | mk (w : Option Str) (t : List Int) (i : List Blk)
def Blk.w : Blk → Option Str
  | .mk w _ _ => w
def Blk.t : Blk → List Int
  | .mk _ t _ => t
def Blk.i : Blk → List Blk
  | .mk _ _ i => i
/-- the blocks of some rooms -/
noncomputable def blkF (D : List Pr) (L : List Cl) : Nat → List Int → List Blk
  | 0, _ => []
  | n + 1, R => (pcsF D R).map fun P => match wordP L P with
    | none => .mk none P []
    | some w => .mk (some w) (upF (keepL D L 12 P)) (blkF D L n (P.filter fun x => decide (x ∉ keepL D L 12 P)))
/-- two logs leave the same words in the parts of some rooms -/
def AlkP (D : List Pr) (R : List Int) (L M : List Cl) : Prop := ∀ Q, Part D Q → (∀ z ∈ Q, z ∈ R) → wordP L Q = wordP M Q
theorem keep_alk {D : List Pr} {L M : List Cl} {P : List Int} {w : Str} (hn : P.length ≤ 12) (hp : Part D P) (h : AlkP D P L M) (hw : wordP L P = some w) : ∀ x, x ∈ keepL D L 12 P ↔ x ∈ keepL D M 12 P := fun x => by
  have hm := (h P hp fun _ q => q).symm.trans hw
  rw [keepL_iff 12 P w hn hp hw x, keepL_iff 12 P w hn hp hm x]
  exact ⟨fun ⟨a, b⟩ => ⟨a, fun Q hQ xQ sub => (h Q hQ sub).symm.trans (b Q hQ xQ sub)⟩, fun ⟨a, b⟩ => ⟨a, fun Q hQ xQ sub => (h Q hQ sub).trans (b Q hQ xQ sub)⟩⟩
theorem blkF_alk {D : List Pr} {L M : List Cl} : ∀ (n : Nat) (R : List Int), R.length ≤ 12 → AlkP D R L M → blkF D L n R = blkF D M n R
  | 0, _, _, _ => rfl
  | n + 1, R, hR, h => by
    unfold blkF
    refine List.map_congr_left fun P hP => ?_
    have hs := pcsF_spec D R
    have sub := hs.sub_of hP
    have part := hs.part hP
    have pl : P.length ≤ 12 := Nat.le_trans (int_sub_len2 (up_nd part.1) sub) hR
    have hPa : AlkP D P L M := fun Q hQ sb => h Q hQ fun z hz => sub z (sb z hz)
    rw [← hPa P part fun _ q => q]
    cases e : wordP L P with
    | none => rfl
    | some w =>
      have km := keep_alk pl part hPa e
      have e1 : upF (keepL D L 12 P) = upF (keepL D M 12 P) := upF_eq (upF_up _) fun x => (upF_mem _ x).trans (km x).symm
      have e2 : (P.filter fun x => decide (x ∉ keepL D L 12 P)) = P.filter fun x => decide (x ∉ keepL D M 12 P) := List.filter_congr fun x _ => by
        rw [decide_eq_decide]
        exact not_congr (km x)
      show Blk.mk _ _ _ = Blk.mk _ _ _
      rw [e1, e2]
      rw [blkF_alk n _ (Nat.le_trans (List.length_filter_le _ _) pl) fun Q hQ sb => hPa Q hQ fun z hz => (List.mem_filter.mp (sb z hz)).1]

/-! ### the plain log of a form -/
theorem wordP_app (A B : List Cl) (Q : List Int) : wordP (A ++ B) Q = (wordP B Q).or (wordP A Q) := by
  refine snoc_ind (M := fun B => wordP (A ++ B) Q = (wordP B Q).or (wordP A Q)) ?_ (fun S c ih => ?_) B
  · rw [List.append_nil]
    rfl
  · rw [← List.append_assoc, wordP_snoc, wordP_snoc, ih]
    split <;> rfl
theorem lastIn_cons (R : List Int) (c : Cl) (S : List Cl) : lastIn R (c :: S) = match lastIn R S with
    | some d => some d
    | none => if c.1 ∈ R then some c else none := by
  unfold lastIn
  rw [List.reverse_cons, List.find?_append]
  cases e : S.reverse.find? (fun c => decide (c.1 ∈ R)) with
  | some d => rfl
  | none =>
    show List.find? (fun c : Cl => decide (c.1 ∈ R)) [c] = if c.1 ∈ R then some c else none
    by_cases h : c.1 ∈ R
    · rw [List.find?_cons_of_pos (by simp [h]), if_pos h]
    · rw [List.find?_cons_of_neg (by simp [h]), if_neg h]
      rfl
theorem lastIn_lastF (R : List Int) : ∀ S : List Cl, lastIn R (lastF S) = lastIn R S
  | [] => rfl
  | c :: S => by
    have ih := lastIn_lastF R S
    show lastIn R (if c.1 ∈ S.map (·.1) then lastF S else c :: lastF S) = _
    by_cases h : c.1 ∈ S.map (·.1)
    · rw [if_pos h, ih, lastIn_cons]
      cases e : lastIn R S with
      | some d => rfl
      | none =>
        obtain ⟨d, hd, ed⟩ := List.mem_map.mp h
        have n := lastIn_none.mp e d hd
        rw [ed] at n
        simp only [if_neg n]
    · rw [if_neg h, lastIn_cons, lastIn_cons, ih]
theorem wordP_last (L : List Cl) (ps : List Int) : wordP (lastF L) ps = wordP L ps := by
  unfold wordP
  rw [lastIn_lastF]
theorem wordP_out {A : List Cl} {Q : List Int} (h : ∀ c ∈ A, c.1 ∉ Q) : wordP A Q = none := by
  unfold wordP
  rw [lastIn_none.mpr h]
  rfl
theorem wordP_none {A : List Cl} {Q : List Int} (h : wordP A Q = none) : ∀ c ∈ A, c.1 ∉ Q := by
  unfold wordP at h
  cases e : lastIn Q A with
  | none => exact lastIn_none.mp e
  | some c => rw [e] at h; cases h
theorem wordP_sub {A : List Cl} {Q R : List Int} (h : wordP A R = none) (sub : ∀ z ∈ Q, z ∈ R) : wordP A Q = none := wordP_out fun c hc z => wordP_none h c hc (sub _ z)
theorem wordP_flat {α : Type} {g : α → List Cl} {Q : List Int} : ∀ {l : List α} {a : α}, a ∈ l → (∀ b ∈ l, b ≠ a → ∀ c ∈ g b, c.1 ∉ Q) → wordP (l.flatMap g) Q = wordP (g a) Q
  | b :: l, a, m, h => by
    rw [List.flatMap_cons, wordP_app]
    by_cases ml : a ∈ l
    · rw [wordP_flat ml fun b hb => h b (List.mem_cons_of_mem _ hb)]
      by_cases e : b = a
      · rw [e]
        cases wordP (g a) Q <;> rfl
      · rw [wordP_out (h b List.mem_cons_self e)]
        cases wordP (g a) Q <;> rfl
    · rcases List.mem_cons.mp m with e | m
      · subst e
        rw [wordP_out (A := l.flatMap g) fun c hc => ?_]
        · rfl
        · obtain ⟨d, hd, hc⟩ := List.mem_flatMap.mp hc
          exact h d (List.mem_cons_of_mem _ hd) (fun z => ml (by rw [← z]; exact hd)) c hc
      · exact absurd m ml
theorem wordP_const {T : List Int} {w : Str} {Q : List Int} {x : Int} (hx : x ∈ T) (hq : x ∈ Q) : wordP (T.map fun x => (x, w)) Q = some w := by
  cases e : wordP (T.map fun x => (x, w)) Q with
  | none => exact absurd hq (wordP_none e (x, w) (List.mem_map.mpr ⟨x, hx, rfl⟩))
  | some v =>
    unfold wordP at e
    cases e2 : lastIn Q (T.map fun x => (x, w)) with
    | none => rw [e2] at e; cases e
    | some c =>
      rw [e2] at e
      have hm := List.mem_reverse.mp (List.mem_of_find?_eq_some e2)
      obtain ⟨y, _, ey⟩ := List.mem_map.mp hm
      subst ey
      exact e.symm
def plainF : Nat → List Blk → List Cl
  | 0, _ => []
  | n + 1, bs => bs.flatMap fun b => match b.w with
    | none => []
    | some w => plainF n b.i ++ b.t.map fun x => (x, w)
/-- the block of a piece -/
noncomputable def blkP (D : List Pr) (L : List Cl) (n : Nat) (P : List Int) : Blk := match wordP L P with
  | none => .mk none P []
  | some w => .mk (some w) (upF (keepL D L 12 P)) (blkF D L n (P.filter fun x => decide (x ∉ keepL D L 12 P)))
theorem blkF_succ (D : List Pr) (L : List Cl) (n : Nat) (R : List Int) : blkF D L (n + 1) R = (pcsF D R).map (blkP D L n) := rfl
def plainB (n : Nat) (b : Blk) : List Cl := match b.w with
  | none => []
  | some w => plainF n b.i ++ b.t.map fun x => (x, w)
theorem plainF_succ (n : Nat) (bs : List Blk) : plainF (n + 1) bs = bs.flatMap (plainB n) := rfl
theorem keepL_ne {D : List Pr} {L : List Cl} {n : Nat} {P : List Int} {w : Str} (h : wordP L P = some w) : ∃ x ∈ P, x ∈ keepL D L (n + 1) P := by
  unfold wordP at h
  unfold keepL
  cases e : lastIn P L with
  | none => rw [e] at h; cases h
  | some c => exact ⟨c.1, lastIn_in e, List.mem_cons_self⟩
theorem plain_in {D : List Pr} {L : List Cl} : ∀ (n m : Nat) (R : List Int), ∀ c ∈ plainF n (blkF D L m R), c.1 ∈ R
  | 0, _, _, _, h => by cases h
  | n + 1, 0, R, c, h => by cases h
  | n + 1, m + 1, R, c, h => by
    rw [plainF_succ, blkF_succ] at h
    obtain ⟨b, hb, hc⟩ := List.mem_flatMap.mp h
    obtain ⟨P, hP, rfl⟩ := List.mem_map.mp hb
    refine (pcsF_spec D R).sub_of hP _ ?_
    unfold plainB blkP at hc
    cases e : wordP L P with
    | none =>
      rw [e] at hc
      cases hc
    | some w =>
      rw [e] at hc
      rcases List.mem_append.mp hc with q | q
      · exact (List.mem_filter.mp (plain_in n m _ c q)).1
      · obtain ⟨x, hx, rfl⟩ := List.mem_map.mp q
        exact keepL_sub _ _ _ ((upF_mem _ _).mp hx)
theorem plain_alk {D : List Pr} {L : List Cl} : ∀ (n m k : Nat) (R : List Int), R.length ≤ n → n ≤ m → n ≤ k → R.length ≤ 12 → AlkP D R (plainF m (blkF D L k R)) L
  | 0, _, _, R, hR, _, _, _, Q, hQ, sub => by
    obtain ⟨_, s, hs, _⟩ := hQ
    have := sub s hs
    rw [List.length_eq_zero_iff.mp (Nat.le_zero.mp hR)] at this
    cases this
  | n + 1, 0, _, _, _, h, _, _, _, _, _ => by cases h
  | n + 1, _ + 1, 0, _, _, _, h, _, _, _, _ => by cases h
  | n + 1, m + 1, k + 1, R, hR, hm, hk, h12, Q, hQ, sub => by
    have hs := pcsF_spec D R
    obtain ⟨_, s, sQ, hr⟩ := id hQ
    obtain ⟨P, hP, sP⟩ := hs.cov s (sub s sQ)
    have QP := hs.within hQ sub hP sQ sP
    have partP := hs.part hP
    have pl : P.length ≤ R.length := int_sub_len2 (up_nd partP.1) (hs.sub_of hP)
    have inP : ∀ P' : List Int, ∀ c ∈ plainB m (blkP D L k P'), c.1 ∈ P' := fun P' c hc => by
      unfold plainB blkP at hc
      cases e : wordP L P' with
      | none =>
        rw [e] at hc
        cases hc
      | some w =>
        rw [e] at hc
        rcases List.mem_append.mp hc with q | q
        · exact (List.mem_filter.mp (plain_in m k _ c q)).1
        · obtain ⟨x, hx, rfl⟩ := List.mem_map.mp q
          exact keepL_sub _ _ _ ((upF_mem _ _).mp hx)
    rw [plainF_succ, blkF_succ, List.flatMap_map, wordP_flat hP fun P' hP' ne c hc z => ne (hs.apart hP' hP (inP P' c hc) (QP _ z))]
    unfold plainB blkP
    cases e : wordP L P with
    | none => exact (wordP_sub e QP).symm
    | some w =>
      show wordP (plainF m (blkF D L k (P.filter fun x => decide (x ∉ keepL D L 12 P))) ++ (upF (keepL D L 12 P)).map fun x => (x, w)) Q = _
      rw [wordP_app]
      have ki := keepL_iff 12 P w (Nat.le_trans pl h12) partP e
      by_cases hx : ∃ x ∈ Q, x ∈ keepL D L 12 P
      · obtain ⟨x, xQ, xk⟩ := hx
        rw [wordP_const ((upF_mem _ _).mpr xk) xQ, ((ki x).mp xk).2 Q hQ xQ QP]
        rfl
      · have no : ∀ x ∈ Q, x ∉ keepL D L 12 P := fun x xQ xk => hx ⟨x, xQ, xk⟩
        rw [wordP_out (A := (upF (keepL D L 12 P)).map fun x => (x, w)) fun c hc z => by
          obtain ⟨y, hy, rfl⟩ := List.mem_map.mp hc
          exact no y z ((upF_mem _ _).mp hy)]
        obtain ⟨x, xP, xk⟩ := keepL_ne (D := D) (n := 11) e
        have lt : (P.filter fun x => decide (x ∉ keepL D L 12 P)).length < P.length := filter_lt xP (by simpa using xk)
        exact plain_alk n m k _ (by omega) (Nat.le_of_succ_le_succ hm) (Nat.le_of_succ_le_succ hk) (by omega) Q hQ fun z hz => List.mem_filter.mpr ⟨QP z hz, decide_eq_true (no z hz)⟩
theorem alk_app {D : List Pr} {R : List Int} {A B A' B' : List Cl} (h : AlkP D R A A') (k : AlkP D R B B') : AlkP D R (A ++ B) (A' ++ B') := fun Q hQ sub => by
  rw [wordP_app, wordP_app, h Q hQ sub, k Q hQ sub]
theorem alk_refl (D : List Pr) (R : List Int) (A : List Cl) : AlkP D R A A := fun _ _ _ => rfl
/-- the form of a house -/
noncomputable def formF (D : List Pr) (r : Nat) (L : List Cl) : List Blk := blkF D L 12 (rg r)
theorem form_alk {D : List Pr} {r : Nat} {L M : List Cl} (hr : r ≤ 12) (h : AlkP D (rg r) L M) : formF D r L = formF D r M := blkF_alk 12 _ (by rw [rg_len]; exact hr) h
theorem form_plain {D : List Pr} {r : Nat} {L : List Cl} (hr : r ≤ 12) : AlkP D (rg r) (plainF 12 (formF D r L)) L := plain_alk 12 12 12 _ (by rw [rg_len]; exact hr) (Nat.le_refl _) (Nat.le_refl _) (by rw [rg_len]; exact hr)
/-! ### forms in the heap -/
structure BlkV (H : Hp) (B : List V → List Blk → Prop) (v : V) (b : Blk) : Prop where
  ex : ∃ a t i xs, v = V.ref a ∧ H a = some (.tup [optS b.w, .ref t, .ref i]) ∧ H t = some (.tup (b.t.map V.int)) ∧ b.t.length ≤ 1000 ∧ H i = some (.tup xs) ∧ B xs b.i
def BlksAt (H : Hp) : Nat → List V → List Blk → Prop
  | 0, xs, bs => xs = [] ∧ bs = []
  | n + 1, xs, bs => xs.length ≤ 1000 ∧ Paired (BlkV H (BlksAt H n)) xs bs
theorem BlksAt.kt {H H' : Hp} (k : KT H H') : ∀ {n : Nat} {xs : List V} {bs : List Blk}, BlksAt H n xs bs → BlksAt H' n xs bs
  | 0, _, _, h => h
  | n + 1, xs, bs, h => ⟨h.1, Paired.mapP h.2 fun v b q => by
    obtain ⟨a, t, i, ys, e, h1, h2, h3, h4, h5⟩ := q.ex
    exact ⟨a, t, i, ys, e, k _ _ h1, k _ _ h2, h3, k _ _ h4, BlksAt.kt k h5⟩⟩
theorem BlksAt.len {H : Hp} : ∀ {n : Nat} {xs : List V} {bs : List Blk}, BlksAt H n xs bs → xs.length = bs.length
  | 0, _, _, h => by rw [h.1, h.2]; rfl
  | _ + 1, _, _, h => Paired.length h.2
/-- a form at a tuple -/
def FormAt (H : Hp) (n : Nat) (v : V) (bs : List Blk) : Prop := ∃ a xs, v = V.ref a ∧ H a = some (.tup xs) ∧ BlksAt H n xs bs
theorem FormAt.kt {H H' : Hp} {n : Nat} {v : V} {bs : List Blk} (h : FormAt H n v bs) (k : KT H H') : FormAt H' n v bs := by
  obtain ⟨a, xs, e, h1, h2⟩ := h
  exact ⟨a, xs, e, k _ _ h1, h2.kt k⟩
theorem blks_nil {H : Hp} {n : Nat} {a : Addr} (h : H a = some (.tup [])) : FormAt H n (.ref a) [] := by
  refine ⟨a, [], rfl, h, ?_⟩
  cases n with
  | zero => exact ⟨rfl, rfl⟩
  | succ n => exact ⟨Nat.zero_le _, Paired.nil⟩
theorem flat_optS (o : Option Str) : flat4 (optS o) = true := by cases o <;> rfl
theorem sm_ints {H : Hp} {n : Nat} {t u : Addr} {T : List Int} (h : H t = some (.tup (T.map V.int))) (k : H u = some (.tup (T.map V.int))) (l : T.length ≤ 1000) : Sm H (n + 1) (.ref t) (.ref u) := by
  refine .inr ⟨t, u, _, _, rfl, rfl, .inr ⟨h, k⟩, ?_, by rw [List.length_map]; omega⟩
  have : ∀ T : List Int, Paired (Sm H n) (T.map V.int) (T.map V.int) := fun T => by
    induction T with
    | nil => exact .nil
    | cons x T ih => exact .cons (Sm.flat rfl) ih
  exact this T
theorem sm_blks {H : Hp} : ∀ {n : Nat} {xs ys : List V} {bs : List Blk}, BlksAt H n xs bs → BlksAt H n ys bs → Paired (Sm H (2 * n)) xs ys
  | 0, _, _, _, h, k => by
    rw [h.1, k.1]
    exact .nil
  | n + 1, xs, ys, bs, h, k => by
    have go : ∀ {xs ys : List V} {bs : List Blk}, Paired (BlkV H (BlksAt H n)) xs bs → Paired (BlkV H (BlksAt H n)) ys bs → Paired (Sm H (2 * (n + 1))) xs ys := fun {xs ys bs} h k => by
      induction h generalizing ys with
      | nil =>
        cases k
        exact .nil
      | cons r _ ih =>
        cases k with
        | cons q t =>
          refine .cons ?_ (ih t)
          obtain ⟨a, t1, i, us, rfl, a1, a2, a3, a4, a5⟩ := r.ex
          obtain ⟨b, t2, j, vs, rfl, b1, b2, b3, b4, b5⟩ := q.ex
          refine .inr ⟨a, b, _, _, rfl, rfl, .inr ⟨a1, b1⟩, .cons (Sm.flat (flat_optS _)) (.cons (sm_ints a2 b2 a3) (.cons ?_ .nil)), by show 3 ≤ 100000; decide⟩
          refine .inr ⟨i, j, _, _, rfl, rfl, .inr ⟨a4, b4⟩, sm_blks a5 b5, ?_⟩
          cases n with
          | zero =>
            rw [a5.1]
            decide
          | succ n => exact Nat.le_trans a5.1 (by decide)
    exact go h.2 k.2
theorem sm_form {H : Hp} {v u : V} {bs : List Blk} (h : FormAt H 12 v bs) (k : FormAt H 12 u bs) : Sm H 25 v u := by
  obtain ⟨a, xs, rfl, h1, h2⟩ := h
  obtain ⟨b, ys, rfl, k1, k2⟩ := k
  exact .inr ⟨a, b, _, _, rfl, rfl, .inr ⟨h1, k1⟩, sm_blks h2 k2, Nat.le_trans h2.1 (by decide)⟩

/-! ### completeness: each parting path has a first path of a crossed pair that is no longer -/
theorem nat_least {P : Nat → Prop} (h : ∃ n, P n) : ∃ n, P n ∧ ∀ m, m < n → ¬ P m := by
  obtain ⟨n, hn⟩ := h
  induction n using Nat.strongRecOn with
  | _ n ih =>
    by_cases c : ∃ m, m < n ∧ P m
    · obtain ⟨m, hm, pm⟩ := c
      exact ih m hm pm
    · exact ⟨n, hn, fun m hm pm => c ⟨m, hm, pm⟩⟩
theorem lex_min : ∀ (n : Nat) (S : List Int → Prop), (∀ q, S q → q.length = n ∧ ∀ x ∈ q, 0 ≤ x) → (∃ q, S q) → ∃ q, S q ∧ ∀ q', S q' → q = q' ∨ ltL q q'
  | 0, S, h, ⟨q, hq⟩ => ⟨q, hq, fun q' hq' => .inl (by rw [List.length_eq_zero_iff.mp (h q hq).1, List.length_eq_zero_iff.mp (h q' hq').1])⟩
  | n + 1, S, h, ⟨q, hq⟩ => by
    have sp : ∀ q, S q → ∃ a t, q = a :: t ∧ 0 ≤ a := fun q hq => by
      obtain ⟨l, nn⟩ := h q hq
      cases q with
      | nil => cases l
      | cons a t => exact ⟨a, t, rfl, nn a List.mem_cons_self⟩
    obtain ⟨a0, t0, e0, _⟩ := sp q hq
    obtain ⟨m, ⟨a, t, hat, em⟩, mm⟩ := nat_least (P := fun m => ∃ (a : Int) (t : List Int), S (a :: t) ∧ a.toNat = m) ⟨a0.toNat, a0, t0, by rw [← e0]; exact hq, rfl⟩
    obtain ⟨t', ht', mt⟩ := lex_min n (fun t => S (a :: t)) (fun t ht => ⟨Nat.succ.inj (h _ ht).1, fun x hx => (h _ ht).2 x (List.mem_cons_of_mem _ hx)⟩) ⟨t, hat⟩
    refine ⟨a :: t', ht', fun q' hq' => ?_⟩
    obtain ⟨b, u, rfl, hb⟩ := sp q' hq'
    have ha : 0 ≤ a := (h _ hat).2 a List.mem_cons_self
    have nl : ¬ b.toNat < m := fun z => mm _ z ⟨b, u, hq', rfl⟩
    by_cases e : a = b
    · subst e
      rcases mt u hq' with e | e
      · exact .inl (by rw [e])
      · exact .inr (.inr ⟨rfl, e⟩)
    · exact .inr (.inl (by omega))
theorem slt_min (S : List Int → Prop) (nn : ∀ q, S q → ∀ x ∈ q, 0 ≤ x) (ex : ∃ q, S q) : ∃ q, S q ∧ ∀ q', S q' → sle q q' := by
  obtain ⟨q0, h0⟩ := ex
  obtain ⟨n, ⟨q1, h1, e1⟩, mn⟩ := nat_least (P := fun n => ∃ q, S q ∧ q.length = n) ⟨_, q0, h0, rfl⟩
  obtain ⟨q, ⟨hq, lq⟩, mq⟩ := lex_min n (fun q => S q ∧ q.length = n) (fun q h => ⟨h.2, nn q h.1⟩) ⟨q1, h1, e1⟩
  refine ⟨q, hq, fun q' hq' => ?_⟩
  have nl : ¬ q'.length < n := fun z => mn _ z ⟨q', hq', rfl⟩
  by_cases e : q'.length = n
  · rcases mq q' ⟨hq', e⟩ with z | z
    · exact .inl z
    · exact .inr (.inr ⟨by omega, z⟩)
  · exact .inr (.inl (by omega))
theorem Lst.ex {D : List Pr} {R : List Int} {s x : Int} {p : List Int} (nn : ∀ y ∈ R, 0 ≤ y) (h : Pth D R s x p) : ∃ q, Lst D R s x q ∧ sle q p := by
  obtain ⟨q, hq, mq⟩ := slt_min (Pth D R s x) (fun q hq y hy => nn y (hq.inR y hy)) ⟨p, h⟩
  exact ⟨q, ⟨hq, mq⟩, mq p h⟩
/-- a stretch of a walk is a path -/
theorem pth_cut {D : List Pr} {R ps : List Int} (ch : Chn D ps) (inR : ∀ x ∈ ps, x ∈ R) {i : Nat} : ∀ k, i + k < ps.length → Pth D R (ps.getD i 0) (ps.getD (i + k) 0) ((ps.drop i).take (k + 1))
  | 0, h => by
    have g : ps[i]? = some (ps.getD i 0) := by rw [List.getElem?_eq_getElem (by omega), List.getD_eq_getElem?_getD, List.getElem?_eq_getElem (by omega)]; rfl
    have e : (ps.drop i).take 1 = [ps.getD i 0] := by
      rw [List.take_add_one, List.take_zero, List.getElem?_drop, Nat.add_zero, g]
      rfl
    rw [Nat.add_zero, e]
    exact .base (inR _ (List.mem_of_getElem? g))
  | k + 1, h => by
    have ih := pth_cut ch inR (i := i) k (by omega)
    have g : ps[i + (k + 1)]? = some (ps.getD (i + (k + 1)) 0) := by rw [List.getElem?_eq_getElem (by omega), List.getD_eq_getElem?_getD, List.getElem?_eq_getElem (by omega)]; rfl
    rw [List.take_add_one, List.getElem?_drop, g]
    exact .step ih (ch (i + k) (by omega)) (inR _ (List.mem_of_getElem? g))
theorem cut_sle {ps : List Int} {i k : Nat} (h : i + k < ps.length) : sle ((ps.drop i).take (k + 1)) ps := by
  have l : ((ps.drop i).take (k + 1)).length = k + 1 := by rw [List.length_take, List.length_drop]; omega
  by_cases e : k + 1 = ps.length
  · left
    have : i = 0 := by omega
    rw [this, List.drop_zero, e, List.take_length]
  · exact .inr (.inl (by omega))
theorem mem_at {ps : List Int} {x : Int} (h : x ∈ ps) : ∃ i, i < ps.length ∧ ps.getD i 0 = x := by
  obtain ⟨i, hi, e⟩ := List.mem_iff_getElem.mp h
  exact ⟨i, hi, by rw [List.getD_eq_getElem?_getD, List.getElem?_eq_getElem hi]; exact e⟩
/-- the latest call of some rooms -/
theorem lastIn_top {ps : List Int} {c : Cl} (L : List Cl) : lastIn ps L = some c → c.1 ∈ ps ∧ c.1 ∈ L.map (·.1) ∧ lastIn [c.1] L = some c ∧ ∀ z ∈ ps, placeI L z ≤ placeI L c.1 := by
  refine snoc_ind (M := fun L => lastIn ps L = some c → c.1 ∈ ps ∧ c.1 ∈ L.map (·.1) ∧ lastIn [c.1] L = some c ∧ ∀ z ∈ ps, placeI L z ≤ placeI L c.1) (fun z => by cases z) (fun S d ih h => ?_) L
  rw [lastIn_snoc] at h
  by_cases m : d.1 ∈ ps
  · rw [if_pos m] at h
    cases h
    refine ⟨m, by simp, by rw [lastIn_snoc, if_pos List.mem_cons_self], fun z hz => ?_⟩
    rw [placeI_snoc, placeI_snoc, if_pos rfl]
    split
    · exact Int.le_refl _
    · have := placeI_lt S z
      omega
  · rw [if_neg m] at h
    obtain ⟨h1, h2, h3, h4⟩ := ih h
    have ne : ¬ d.1 = c.1 := fun e => m (by rw [e]; exact h1)
    refine ⟨h1, by rw [List.map_append]; exact List.mem_append_left _ h2, by rw [lastIn_snoc, if_neg (fun z => ne (List.mem_singleton.mp z))]; exact h3, fun z hz => ?_⟩
    rw [placeI_snoc, placeI_snoc, if_neg (fun e => m (by rw [e]; exact hz)), if_neg ne]
    exact h4 z hz
theorem placeI_inj {L : List Cl} {x y : Int} : x ∈ L.map (·.1) → placeI L x = placeI L y → x = y := by
  refine snoc_ind (M := fun L => x ∈ L.map (·.1) → placeI L x = placeI L y → x = y) (fun z => by cases z) (fun S d ih h e => ?_) L
  rw [placeI_snoc, placeI_snoc] at e
  have l1 := placeI_lt S x
  have l2 := placeI_lt S y
  by_cases c1 : d.1 = x
  · rw [if_pos c1] at e
    by_cases c2 : d.1 = y
    · rw [← c1, ← c2]
    · rw [if_neg c2] at e
      omega
  · rw [if_neg c1] at e
    by_cases c2 : d.1 = y
    · rw [if_pos c2] at e
      omega
    · rw [if_neg c2] at e
      refine ih ?_ e
      rw [List.map_append] at h
      rcases List.mem_append.mp h with h | h
      · exact h
      · exact absurd (List.mem_singleton.mp h).symm c1
/-- a parting path -/
def Prt (D : List Pr) (A B : List Cl) (q : List Int) : Prop := IsP' D q ∧ wordP A q ≠ wordP B q
theorem cross_in {A B : List Cl} {rs : List Int} {x y : Int} (hx : x ∈ rs) (hy : y ∈ rs) (h : crossB A B x y = true) : (x, y) ∈ crossF A B rs :=
  List.mem_flatMap.mpr ⟨x, hx, List.mem_map.mpr ⟨y, List.mem_filter.mpr ⟨hy, h⟩, rfl⟩⟩
theorem mem_rg {n : Nat} {x : Int} (h0 : 0 ≤ x) (h1 : x < n) : x ∈ rg n := List.mem_map.mpr ⟨x.toNat, List.mem_range.mpr (by omega), by show ((x.toNat : Nat) : Int) = x; omega⟩
theorem comp_cross {A B : List Cl} {rs : List Int} {r : Nat} {ps : List Int} (iA : InR r A) (iB : InR r B) (hrs : ∀ x, x ∈ rs ↔ x ∈ A.map (·.1)) (eq : ∀ k : Nat, k < r → wordL A k = wordL B k) (ne : wordP A ps ≠ wordP B ps) :
    ∃ x y, (x, y) ∈ crossF A B rs ∧ x ∈ ps ∧ y ∈ ps ∧ ∀ z ∈ ps, placeI A z ≤ placeI A x ∧ placeI B z ≤ placeI B y := by
  have eqz : ∀ z : Int, wordL A z = wordL B z := fun z => by
    by_cases c : 0 ≤ z ∧ z < r
    · have := eq z.toNat (by omega)
      rw [show ((z.toNat : Nat) : Int) = z by omega] at this
      exact this
    · rw [wordL_none.mpr fun m => ?_, wordL_none.mpr fun m => ?_]
      · obtain ⟨c', hc, e⟩ := List.mem_map.mp m
        have := iB c' hc
        rw [e] at this
        exact c this
      · obtain ⟨c', hc, e⟩ := List.mem_map.mp m
        have := iA c' hc
        rw [e] at this
        exact c this
  have memAB : ∀ z, z ∈ A.map (·.1) ↔ z ∈ B.map (·.1) := fun z => by
    have h1 := wordL_none (L := A) (x := z)
    have h2 := wordL_none (L := B) (x := z)
    rw [eqz z] at h1
    have h3 := h1.symm.trans h2
    exact ⟨fun m => Classical.byContradiction fun n => h3.mpr n m, fun m => Classical.byContradiction fun n => h3.mp n m⟩
  have nn : ∀ {L M : List Cl}, (∀ z, z ∈ L.map (·.1) ↔ z ∈ M.map (·.1)) → lastIn ps L = none → lastIn ps M = none := fun {L M} h e => by
    rw [lastIn_none] at e ⊢
    intro c hc m
    obtain ⟨d, hd, e2⟩ := List.mem_map.mp ((h c.1).mpr (List.mem_map.mpr ⟨c, hc, rfl⟩))
    exact e d hd (by rw [e2]; exact m)
  cases ea : lastIn ps A with
  | none => exact absurd (by unfold wordP; rw [ea, nn memAB ea]) ne
  | some cx =>
    cases eb : lastIn ps B with
    | none => exact absurd (by unfold wordP; rw [eb, nn (fun z => (memAB z).symm) eb]) ne
    | some cy =>
      obtain ⟨x1, x2, x3, x4⟩ := lastIn_top A ea
      obtain ⟨y1, y2, y3, y4⟩ := lastIn_top B eb
      have wa : wordP A ps = wordL A cx.1 := by unfold wordP wordL; rw [ea, x3]
      have wb : wordP B ps = wordL A cy.1 := by rw [eqz]; unfold wordP wordL; rw [eb, y3]
      rw [wa, wb] at ne
      have nxy : cx.1 ≠ cy.1 := fun e => ne (by rw [e])
      refine ⟨cx.1, cy.1, cross_in ((hrs _).mpr x2) ((hrs _).mpr ((memAB _).mpr y2)) ?_, x1, y1, fun z hz => ⟨x4 z hz, y4 z hz⟩⟩
      have a1 := x4 _ y1
      have b1 := y4 _ x1
      have a2 : placeI A cy.1 ≠ placeI A cx.1 := fun e => nxy (placeI_inj x2 e.symm)
      have b2 : placeI B cx.1 ≠ placeI B cy.1 := fun e => nxy (placeI_inj y2 e.symm).symm
      unfold crossB
      rw [Bool.and_eq_true, Bool.and_eq_true, decide_eq_true_iff, decide_eq_true_iff, decide_eq_true_iff]
      exact ⟨ne, by omega, by omega⟩
theorem comp_path {A B : List Cl} {rs : List Int} {r : Nat} {D : List Pr} {ps : List Int} (iA : InR r A) (iB : InR r B) (hrs : ∀ x, x ∈ rs ↔ x ∈ A.map (·.1)) (eq : ∀ k : Nat, k < r → wordL A k = wordL B k) (inr : ∀ x ∈ ps, 0 ≤ x ∧ x < r) (h : Prt D A B ps) :
    ∃ q, (∃ d ∈ crossF A B rs, Cnd A B r D d q) ∧ sle q ps := by
  obtain ⟨x, y, hc, hx, hy, top⟩ := comp_cross iA iB hrs eq h.2
  have inH : ∀ z ∈ ps, z ∈ hallF r A B x y := fun z hz => List.mem_filter.mpr ⟨mem_rg (inr z hz).1 (inr z hz).2, by
    rw [Bool.and_eq_true, decide_eq_true_iff, decide_eq_true_iff]
    exact top z hz⟩
  have nnH : ∀ z ∈ hallF r A B x y, 0 ≤ z := fun z hz => (rg_mem (List.mem_filter.mp hz).1).1
  obtain ⟨i, hi, ei⟩ := mem_at hx
  obtain ⟨j, hj, ej⟩ := mem_at hy
  rcases Nat.le_total i j with l | l
  · have p := pth_cut h.1.2.2 inH (i := i) (j - i) (by omega)
    rw [show i + (j - i) = j by omega, ei, ej] at p
    obtain ⟨q, hq, sq⟩ := Lst.ex nnH p
    exact ⟨q, ⟨(x, y), hc, .inl hq⟩, sle_trans sq (cut_sle (by omega))⟩
  · have p := pth_cut h.1.2.2 inH (i := j) (i - j) (by omega)
    rw [show j + (i - j) = i by omega, ei, ej] at p
    obtain ⟨q, hq, sq⟩ := Lst.ex nnH p
    exact ⟨q, ⟨(x, y), hc, .inr hq⟩, sle_trans sq (cut_sle (by omega))⟩
/-- what parting_path tells: the least parting path in the house, or None -/
theorem best_part {A B : List Cl} {rs : List Int} {r : Nat} {D : List Pr} {H : Hp} {v : V} (iA : InR r A) (iB : InR r B) (hrs : ∀ x, x ∈ rs ↔ x ∈ A.map (·.1)) (eq : ∀ k : Nat, k < r → wordL A k = wordL B k) (h : BestOf H (fun q => ∃ d ∈ crossF A B rs, Cnd A B r D d q) v) :
    BestOf H (fun q => Prt D A B q ∧ ∀ x ∈ q, 0 ≤ x ∧ x < r) v := by
  have hr2 : ∀ x ∈ rs, 0 ≤ x ∧ x < (r : Int) := fun x hx => by
    obtain ⟨c, hc, rfl⟩ := List.mem_map.mp ((hrs x).mp hx)
    exact iA c hc
  have snd : ∀ q, (∃ d ∈ crossF A B rs, Cnd A B r D d q) → Prt D A B q ∧ ∀ x ∈ q, 0 ≤ x ∧ x < r := fun q ⟨d, hd, hc⟩ => by
    refine ⟨part_of hd hr2 eq hc, fun x hx => ?_⟩
    have hm : x ∈ hallF r A B d.1 d.2 := by
      rcases hc with h | h
      · exact h.1.inR x hx
      · exact h.1.inR x hx
    exact rg_mem (List.mem_filter.mp hm).1
  rcases h with ⟨q, t, ev, ht, hq, mq⟩ | ⟨ev, no⟩
  · refine .inl ⟨q, t, ev, ht, snd q hq, fun q' ⟨hp, hi⟩ => ?_⟩
    obtain ⟨q2, h2, s2⟩ := comp_path iA iB hrs eq hi hp
    exact sle_trans (mq q2 h2) s2
  · refine .inr ⟨ev, fun q' ⟨hp, hi⟩ => ?_⟩
    obtain ⟨q2, h2, _⟩ := comp_path iA iB hrs eq hi hp
    exact no q2 h2
theorem one_part {A B : List Cl} {r k : Nat} {D : List Pr} {H : Hp} {t : Addr} (kr : k < r) (ne : wordL A k ≠ wordL B k) (least : ∀ j : Nat, j < k → wordL A j = wordL B j) (ht : H t = some (.tup [.int k])) : BestOf H (fun q => Prt D A B q ∧ ∀ x ∈ q, 0 ≤ x ∧ x < r) (.ref t) := by
  refine .inl ⟨[(k : Int)], t, rfl, ht, ⟨⟨⟨by simp, by simp, fun i hi => absurd hi (by show ¬ i + 1 < 1; omega)⟩, ne⟩, fun x hx => by rw [List.mem_singleton.mp hx]; exact ⟨by omega, by omega⟩⟩, fun q' ⟨⟨hp, hw⟩, hi⟩ => ?_⟩
  cases q' with
  | nil => exact absurd rfl hp.1
  | cons x l =>
    cases l with
    | cons y l => exact .inr (.inl (by simp))
    | nil =>
      have hx := hi x List.mem_cons_self
      by_cases e : x = (k : Int)
      · exact .inl (by rw [e])
      · refine .inr (.inr ⟨rfl, .inl ?_⟩)
        have : ¬ x < (k : Int) := fun z => by
          have := least x.toNat (by omega)
          rw [show ((x.toNat : Nat) : Int) = x by omega] at this
          exact hw this
        omega
/-- parting_path's promise, with the least of all parting paths -/
def spPpB (C : Addr) : Sp := fun vs H Q _ => ∃ (p a b : Addr) (us ws : List V) (A B : List Cl) (r : Nat) (D : List Pr) (own : List Addr), vs = [.ref p, .ref a, .ref b] ∧ HouseAt C H p r D own ∧ H a = some (.lst us) ∧ LG H us A ∧ A.length ≤ 1000 ∧ InR r A ∧ H b = some (.lst ws) ∧ LG H ws B ∧ B.length ≤ 1000 ∧ InR r B ∧
  ∀ (v : V) (H' : Hp), Same H H' → BestOf H' (fun q => Prt D A B q ∧ ∀ x ∈ q, 0 ≤ x ∧ x < r) v → Q v H'
theorem pp_of {C : Addr} {vs : List V} {H : Hp} {Q : VK} {E : XK} (h : spPpB C vs H Q E) : spPp C vs H Q E := by
  obtain ⟨p, a, b, us, ws, A, B, r, D, own, e, hh, ha, la, al, ia, hb, lb, bl, ib, k⟩ := h
  exact ⟨p, a, b, us, ws, A, B, r, D, own, e, hh, ha, la, al, ia, hb, lb, bl, ib, fun j hj ne least t H' s ht => k _ H' s (one_part hj ne least ht), fun eq rs v H' _ mem s best => k v H' s (best_part ia ib mem eq best)⟩
/-- what it tells, by the last calls alone and with the logs exchanged -/
theorem prt_swap {D : List Pr} {A B : List Cl} {q : List Int} : Prt D A B q ↔ Prt D B A q := ⟨fun h => ⟨h.1, fun e => h.2 e.symm⟩, fun h => ⟨h.1, fun e => h.2 e.symm⟩⟩
theorem prt_last {D : List Pr} {A B : List Cl} {q : List Int} : Prt D (lastF A) B q ↔ Prt D A B q := by
  unfold Prt
  rw [wordP_last]
theorem prt_same {D : List Pr} {A : List Cl} {q : List Int} : ¬ Prt D A A q := fun h => h.2 rfl

abbrev sFew : Stmt := topS 29
theorem cut_dropW (xs : List V) (k : Nat) : cutV xs (some ((k : Nat) : Int)) none = xs.drop k := by
  unfold cutV
  rw [show HT.sIx xs.length 0 (some ((k : Nat) : Int)) = min k xs.length from HT.sIx_nat xs.length 0 k, HT.sIx_none]
  by_cases h : k ≤ xs.length
  · rw [Nat.min_eq_left h]
    refine List.take_of_length_le ?_
    rw [List.length_drop]
    exact Nat.le_refl _
  · rw [Nat.min_eq_right (by omega), List.drop_length, List.drop_eq_nil_of_le (by omega)]
    exact List.take_nil
theorem cut_takeW (xs : List V) (k : Nat) : cutV xs none (some ((k : Nat) : Int)) = xs.take k := by
  unfold cutV
  rw [show HT.sIx xs.length xs.length (some ((k : Nat) : Int)) = min k xs.length from HT.sIx_nat xs.length xs.length k, HT.sIx_none, List.drop_zero, Nat.sub_zero]
  by_cases h : k ≤ xs.length
  · rw [Nat.min_eq_left h]
  · rw [Nat.min_eq_right (by omega), List.take_length, List.take_of_length_le (by omega)]
section
variable {P : Program} {w : World} {K : PySem.W.Frag} {mg : Str → Option Value} {base : Heap}
theorem scFew : FnScope ["doors", "most", "number", "turn"] ["doors", "most", "number"] (defScope sFew) := ⟨rfl, rfl, rfl, by decide +kernel, rfl, by decide +kernel, by decide +kernel⟩
def spFew (K : PySem.W.Frag) : Sp := fun vs H Q _ => ∃ (l : Addr) (us : List V) (D : List Pr) (m x : Int) (r : Nat), vs = [.ref l, .int m, .int x] ∧ H l = some (.lst us) ∧ PL H us D ∧ Drs r D ∧ r ≤ 12 ∧ 0 ≤ m ∧ m ≤ 100 ∧
  ∀ (E : List Pr) (ws : List V) (t : Addr) (H' : Hp), Drs r E → (E.length : Int) ≤ m → Same H H' → H t = none → H' t = some (.lst ws) → PL H' ws E → Q (.ref t) H'
theorem ok_few {f : Addr} {fd : FuncData} (F : Fun K "_law_fewer" "_law_fewer" sFew f fd) (T : Bi mg) : FnOk P w K mg base CX0 1 f fd ["doors", "most", "number"] (spFew K) := by
  refine F.ok scFew (fun vs H Q E h => ?_) (fun cdv A outer s H vs Q E hr h => ?_)
  · obtain ⟨l, us, D, m, x, r, rfl, _⟩ := h
    rfl
  · obtain ⟨l, us, D, m, x, r, rfl, hl, pl, drs, r12, m0, m100, ret⟩ := h
    refine ⟨_, (pss_cons (ps_set (i := 3) scFew.nd rfl (Or.inl rfl) pe_int)
      (pss_cons (ps_if (pt_cmpR op_gt (pe_callB call_len_seq (by rfl) T.len (by decide +kernel) (pa_cons (pv 0) pa_nil)) pe_int (nomark _))
      (pss_one (ps_set (i := 3) scFew.nd rfl (Or.inl rfl) (pe_op op_mod (pe_callTy cr_intI (by rfl) T.int (by decide +kernel) (pa_cons (pv 2) pa_nil)) (pe_callB call_len_seq (by rfl) T.len (by decide +kernel) (pa_cons (pv 0) pa_nil)))))
      pss_nil)
      (pss_one (ps_ret (pe_callB cr_sortedPO (by rfl) T.sorted (by decide +kernel) (pa_cons (pe_slice sl_list (pe_op op_cat (pe_slice sl_list (pv 0) (po_some (pv 3)) po_none) (pe_slice sl_list (pv 0) po_none (po_some (pv 3)))) po_none (po_some (pv 1))) pa_nil)))))), ?_⟩
    walk_at "rd"
    obtain ⟨kD, kI⟩ := pl.toK
    have ul : us.length = D.length := pl.len
    have dl := drs.len r12
    obtain ⟨mm, rfl⟩ : ∃ mm : Nat, m = mm := ⟨m.toNat, (Int.toNat_of_nonneg m0).symm⟩
    have fin : ∀ (tn : Nat) (H' : Hp) (a : Addr), Same H H' → H' a = some (.lst (us.drop tn ++ us.take tn)) → ∀ p, H' p = none → rSortedPO K [V.ref p] (upd H' p (HO.lst ((us.drop tn ++ us.take tn).take mm))) Q := fun tn H' a s1 ha p np => by
      have pmz : (us.drop tn ++ us.take tn).Perm us := by
        have := List.perm_append_comm (l₁ := us.drop tn) (l₂ := us.take tn)
        rw [List.take_append_drop] at this
        exact this
      have sub : ((us.drop tn ++ us.take tn).take mm).Sublist (us.drop tn ++ us.take tn) := List.take_sublist _ _
      have s2 := s1.trans (same_upd (o := HO.lst ((us.drop tn ++ us.take tn).take mm)) np)
      have hz : upd H' p (HO.lst ((us.drop tn ++ us.take tn).take mm)) p = some (.lst ((us.drop tn ++ us.take tn).take mm)) := upd_same
      generalize upd H' p (HO.lst ((us.drop tn ++ us.take tn).take mm)) = H2 at s2 hz ⊢
      have inU : ∀ v ∈ (us.drop tn ++ us.take tn).take mm, v ∈ us := fun v hv => pmz.mem_iff.mp (sub.subset hv)
      have isP : ∀ v ∈ (us.drop tn ++ us.take tn).take mm, IsP H2 v (kH H v) := fun v hv => (kI v (inU v hv)).kt (KT.same s2)
      refine ⟨p, _, kH H, rfl, SqL.of hz, isP, fun ys t so st nt => ?_⟩
      have pmy := st.perm
      have hy : ∀ v ∈ ys, IsP H2 v (kH H v) := fun v hv => isP v (pmy.mem_iff.mp hv)
      have nd : (ys.map (kH H)).Nodup := by
        refine (pmy.map _).nodup_iff.mpr ?_
        refine List.Pairwise.sublist (sub.map _) ?_
        refine (pmz.map (kH H)).nodup_iff.mpr ?_
        rw [← kD]
        exact drs.asc.nodup
      have hyP : PL H2 ys (ys.map (kH H)) := by
        have e : ∀ v ∈ ys, kH H2 v = kH H v := fun v hv => (hy v hv).k
        have := PL.ofK (H := H2) (vs := ys) fun v hv => by rw [e v hv]; exact hy v hv
        rw [List.map_congr_left e] at this
        exact this
      refine ret (ys.map (kH H)) ys t _ ⟨srtd_asc nd so, fun d hd => ?_⟩ (by rw [List.length_map, pmy.length_eq, List.length_take]; omega) (s2.trans (same_upd nt)) (s2.free nt) upd_same (hyP.kt (KT.new nt))
      refine drs.ok d ?_
      rw [kD]
      obtain ⟨v, hv, rfl⟩ := List.mem_map.mp hd
      exact List.mem_map.mpr ⟨v, inU v (pmy.mem_iff.mp hv), rfl⟩
    have cat : ∀ (tn : Nat), ∀ (p : Addr), H p = none → ∀ p1, upd H p (HO.lst (us.drop tn)) p1 = none → rCat (V.ref p) (V.ref p1) (upd (upd H p (HO.lst (us.drop tn))) p1 (HO.lst (us.take tn))) fun x H1 => ∃ a, x = V.ref a ∧ ∃ x, SqL K H1 a x ∧ ∀ (p : Addr), H1 p = none → rSortedPO K [V.ref p] (upd H1 p (HO.lst (cutV x none (some (mm : Int))))) Q := fun tn p np p1 np1 => by
      have s1 := (same_upd (o := HO.lst (us.drop tn)) np).trans (same_upd (o := HO.lst (us.take tn)) np1)
      refine ⟨p, p1, _, _, rfl, rfl, same_upd np1 _ _ upd_same, upd_same, Nat.le_of_lt (len_big (by rw [List.length_drop, List.length_take]; omega)), fun c nc => ⟨c, rfl, _, SqL.of upd_same, fun z nz => ?_⟩⟩
      rw [cut_takeW]
      exact fin tn _ c (s1.trans (same_upd nc)) upd_same z nz
    refine ⟨us, .inl (SqL.of hl), ?_⟩
    by_cases z : us = []
    · rw [if_neg (show ¬ (0 : Int) < (us.length : Int) by rw [z]; decide)]
      refine ⟨us, SqL.of hl, fun p np => ?_⟩
      rw [show (some (0 : Int)) = some ((0 : Nat) : Int) from rfl, cut_dropW]
      refine ⟨us, SqL.of (same_upd np _ _ hl), fun p1 np1 => ?_⟩
      rw [cut_takeW]
      exact cat 0 p np p1 np1
    · have up := List.length_pos_iff.mpr z
      rw [if_pos (show (0 : Int) < (us.length : Int) by omega)]
      have q0 := Int.emod_nonneg x (show (us.length : Int) ≠ 0 by omega)
      obtain ⟨tn, et⟩ : ∃ tn : Nat, x % (us.length : Int) = tn := ⟨(x % (us.length : Int)).toNat, (Int.toNat_of_nonneg q0).symm⟩
      refine ⟨us, .inl (SqL.of hl), by omega, us, SqL.of hl, fun p np => ?_⟩
      rw [et, cut_dropW]
      refine ⟨us, SqL.of (same_upd np _ _ hl), fun p1 np1 => ?_⟩
      rw [cut_takeW]
      exact cat tn p np p1 np1
end

abbrev sOps : Stmt := topS 38
/-- all openings: the lists of some of the doors -/
def subsF (D : List Pr) : List (List Pr) := D.foldl (fun S d => S.flatMap fun o => [o, o ++ [d]]) [[]]
theorem subsF_snoc (D : List Pr) (d : Pr) : subsF (D ++ [d]) = (subsF D).flatMap fun o => [o, o ++ [d]] := by
  unfold subsF
  rw [List.foldl_append]
  rfl
theorem flat2_len {α : Type} (f g : α → α) (l : List α) : (l.flatMap fun o => [f o, g o]).length = 2 * l.length := by
  induction l with
  | nil => rfl
  | cons a l ih =>
    rw [List.flatMap_cons, List.length_append, ih]
    show 2 + 2 * l.length = 2 * (l.length + 1)
    omega
theorem subsF_len (D : List Pr) : (subsF D).length = 2 ^ D.length := by
  refine snoc_ind (M := fun D => (subsF D).length = 2 ^ D.length) rfl (fun S d ih => ?_) D
  rw [subsF_snoc, flat2_len (fun o => o) (fun o => o ++ [d]), ih, List.length_append]
  show _ = 2 ^ (S.length + 1)
  rw [Nat.pow_succ]
  omega
theorem subsF_sub (D : List Pr) : ∀ O ∈ subsF D, ∀ d ∈ O, d ∈ D := by
  refine snoc_ind (M := fun D => ∀ O ∈ subsF D, ∀ d ∈ O, d ∈ D) (fun O hO d hd => ?_) (fun S e ih O hO d hd => ?_) D
  · rw [List.mem_singleton.mp hO] at hd
    cases hd
  · rw [subsF_snoc] at hO
    obtain ⟨o, ho, h⟩ := List.mem_flatMap.mp hO
    rcases List.mem_cons.mp h with h | h
    · rw [h] at hd
      exact List.mem_append_left _ (ih o ho d hd)
    · rw [List.mem_singleton.mp h] at hd
      rcases List.mem_append.mp hd with hd | hd
      · exact List.mem_append_left _ (ih o ho d hd)
      · exact List.mem_append_right _ hd
theorem subsF_olen (D : List Pr) : ∀ O ∈ subsF D, O.length ≤ D.length := by
  refine snoc_ind (M := fun D => ∀ O ∈ subsF D, O.length ≤ D.length) (fun O hO => ?_) (fun S e ih O hO => ?_) D
  · rw [List.mem_singleton.mp hO]
    exact Nat.le_refl _
  · rw [subsF_snoc] at hO
    obtain ⟨o, ho, h⟩ := List.mem_flatMap.mp hO
    have := ih o ho
    rw [List.length_append]
    rcases List.mem_cons.mp h with h | h
    · rw [h]
      omega
    · rw [List.mem_singleton.mp h, List.length_append]
      show o.length + 1 ≤ S.length + 1
      omega
theorem subsF_filter (D : List Pr) (p : Pr → Bool) : D.filter p ∈ subsF D := by
  refine snoc_ind (M := fun D => D.filter p ∈ subsF D) List.mem_cons_self (fun S e ih => ?_) D
  rw [subsF_snoc, List.filter_append]
  refine List.mem_flatMap.mpr ⟨S.filter p, ih, ?_⟩
  cases h : p e with
  | true =>
    rw [List.filter_cons_of_pos h, List.filter_nil]
    exact List.mem_cons_of_mem _ List.mem_cons_self
  | false =>
    rw [List.filter_cons_of_neg (by rw [h]; decide), List.filter_nil, List.append_nil]
    exact List.mem_cons_self
def OpL (H : Hp) (v : V) (O : List Pr) : Prop := ∃ t ws, v = .ref t ∧ H t = some (.lst ws) ∧ PL H ws O
theorem OpL.same {H H' : Hp} {v : V} {O : List Pr} (h : OpL H v O) (s : Same H H') : OpL H' v O := by
  obtain ⟨t, ws, e, h1, h2⟩ := h
  exact ⟨t, ws, e, s _ _ h1, h2.kt (KT.same s)⟩
def OL (H : Hp) (vs : List V) (Os : List (List Pr)) : Prop := Paired (OpL H) vs Os
theorem OL.same {H H' : Hp} {vs : List V} {Os : List (List Pr)} (h : OL H vs Os) (s : Same H H') : OL H' vs Os := Paired.mapP h fun _ _ q => q.same s
/-- only the list at g may change -/
def But (g : Addr) (H H' : Hp) : Prop := ∀ b o, H b = some o → b ≠ g → H' b = some o
theorem But.trans {g : Addr} {H H1 H2 : Hp} (a : But g H H1) (b : But g H1 H2) : But g H H2 := fun c o e n => b c o (a c o e n) n
theorem But.same {g : Addr} {H H' : Hp} (s : Same H H') : But g H H' := fun b o e _ => s b o e
theorem But.ch {g : Addr} {H : Hp} {o : HO} : But g H (upd H g o) := fun b x e n => by rw [upd_ne n]; exact e
theorem OpL.but {g : Addr} {H H' : Hp} {v : V} {O : List Pr} {us : List V} (h : OpL H v O) (s : But g H H') (hg : H g = some (.lst us)) (ne : v ≠ .ref g) : OpL H' v O := by
  obtain ⟨t, ws, e, h1, h2⟩ := h
  refine ⟨t, ws, e, s _ _ h1 fun z => ne (by rw [e, z]), h2.kt fun b xs hb => s _ _ hb fun z => ?_⟩
  rw [z, hg] at hb
  cases hb
theorem OL.but {g : Addr} {H H' : Hp} {us : List V} (s : But g H H') (hg : H g = some (.lst us)) : ∀ {vs : List V} {Os : List (List Pr)}, OL H vs Os → (∀ v ∈ vs, v ≠ .ref g) → OL H' vs Os
  | _, _, Paired.nil, _ => Paired.nil
  | _, _, Paired.cons r t, n => Paired.cons (r.but s hg (n _ List.mem_cons_self)) (OL.but s hg t fun v hv => n v (List.mem_cons_of_mem _ hv))
section
variable {P : Program} {w : World} {K : PySem.W.Frag} {mg : Str → Option Value} {base : Heap}
theorem scOps : FnScope ["doors", "found", "door", "longer", "opening"] ["doors"] (defScope sOps) := ⟨rfl, rfl, rfl, by decide +kernel, rfl, by decide +kernel, by decide +kernel⟩
def spOps : Sp := fun vs H Q _ => ∃ (l : Addr) (us : List V) (D : List Pr), vs = [.ref l] ∧ H l = some (.lst us) ∧ PL H us D ∧ D.length ≤ 10 ∧
  ∀ (t : Addr) (zs : List V) (H' : Hp), Same H H' → H' t = some (.lst zs) → OL H' zs (subsF D) → Q (.ref t) H'
theorem ok_ops {f : Addr} {fd : FuncData} (F : Fun K "_law_openings" "_law_openings" sOps f fd) (T : Bi mg) : FnOk P w K mg base CX0 1 f fd ["doors"] spOps := by
  refine F.ok scOps (fun vs H Q E h => ?_) (fun cdv A0 outer s0 H vs Q E hr h => ?_)
  · obtain ⟨l, us, D, rfl, _⟩ := h
    rfl
  · obtain ⟨l, us, D, rfl, hl, pl, d10, ret⟩ := h
    refine ⟨_, (pss_cons (ps_set (i := 1) scOps.nd rfl (Or.inl rfl) (pe_lst (pa_cons (pe_lst pa_nil) pa_nil)))
      (pss_cons (ps_for PassesOwn.never rfl (pi_list (pv 0)) (pg_name (i := 2) scOps.nd rfl (Or.inl rfl))
      (pss_cons (ps_set (i := 3) scOps.nd rfl (Or.inl rfl) (pe_lst pa_nil))
        (pss_cons (ps_for PassesOwn.never rfl (pi_list (pe_callTy call_list_of (by rfl) T.list (by decide +kernel) (pa_cons (pv 1) pa_nil))) (pg_name (i := 4) scOps.nd rfl (Or.inl rfl))
        (pss_cons (ps_expr (pe_bm PySem.F.plainAttrs_list PySem.F.slot_list_append PySem.F.type_list_append mt_append (pv 3) (pa_cons (pv 4) pa_nil)))
          (pss_one (ps_expr (pe_bm PySem.F.plainAttrs_list PySem.F.slot_list_append PySem.F.type_list_append mt_append (pv 3) (pa_cons (pe_op op_cat (pv 4) (pe_lst (pa_cons (pv 2) pa_nil))) pa_nil))))))
        (pss_one (ps_set (i := 1) scOps.nd rfl (Or.inl rfl) (pe_callTy call_list_of (by rfl) T.list (by decide +kernel) (pa_cons (pv 3) pa_nil)))))))
      (pss_one (ps_ret (pv 1))))), ?_⟩
    walk_at "rd"
    have ul : us.length = D.length := pl.len
    refine ⟨Nat.zero_le _, fun e0 ne0 => ⟨by decide, fun f0 nf0 => ?_⟩⟩
    have s0 : Same H (upd (upd H e0 (HO.lst [])) f0 (HO.lst [V.ref e0])) := (same_upd ne0).trans (same_upd nf0)
    have hf0 := upd_same (H := upd H e0 (HO.lst [])) (a := f0) (o := HO.lst [V.ref e0])
    have he0 := same_upd (o := HO.lst [V.ref e0]) nf0 _ _ (upd_same (H := H) (a := e0) (o := HO.lst []))
    generalize upd (upd H e0 (HO.lst [])) f0 (HO.lst [V.ref e0]) = H0 at s0 hf0 he0 ⊢
    obtain ⟨Pv, hPv⟩ : ∃ Pv : Nat → L2.St → Hp → Prop, Pv = (fun i σ H' => ∃ (f : Addr) (zs : List V) (v2 v3 v4 : Option V), σ = [some (V.ref l), some (V.ref f), v2, v3, v4] ∧ Same H0 H' ∧ H' f = some (.lst zs) ∧ OL H' zs (subsF (D.take i))) := ⟨_, rfl⟩
    refine ⟨_, rfl, l, rfl, ⟨us, SqL.of (s0 _ _ hl)⟩, for_list (K := K) (a := l) (xs := us) Pv (by rw [hPv]; exact ⟨f0, [.ref e0], none, none, none, rfl, Same.refl _, hf0, Paired.cons ⟨e0, [], rfl, he0, Paired.nil⟩ Paired.nil⟩) (fun i σ H' _ pv => by rw [hPv] at pv; obtain ⟨_, _, _, _, _, _, s9, _⟩ := pv; exact SqL.of (s9 _ _ (s0 _ _ hl))) (fun i v σ H1 gv pv => ?body) (fun σ H1 pv => ?done)⟩
    case done =>
      rw [hPv] at pv
      obtain ⟨f, zs, v2, v3, v4, rfl, s1, hf, ol⟩ := pv
      rw [ul, List.take_length] at ol
      walk_at "rd"
      exact ret f zs H1 (s0.trans s1) hf ol
    case body =>
      have nxt : ∀ (f : Addr) (zs : List V) (v2 v3 v4 : Option V) (H' : Hp), Same H0 H' → H' f = some (.lst zs) → OL H' zs (subsF (D.take (i + 1))) → Pv (i + 1) [some (V.ref l), some (V.ref f), v2, v3, v4] H' := fun f zs v2 v3 v4 H' h1 h2 h3 => by
        rw [hPv]
        exact ⟨f, zs, v2, v3, v4, rfl, h1, h2, h3⟩
      rw [hPv] at pv
      obtain ⟨f, zs, v2, v3, v4, rfl, s1, hf, ol⟩ := pv
      clear hPv
      obtain ⟨d, gd, hd⟩ := pl.get gv
      have id : i < D.length := (List.getElem?_eq_some_iff.mp gd).1
      have sl : (subsF (D.take i)).length ≤ 1024 := by
        rw [subsF_len]
        exact Nat.le_trans (Nat.pow_le_pow_right (by decide) (show (D.take i).length ≤ 10 by rw [List.length_take]; omega)) (by decide)
      have zl : zs.length = (subsF (D.take i)).length := Paired.length ol
      rw [List.take_add_one, gd] at nxt
      simp only [Option.toList_some] at nxt
      rw [subsF_snoc] at nxt
      have ol10 : ∀ O ∈ subsF (D.take i), O.length ≤ 10 := fun O hO => by
        have h := subsF_olen _ O hO
        rw [List.length_take] at h
        omega
      generalize subsF (D.take i) = Z at ol sl zl nxt ol10
      walk_at "rd"
      refine ⟨Nat.zero_le _, fun g ng => ?_⟩
      refine for_iterW ?_
      walk_at "rd"
      have s2 := same_upd (o := HO.lst []) ng
      refine ⟨zs, .inl (SqL.of (s2 _ _ hf)), fun c nc => ?_⟩
      have s3 := same_upd (o := HO.lst zs) nc
      have hg3 := s3 _ _ (upd_same (H := H1) (a := g) (o := HO.lst []))
      have hc3 := upd_same (H := upd H1 g (HO.lst [])) (a := c) (o := HO.lst zs)
      have s13 := s2.trans s3
      generalize upd (upd H1 g (HO.lst [])) c (HO.lst zs) = H3 at s3 hg3 hc3 s13 ⊢
      have ngc : c ≠ g := fun z => by rw [z, upd_same] at nc; cases nc
      have ol3 := ol.same s13
      have zg : ∀ v ∈ zs, v ≠ V.ref g := fun v hv z => by
        obtain ⟨k, hk, e⟩ := List.mem_iff_getElem.mp hv
        obtain ⟨O, gO, t, ws, e2, ht, _⟩ := pget ol (List.getElem?_eq_some_iff.mpr ⟨hk, e⟩)
        rw [z] at e2
        cases e2
        rw [ng] at ht
        cases ht
      obtain ⟨Pw, hPw⟩ : ∃ Pw : Nat → L2.St → Hp → Prop, Pw = (fun j σ H' => ∃ (ys : List V) (v4 : Option V), σ = [some (V.ref l), some (V.ref f), some v, some (V.ref g), v4] ∧ But g H3 H' ∧ H' g = some (.lst ys) ∧ OL H' ys ((Z.take j).flatMap fun o => [o, o ++ [d]]) ∧ ∀ v ∈ ys, v ≠ V.ref g) := ⟨_, rfl⟩
      refine ⟨⟨_, SqL.of hc3⟩, for_list (K := K) (a := c) (xs := zs) Pw (by rw [hPw]; exact ⟨[], v4, rfl, fun b o e _ => e, hg3, Paired.nil, fun v hv => by cases hv⟩) (fun j σ H' _ pv => by rw [hPw] at pv; obtain ⟨_, _, _, s9, _⟩ := pv; exact SqL.of (s9 _ _ hc3 ngc)) (fun j u σ H4 gu pv => ?_) (fun σ H4 pv => ?_)⟩
      · have nx2 : ∀ (ys : List V) (v4 : Option V) (H' : Hp), But g H3 H' → H' g = some (.lst ys) → OL H' ys ((Z.take (j + 1)).flatMap fun o => [o, o ++ [d]]) → (∀ v ∈ ys, v ≠ V.ref g) → Pw (j + 1) [some (V.ref l), some (V.ref f), some v, some (V.ref g), v4] H' := fun ys v4 H' h1 h2 h3 h4 => by
          rw [hPw]
          exact ⟨ys, v4, rfl, h1, h2, h3, h4⟩
        rw [hPw] at pv
        obtain ⟨ys, v4, rfl, b4, hg4, oy, yg⟩ := pv
        clear hPw
        obtain ⟨O, gO, hO⟩ := pget ol3 gu
        have jz : j < Z.length := (List.getElem?_eq_some_iff.mp gO).1
        rw [List.take_add_one, gO] at nx2
        simp only [Option.toList_some, List.flatMap_append, List.flatMap_cons, List.flatMap_nil, List.append_nil] at nx2
        have yl : ys.length ≤ 2048 := by
          have := Paired.length oy
          rw [flat2_len (fun o => o) (fun o => o ++ [d]), List.length_take] at this
          omega
        have ug := zg u (List.mem_of_getElem? gu)
        obtain ⟨t, ws, rfl, ht, pw⟩ := hO.but b4 hg3 ug
        have tg : t ≠ g := fun z => ug (by rw [z])
        walk_at "rd"
        refine ⟨.inl ⟨rfl, _, SqL.of hg4⟩, ys, hg4, len_big (by omega), ?_⟩
        have b5 : But g H4 (upd H4 g (HO.lst (ys ++ [V.ref t]))) := But.ch
        have hg5 := upd_same (H := H4) (a := g) (o := HO.lst (ys ++ [V.ref t]))
        have ht5 := b5 _ _ ht tg
        generalize upd H4 g (HO.lst (ys ++ [V.ref t])) = H5 at b5 hg5 ht5 ⊢
        refine ⟨.inl ⟨rfl, _, SqL.of hg5⟩, by decide, fun e ne => ?_⟩
        have s6 := same_upd (o := HO.lst [v]) ne
        have he6 := upd_same (H := H5) (a := e) (o := HO.lst [v])
        generalize upd H5 e (HO.lst [v]) = H6 at s6 he6 ⊢
        have wl : ws.length ≤ 100000 := by
          rw [pw.len]
          have := ol10 O (List.mem_of_getElem? gO)
          omega
        refine ⟨t, e, ws, [v], rfl, rfl, s6 _ _ ht5, he6, Nat.le_of_lt (Nat.lt_of_le_of_lt (show ws.length + 1 ≤ 100001 by omega) (by decide)), fun p np => ?_⟩
        have s7 := same_upd (o := HO.lst (ws ++ [v])) np
        have hp7 := upd_same (H := H6) (a := p) (o := HO.lst (ws ++ [v]))
        generalize upd H6 p (HO.lst (ws ++ [v])) = H7 at s7 hp7 ⊢
        have hg7 := s7 _ _ (s6 _ _ hg5)
        have pg : p ≠ g := fun z => by rw [z] at np; rw [s6 _ _ hg5] at np; cases np
        refine ⟨ys ++ [V.ref t], hg7, len_big (by rw [List.length_append]; show ys.length + 1 ≤ _; omega), ?_⟩
        have b47 : But g H4 H7 := b5.trans (But.same (s6.trans s7))
        have b48 : But g H4 (upd H7 g (HO.lst (ys ++ [V.ref t] ++ [V.ref p]))) := b47.trans But.ch
        have new : ∀ v ∈ ys ++ [V.ref t] ++ [V.ref p], v ≠ V.ref g := fun v hv => by
          rcases List.mem_append.mp hv with h | h
          · rcases List.mem_append.mp h with h | h
            · exact yg v h
            · rw [List.mem_singleton.mp h]
              exact fun z => tg (V.ref.inj z)
          · rw [List.mem_singleton.mp h]
            exact fun z => pg (V.ref.inj z)
        have k38 : But g H3 (upd H7 g (HO.lst (ys ++ [V.ref t] ++ [V.ref p]))) := b4.trans b48
        have hdp : IsP (upd H7 g (HO.lst (ys ++ [V.ref t] ++ [V.ref p]))) v d := by
          obtain ⟨td, ev, htd⟩ := hd
          refine ⟨td, ev, k38 _ _ (s13 _ _ (s1 _ _ (s0 _ _ htd))) fun z => ?_⟩
          have h := s1 _ _ (s0 _ _ htd)
          rw [z, ng] at h
          cases h
        have pw8 : PL (upd H7 g (HO.lst (ys ++ [V.ref t] ++ [V.ref p]))) ws O := pw.kt fun b xs hb => b48 _ _ hb fun z => by rw [z, hg4] at hb; cases hb
        have hg8 := upd_same (H := H7) (a := g) (o := HO.lst (ys ++ [V.ref t] ++ [V.ref p]))
        have hp8 : upd H7 g (HO.lst (ys ++ [V.ref t] ++ [V.ref p])) p = some (.lst (ws ++ [v])) := But.ch _ _ hp7 pg
        generalize upd H7 g (HO.lst (ys ++ [V.ref t] ++ [V.ref p])) = H8 at b48 k38 hdp pw8 hg8 hp8 ⊢
        refine nx2 _ _ _ k38 hg8 ?_ new
        rw [List.append_assoc]
        exact paired_append (OL.but b48 hg4 oy yg) (Paired.cons ⟨t, ws, rfl, b48 _ _ ht tg, pw8⟩ (Paired.cons ⟨p, ws ++ [v], rfl, hp8, PL.snoc pw8 hdp⟩ Paired.nil))
      · rw [hPw] at pv
        obtain ⟨ys, v4, rfl, b4, hg4, oy, yg⟩ := pv
        rw [zl, List.take_length] at oy
        walk_at "rd"
        refine ⟨ys, .inl (SqL.of hg4), fun x nx => ?_⟩
        have s14 : Same H1 H4 := fun b o e => b4 _ _ (s13 _ _ e) fun z => by rw [z, ng] at e; cases e
        exact nxt _ _ _ _ _ _ (s1.trans (s14.trans (same_upd nx))) upd_same (oy.same (same_upd nx))
end

abbrev sAlk : Stmt := topS 0
/-- no path of the house parts the logs -/
def NoP (r : Nat) (D : List Pr) (A B : List Cl) : Prop := ∀ q, (∀ x ∈ q, 0 ≤ x ∧ x < (r : Int)) → ¬ Prt D A B q
section
variable {P : Program} {w : World} {K : PySem.W.Frag} {mg : Str → Option Value} {base : Heap}
end

/-! ### alike by parts exactly if no path parts the logs -/
theorem Drs.rng {r : Nat} {D O : List Pr} (drs : Drs r D) (sub : ∀ d ∈ O, d ∈ D) : ∀ d ∈ O, (0 ≤ d.1 ∧ d.1 < (r : Int)) ∧ 0 ≤ d.2 ∧ d.2 < (r : Int) := fun d hd => by
  have := drs.ok d (sub d hd)
  exact ⟨⟨by omega, by omega⟩, by omega, by omega⟩
theorem Rch.into {O : List Pr} {R S : List Int} {s y : Int} (h : Rch O R s y) (c : ∀ z, Rch O R s z → z ∈ S) : Rch O S s y := by
  induction h with
  | base m => exact .base (c _ (.base m))
  | step k a m ih => exact .step ih a (c _ (.step k a m))
theorem Rch.pth {O : List Pr} {R : List Int} {s y : Int} (h : Rch O R s y) : ∃ p, Pth O R s y p := by
  induction h with
  | base m => exact ⟨_, .base m⟩
  | step _ a m ih =>
    obtain ⟨p, hp⟩ := ih
    exact ⟨_, .step hp a m⟩
theorem Pth.to {O D : List Pr} {R S : List Int} {s y : Int} {p : List Int} (h : Pth O R s y p) (a : ∀ d ∈ O, d ∈ D) (b : ∀ x ∈ R, x ∈ S) : Pth D S s y p := by
  induction h with
  | base m => exact .base (b _ m)
  | step _ ad m ih => exact .step ih (ad.elim (fun z => .inl (a _ z)) fun z => .inr (a _ z)) (b _ m)
theorem chn_rch {D O : List Pr} {ps : List Int} {r : Nat} (inr : ∀ x ∈ ps, 0 ≤ x ∧ x < (r : Int)) (ch : Chn D ps) (hO : ∀ a b, Adj D a b → a ∈ ps → b ∈ ps → Adj O a b) : ∀ i, i < ps.length → Rch O (rg r) (ps.getD 0 0) (ps.getD i 0)
  | 0, h => by
    have m : ps.getD 0 0 ∈ ps := by rw [List.getD_eq_getElem?_getD, List.getElem?_eq_getElem h]; exact List.getElem_mem h
    exact .base (mem_rg (inr _ m).1 (inr _ m).2)
  | i + 1, h => by
    have m0 : ps.getD i 0 ∈ ps := by rw [List.getD_eq_getElem?_getD, List.getElem?_eq_getElem (by omega)]; exact List.getElem_mem _
    have m1 : ps.getD (i + 1) 0 ∈ ps := by rw [List.getD_eq_getElem?_getD, List.getElem?_eq_getElem h]; exact List.getElem_mem h
    exact .step (chn_rch inr ch hO i (by omega)) (hO _ _ (ch i h) m0 m1) (mem_rg (inr _ m1).1 (inr _ m1).2)
theorem prt_exists {r : Nat} {D O : List Pr} {A B : List Cl} (sub : ∀ d ∈ O, d ∈ D) (iA : InR r A) (iB : InR r B) {S : List Int} {x : Int} (hS : ∀ y, y ∈ S ↔ Rch O (rg r) x y) (ne : wordP A S ≠ wordP B S) : ∃ q, (∀ x ∈ q, 0 ≤ x ∧ x < (r : Int)) ∧ Prt D A B q := by
  by_cases c : ∃ k : Nat, k < r ∧ wordL A k ≠ wordL B k
  · obtain ⟨k, hk, hne⟩ := c
    exact ⟨[(k : Int)], fun x hx => by rw [List.mem_singleton.mp hx]; exact ⟨by omega, by omega⟩, ⟨by simp, by simp, fun i hi => absurd hi (by show ¬ i + 1 < 1; omega)⟩, hne⟩
  have eq : ∀ k : Nat, k < r → wordL A k = wordL B k := fun k hk => Classical.byContradiction fun z => c ⟨k, hk, z⟩
  obtain ⟨a, b, hc, ha, hb, top⟩ := comp_cross (rs := A.map (·.1)) iA iB (fun _ => Iff.rfl) eq ne
  have rab : Rch O (rg r) a b := ((hS a).mp ha).symm.trans ((hS b).mp hb)
  have inH : ∀ z, Rch O (rg r) a z → z ∈ hallF r A B a b := fun z hz => by
    have hz2 : z ∈ S := (hS z).mpr (((hS a).mp ha).trans hz)
    refine List.mem_filter.mpr ⟨hz.mem, ?_⟩
    rw [Bool.and_eq_true, decide_eq_true_iff, decide_eq_true_iff]
    exact top z hz2
  obtain ⟨p, hp⟩ := (rab.into inH).pth
  obtain ⟨q, hq, _⟩ := Lst.ex (fun z hz => (rg_mem (List.mem_filter.mp hz).1).1) (hp.to sub fun _ h => h)
  have hrs : ∀ x ∈ A.map (·.1), 0 ≤ x ∧ x < (r : Int) := fun x hx => by
    obtain ⟨c', hc', rfl⟩ := List.mem_map.mp hx
    exact iA c' hc'
  exact ⟨q, fun x hx => rg_mem (List.mem_filter.mp (hq.1.inR x hx)).1, part_of hc hrs eq (.inl hq)⟩
theorem nop_alk {D : List Pr} {r : Nat} {A B : List Cl} (drs : Drs r D) (iA : InR r A) (iB : InR r B) : NoP r D A B ↔ AlkP D (rg r) A B := by
  constructor
  · intro h Q hQ sub
    refine Classical.byContradiction fun ne => ?_
    obtain ⟨up, s, sQ, hr⟩ := hQ
    let O := D.filter fun d => decide (d.1 ∈ Q) && decide (d.2 ∈ Q)
    have subO : ∀ d ∈ O, d ∈ D := fun d hd => (List.mem_filter.mp hd).1
    have inO : ∀ d ∈ O, d.1 ∈ Q ∧ d.2 ∈ Q := fun d hd => by
      have := (List.mem_filter.mp hd).2
      rw [Bool.and_eq_true, decide_eq_true_iff, decide_eq_true_iff] at this
      exact this
    have hS : ∀ y, y ∈ Q ↔ Rch O (rg r) s y := fun y => by
      constructor
      · intro hy
        have k := hr y hy
        clear hy
        induction k with
        | base m => exact .base (sub _ m)
        | step k a m ih =>
          refine .step ih ?_ (sub _ m)
          have mk := k.mem
          rcases a with z | z
          · exact .inl (List.mem_filter.mpr ⟨z, by simp [mk, m]⟩)
          · exact .inr (List.mem_filter.mpr ⟨z, by simp [mk, m]⟩)
      · intro k
        induction k with
        | base m => exact sQ
        | step k a m ih =>
          rcases a with z | z
          · exact (inO _ z).2
          · exact (inO _ z).1
    obtain ⟨q, inr, hp⟩ := prt_exists subO iA iB hS ne
    exact h q inr hp
  · intro h q inr hp
    obtain ⟨⟨h1, h2, h3⟩, ne⟩ := hp
    have l1 := List.length_pos_iff.mpr h1
    have m0 : q.getD 0 0 ∈ q := by rw [List.getD_eq_getElem?_getD, List.getElem?_eq_getElem l1]; exact List.getElem_mem l1
    have k1 : ∀ i, i < q.length → Rch D q (q.getD 0 0) (q.getD i 0) := fun i => by
      induction i with
      | zero => exact fun _ => .base m0
      | succ i ih =>
        intro hi
        have m1 : q.getD (i + 1) 0 ∈ q := by rw [List.getD_eq_getElem?_getD, List.getElem?_eq_getElem hi]; exact List.getElem_mem hi
        exact .step (ih (by omega)) (h3 i hi) m1
    have mQ : ∀ x, x ∈ upF q ↔ x ∈ q := fun x => upF_mem _ _
    refine ne ?_
    rw [← wordP_congr mQ A, ← wordP_congr mQ B]
    refine h (upF q) ⟨upF_up q, q.getD 0 0, (mQ _).mpr m0, fun x hx => ?_⟩ fun z hz => ?_
    · obtain ⟨i, hi, e⟩ := mem_at ((mQ x).mp hx)
      have k := k1 i hi
      rw [e] at k
      clear e hx
      induction k with
      | base m => exact .base ((mQ _).mpr m)
      | step _ a m ih => exact .step ih a ((mQ _).mpr m)
    · have := inr z ((mQ z).mp hz)
      exact mem_rg this.1 this.2

/-! ### _law_quiet -/
abbrev sLqu : Stmt := topS 36
theorem swp_perm {α : Type} {L : List α} {j : Nat} {a b : α} (ga : L[j]? = some a) (gb : L[j + 1]? = some b) : (L.take j ++ [b, a] ++ L.drop (j + 2)).Perm L := by
  have hj : j < L.length := (List.getElem?_eq_some_iff.mp ga).1
  have hj1 : j + 1 < L.length := (List.getElem?_eq_some_iff.mp gb).1
  have e1 : L.drop j = a :: b :: L.drop (j + 2) := by
    rw [List.drop_eq_getElem_cons hj, List.drop_eq_getElem_cons hj1]
    rw [List.getElem?_eq_getElem hj] at ga
    rw [List.getElem?_eq_getElem hj1] at gb
    rw [Option.some.inj ga, Option.some.inj gb]
  have e2 : L = L.take j ++ (a :: b :: L.drop (j + 2)) := by rw [← e1, List.take_append_drop]
  rw [List.append_assoc]
  exact (List.Perm.append_left _ (List.Perm.swap a b _)).trans (List.Perm.of_eq e2.symm)
theorem paired_drop {α β : Type} {F : α → β → Prop} : ∀ {us : List α} {D : List β} (_ : Paired F us D) (n : Nat), Paired F (us.drop n) (D.drop n)
  | _, _, h, 0 => h
  | _, _, .nil, n + 1 => Paired.nil
  | _, _, .cons _ t, n + 1 => paired_drop t n
theorem paired_take {α β : Type} {F : α → β → Prop} : ∀ {us : List α} {D : List β} (_ : Paired F us D) (n : Nat), Paired F (us.take n) (D.take n)
  | _, _, _, 0 => by rw [List.take_zero, List.take_zero]; exact Paired.nil
  | _, _, .nil, n + 1 => Paired.nil
  | _, _, .cons r t, n + 1 => Paired.cons r (paired_take t n)
theorem cut_takeQ (xs : List V) (k : Nat) : cutV xs none (some ((k : Nat) : Int)) = xs.take k := by
  unfold cutV
  rw [show HT.sIx xs.length xs.length (some ((k : Nat) : Int)) = min k xs.length from HT.sIx_nat xs.length xs.length k, HT.sIx_none, List.drop_zero, Nat.sub_zero]
  by_cases h : k ≤ xs.length
  · rw [Nat.min_eq_left h]
  · rw [Nat.min_eq_right (by omega), List.take_length, List.take_of_length_le (by omega)]
section
variable {P : Program} {w : World} {K : PySem.W.Frag} {mg : Str → Option Value} {base : Heap}
theorem scLqu : FnScope ["doors", "rooms", "calls", "numbers", "calm", "number", "j", "later", "inside", "call", "r"] ["doors", "rooms", "calls", "numbers"] (defScope sLqu) := ⟨rfl, rfl, rfl, by decide +kernel, rfl, by decide +kernel, by decide +kernel⟩
def spLqu : Sp := fun vs H Q _ => ∃ (l g m : Addr) (us gs : List V) (D : List Pr) (C : List Cl) (ns : List Int) (r : Nat), vs = [.ref l, .int r, .ref g, .ref m] ∧ H l = some (.lst us) ∧ PL H us D ∧ H g = some (.lst gs) ∧ LG H gs C ∧ C.length ≤ 1000 ∧ H m = some (.lst (ns.map V.int)) ∧ r ≤ 12 ∧
  ∀ (L : List Cl) (ws : List V) (p : Addr) (H' : Hp), L.Perm C → Same H H' → H p = none → H' p = some (.lst ws) → LG H' ws L → Q (.ref p) H'
theorem ok_lqu {f fR : Addr} {fd fdR : FuncData} (F : Fun K "_law_quiet" "_law_quiet" sLqu f fd) (T : Bi mg) (d__law_reach : Df P w K mg base "_law_reach" ["doors", "start", "inside"] 1 (spLre K) fR fdR) : FnOk P w K mg base CX0 2 f fd ["doors", "rooms", "calls", "numbers"] spLqu := by
  refine F.ok scLqu (fun vs H Q E h => ?_) (fun cdv A0 outer s H vs Q E hr h => ?_)
  · obtain ⟨l, g, m, us, gs, D, C, ns, r, rfl, _⟩ := h
    rfl
  · obtain ⟨l, g, m, us, gs, D, C, ns, r, rfl, hl, pl, hg, lg, len, hm, r12, ret⟩ := h
    refine ⟨_, (pss_cons (ps_set (i := 4) scLqu.nd rfl (Or.inl rfl) (pe_callTy call_list_of (by rfl) T.list (by decide +kernel) (pa_cons (pv 2) pa_nil)))
      (pss_cons (ps_for PassesOwn.never rfl (pi_list (pv 3)) (pg_name (i := 5) scLqu.nd rfl (Or.inl rfl))
      (pss_one (ps_if (pt_cmpR op_gt (pe_callB call_len_seq (by rfl) T.len (by decide +kernel) (pa_cons (pv 4) pa_nil)) pe_int (nomark _))
        (pss_cons (ps_set (i := 6) scLqu.nd rfl (Or.inl rfl) (pe_op op_mod (pe_callTy cr_intI (by rfl) T.int (by decide +kernel) (pa_cons (pv 5) pa_nil)) (pe_op op_sub (pe_callB call_len_seq (by rfl) T.len (by decide +kernel) (pa_cons (pv 4) pa_nil)) pe_int)))
          (pss_cons (ps_set (i := 7) scLqu.nd rfl (Or.inr rfl) (pe_lc (own := [("call", 9)]) (te := (tOp (rIxT K) (tVar 9) (tC (V.int 0)))) (by rfl) scLqu.nd (pi_list (pe_slice sl_list (pv 4) (po_some (pe_op op_add (pv 6) pe_int)) po_none)) (blkOk_by (N := ["doors", "rooms", "calls", "numbers", "calm", "number", "j", "later", "inside", "call", "r"]) (sc := defScope sLqu) (by decide +kernel)) (fun _ _ _ _ _ => pg_name (i := 9) scLqu.nd rfl (Or.inl rfl)) (fun _ _ _ _ _ => pts_nil) (fun _ _ _ _ _ => (pe_ix ix_tup (pv 9) pe_int (fun _ _ => rfl)))))
          (pss_cons (ps_setLc (i := 8) (own := [("r", 10)]) (te := (tVar 10)) (tt := (tTest (tOp (rIn K true) (tVar 10) (tVar 7)))) (by rfl) scLqu.nd rfl rfl (sw_true rfl rfl rfl (by decide +kernel)) (pi_range1 (by rfl) T.range (pa_cons (pv 1) pa_nil)) (blkOk_by (N := ["doors", "rooms", "calls", "numbers", "calm", "number", "j", "later", "inside", "call", "r"]) (sc := defScope sLqu) (by decide +kernel)) (fun _ _ _ _ _ => pg_name (i := 10) scLqu.nd rfl (Or.inl rfl)) (fun _ _ _ _ _ => (pts_one (pt_cmpR op_notIn_seq (pv 10) (pv 7) (by rfl)))) (fun _ _ _ _ _ => (pv 10)))
          (pss_one (ps_if (PW.pt (pw_or (pt_cmpR op_eq (pe_ix ix_tup (pe_ix ix_list (pv 4) (pv 6) (fun _ _ => rfl)) pe_int (fun _ _ => rfl)) (pe_ix ix_tup (pe_ix ix_list (pv 4) (pe_op op_add (pv 6) pe_int) (fun _ _ => rfl)) pe_int (fun _ _ => rfl)) (nomark _)) (pw_or1 (pt_cmpR op_notIn_seq (pe_ix ix_tup (pe_ix ix_list (pv 4) (pe_op op_add (pv 6) pe_int) (fun _ _ => rfl)) pe_int (fun _ _ => rfl)) (pe_call d__law_reach.ok (hr.mono (by decide)) (by rfl) d__law_reach.at_ d__law_reach.kp d__law_reach.b .nil pass0 (pa_cons (pv 0) (pa_cons (pe_ix ix_tup (pe_ix ix_list (pv 4) (pv 6) (fun _ _ => rfl)) pe_int (fun _ _ => rfl)) (pa_cons (pv 8) pa_nil)))) (by rfl)))))
          (pss_one (ps_set (i := 4) scLqu.nd rfl (Or.inl rfl) (pe_op op_cat (pe_op op_cat (pe_slice sl_list (pv 4) po_none (po_some (pv 6))) (pe_lst (pa_cons (pe_ix ix_list (pv 4) (pe_op op_add (pv 6) pe_int) (fun _ _ => rfl)) (pa_cons (pe_ix ix_list (pv 4) (pv 6) (fun _ _ => rfl)) pa_nil)))) (pe_slice sl_list (pv 4) (po_some (pe_op op_add (pv 6) pe_int)) po_none))))
          pss_nil)))))
        pss_nil)))
      (pss_one (ps_ret (pv 4))))), ?_⟩
    refine sq1 fun N hN => ?_
    walk_at "rd"
    refine ⟨gs, .inl (SqL.of hg), fun c0 nc0 => ?_⟩
    have s0 := same_upd (o := HO.lst gs) nc0
    refine hN _ _ ?_
    clear hN N
    walk_at "rd"
    obtain ⟨Pv, hPv⟩ : ∃ Pv : Nat → L2.St → Hp → Prop, Pv = (fun i σ Hx => ∃ (ws : List V) (L : List Cl) (p : Addr) (v5 v6 v7 v8 : Option V), σ = [some (.ref l), some (.int r), some (.ref g), some (.ref m), some (.ref p), v5, v6, v7, v8, none, none] ∧ L.Perm C ∧ Same H Hx ∧ H p = none ∧ Hx p = some (.lst ws) ∧ LG Hx ws L) := ⟨_, rfl⟩
    refine ⟨_, rfl, m, rfl, ⟨_, SqL.of (s0 _ _ hm)⟩, for_list (K := K) (a := m) (xs := ns.map V.int) Pv (by rw [hPv]; exact ⟨gs, C, c0, none, none, none, none, rfl, List.Perm.refl _, s0, nc0, upd_same, lg.kt (KT.same s0)⟩) (fun i σ Hx _ pv => by rw [hPv] at pv; obtain ⟨_, _, _, _, _, _, _, _, _, sm, _⟩ := pv; exact SqL.of (sm _ _ hm)) (fun i v σ Hx gv pv => ?_) (fun σ Hx pv => ?_)⟩
    rotate_left
    · rw [hPv] at pv
      obtain ⟨ws, L, p, v5, v6, v7, v8, rfl, pm, sm, np, hp, lw⟩ := pv
      walk_at "rd"
      exact ret L ws p Hx pm sm np hp lw
    have nxt : ∀ (ws : List V) (L : List Cl) (p : Addr) (v5 v6 v7 v8 : Option V) (Hx : Hp), L.Perm C → Same H Hx → H p = none → Hx p = some (.lst ws) → LG Hx ws L → Pv (i + 1) [some (.ref l), some (.int r), some (.ref g), some (.ref m), some (.ref p), v5, v6, v7, v8, none, none] Hx := fun ws L p v5 v6 v7 v8 Hx h1 h2 h3 h4 h5 => by
      rw [hPv]
      exact ⟨ws, L, p, v5, v6, v7, v8, rfl, h1, h2, h3, h4, h5⟩
    rw [hPv] at pv
    obtain ⟨ws, L, p, v5, v6, v7, v8, rfl, pm, sm, np, hp, lw⟩ := pv
    obtain ⟨x, rfl⟩ : ∃ x, v = V.int x := by
      rw [List.getElem?_map] at gv
      cases e : ns[i]? with
      | none => rw [e] at gv; cases gv
      | some y => rw [e] at gv; exact ⟨y, (Option.some.inj gv).symm⟩
    have wl := lw.len
    have ll := pm.length_eq
    walk_at "rd"
    refine ⟨ws, .inl (SqL.of hp), ?_⟩
    refine ite2 (fun w1 => ?_) (fun _ => nxt ws L p _ _ _ _ Hx pm sm np hp lw)
    have e0 := Int.emod_nonneg x (show ((ws.length : Int) - 1) ≠ 0 by omega)
    have e1 := Int.emod_lt_of_pos x (show (0 : Int) < (ws.length : Int) - 1 by omega)
    obtain ⟨j, ej⟩ : ∃ j : Nat, x % ((ws.length : Int) - 1) = j := ⟨(x % ((ws.length : Int) - 1)).toNat, by omega⟩
    have jl : j + 1 < L.length := by omega
    obtain ⟨a, ga⟩ : ∃ a, L[j]? = some a := ⟨_, List.getElem?_eq_getElem (by omega)⟩
    obtain ⟨b, gb⟩ : ∃ b, L[j + 1]? = some b := ⟨_, List.getElem?_eq_getElem (by omega)⟩
    obtain ⟨va, gva, ta, rfl, hta⟩ := pget2 lw ga
    obtain ⟨vb, gvb, tb, rfl, htb⟩ := pget2 lw gb
    refine ⟨ws, .inl (SqL.of hp), by omega, ?_⟩
    rw [ej]
    refine lcW ?_
    walk_at "rd"
    refine ⟨ws, SqL.of hp, fun c1 nc1 => ?_⟩
    rw [show ((j : Int) + 2) = ((j + 2 : Nat) : Int) by omega, cut_drop]
    have s1 := same_upd (o := HO.lst (ws.drop (j + 2))) nc1
    have hc1 := upd_same (H := Hx) (a := c1) (o := HO.lst (ws.drop (j + 2)))
    generalize upd Hx c1 (HO.lst (ws.drop (j + 2))) = H1 at s1 hc1 ⊢
    have lwd : LG H1 (ws.drop (j + 2)) (L.drop (j + 2)) := paired_drop (lw.kt (KT.same s1)) (j + 2)
    refine ⟨⟨_, SqL.of hc1⟩, lc_fst hc1 lwd (by rw [List.length_drop]; omega) (by simp) fun o1 H2 s2 no1 ho1 => ?_⟩
    refine lcW ?_
    walk_at "rd"
    refine ⟨by omega, by omega, lc_notin (m := 7) rfl (.inl (SqL.of ho1)) (by omega) (by simp) fun o2 H3 s3 no2 ho2 => ?_⟩
    have s13 := s1.trans (s2.trans s3)
    have hp3 := s13 _ _ hp
    refine ⟨ws, SqL.of hp3, _, at_of (j := j) rfl gva, ta, rfl, _, SqT.of (s13 _ _ hta), .str a.2, rfl, ws, SqL.of hp3, _, at_of (j := j + 1) (by omega) gvb, tb, rfl, _, SqT.of (s13 _ _ htb), .str b.2, rfl, rfl, ?_⟩
    have keepP := nxt ws L p (some (V.int x)) (some (V.int j)) (some (V.ref o1)) (some (V.ref o2))
    have inE : ∀ z ∈ (rg r).filter fun z => decide (z ∉ (L.drop (j + 2)).map (·.1)), 0 ≤ z := fun z hz => by
      obtain ⟨n, hn, rfl⟩ := List.mem_map.mp (List.mem_filter.mp hz).1
      exact Int.natCast_nonneg _
    have lenE : ((rg r).filter fun z => decide (z ∉ (L.drop (j + 2)).map (·.1))).length < 64 := by
      have := List.length_filter_le (fun z => decide (z ∉ (L.drop (j + 2)).map (·.1))) (rg r)
      rw [rg_len] at this
      omega
    refine ⟨_, rfl, ?_⟩
    by_cases cw : V.str a.2 = V.str b.2
    rw [decide_eq_true cw, if_pos rfl, if_pos trivial]
    have sc := Same.refl H3
    generalize hH : H3 = Hc at sc ⊢
    rw [hH] at s13
    clear hH
    rotate_left
    rw [decide_eq_false cw, if_neg (by decide)]
    have s03 := sm.trans s13
    refine ⟨ws, SqL.of hp3, _, at_of (j := j + 1) (by omega) gvb, tb, rfl, _, SqT.of (s13 _ _ htb), .int b.1, rfl, ws, SqL.of hp3, _, at_of (j := j) rfl gva, ta, rfl, _, SqT.of (s13 _ _ hta), .int a.1, rfl, ?_⟩
    refine ⟨l, o2, a.1, us, D, _, rfl, s03 _ _ hl, pl.kt (KT.same s03), .inl (SqL.of ho2), lenE, inE, fun ys ty Hc pc sc nty hty => ?_⟩
    refine ⟨ty, _, rfl, .inl (SqL.of hty), rfl, flI _, ?_⟩
    rw [inI, if_pos rfl]
    refine ⟨_, rfl, ?_⟩
    have s13 := s13.trans sc
    by_cases cm : b.1 ∈ ys
    · rw [decide_eq_true cm, if_neg (by decide)]
      exact keepP Hc pm (sm.trans s13) np (s13 _ _ hp) (lw.kt (KT.same s13))
    rw [decide_eq_false cm, if_pos (by decide)]
    all_goals
      have hpc := s13 _ _ hp
      refine ⟨ws, SqL.of hpc, fun q1 nq1 => ?_⟩
      rw [cut_takeQ]
      have w1 := same_upd (o := HO.lst (ws.take j)) nq1
      have hq1 := upd_same (H := Hc) (a := q1) (o := HO.lst (ws.take j))
      generalize upd Hc q1 (HO.lst (ws.take j)) = G1 at w1 hq1 ⊢
      have t1 := s13.trans w1
      refine ⟨ws, SqL.of (t1 _ _ hp), _, at_of (j := j + 1) (by omega) gvb, ws, SqL.of (t1 _ _ hp), _, at_of (j := j) rfl gva, by decide, fun q2 nq2 => ?_⟩
      have w2 := same_upd (o := HO.lst [V.ref tb, V.ref ta]) nq2
      have hq2 := upd_same (H := G1) (a := q2) (o := HO.lst [V.ref tb, V.ref ta])
      have hq1 := w2 _ _ hq1
      generalize upd G1 q2 (HO.lst [V.ref tb, V.ref ta]) = G2 at w2 hq2 hq1 ⊢
      have t2 := t1.trans w2
      have tl : (ws.take j).length ≤ ws.length := by rw [List.length_take]; omega
      refine ⟨q1, q2, _, _, rfl, rfl, hq1, hq2, Nat.le_of_lt (len_big (by show _ + 2 ≤ 100000; omega)), fun q3 nq3 => ?_⟩
      have w3 := same_upd (o := HO.lst (ws.take j ++ [V.ref tb, V.ref ta])) nq3
      have hq3 := upd_same (H := G2) (a := q3) (o := HO.lst (ws.take j ++ [V.ref tb, V.ref ta]))
      generalize upd G2 q3 (HO.lst (ws.take j ++ [V.ref tb, V.ref ta])) = G3 at w3 hq3 ⊢
      have t3 := t2.trans w3
      refine ⟨ws, SqL.of (t3 _ _ hp), fun q4 nq4 => ?_⟩
      rw [cut_drop]
      have w4 := same_upd (o := HO.lst (ws.drop (j + 2))) nq4
      have hq4 := upd_same (H := G3) (a := q4) (o := HO.lst (ws.drop (j + 2)))
      have hq3 := w4 _ _ hq3
      generalize upd G3 q4 (HO.lst (ws.drop (j + 2))) = G4 at w4 hq4 hq3 ⊢
      have t4 := t3.trans w4
      have dl : (ws.drop (j + 2)).length ≤ ws.length := by rw [List.length_drop]; omega
      refine ⟨q3, q4, _, _, rfl, rfl, hq3, hq4, Nat.le_of_lt (len_big (by rw [List.length_append]; show _ + 2 + _ ≤ 100000; omega)), fun q5 nq5 => ?_⟩
      have w5 := same_upd (o := HO.lst (ws.take j ++ [V.ref tb, V.ref ta] ++ ws.drop (j + 2))) nq5
      have t5 := t4.trans w5
      refine nxt _ (L.take j ++ [b, a] ++ L.drop (j + 2)) q5 _ _ _ _ _ ((swp_perm ga gb).trans pm) (sm.trans t5) ((sm.trans t4).free nq5) upd_same ?_
      exact paired_append (paired_append (paired_take (lw.kt (KT.same t5)) j) (Paired.cons ⟨tb, rfl, t5 _ _ htb⟩ (Paired.cons ⟨ta, rfl, t5 _ _ hta⟩ Paired.nil))) (paired_drop (lw.kt (KT.same t5)) (j + 2))
end

/-! ### the doors of a path, and what is heard when only they are open -/
def pe (q : List Int) : List Pr := (List.range (q.length - 1)).map fun i => mm2 (q.getD i 0, q.getD (i + 1) 0)
theorem mem_pe {q : List Int} {d : Pr} : d ∈ pe q ↔ ∃ i, i + 1 < q.length ∧ d = mm2 (q.getD i 0, q.getD (i + 1) 0) := by
  unfold pe
  rw [List.mem_map]
  constructor
  · rintro ⟨i, hi, rfl⟩
    have := List.mem_range.mp hi
    exact ⟨i, by omega, rfl⟩
  · rintro ⟨i, hi, rfl⟩
    exact ⟨i, List.mem_range.mpr (by omega), rfl⟩
theorem pe_len (q : List Int) : (pe q).length = q.length - 1 := by
  unfold pe
  rw [List.length_map, List.length_range]
theorem pe_cons (a b : Int) (t : List Int) : pe (a :: b :: t) = mm2 (a, b) :: pe (b :: t) := by
  unfold pe
  show (List.range (t.length + 1)).map _ = _
  rw [List.range_succ_eq_map, List.map_cons, List.map_map]
  rfl
theorem gd_inj {q : List Int} (nd : q.Nodup) {i j : Nat} (hi : i < q.length) (hj : j < q.length) (e : q.getD i 0 = q.getD j 0) : i = j := by
  rw [List.getD_eq_getElem?_getD, List.getD_eq_getElem?_getD, List.getElem?_eq_getElem hi, List.getElem?_eq_getElem hj] at e
  have e : q[i] = q[j] := e
  rcases Nat.lt_trichotomy i j with h | h | h
  · exact absurd e (List.pairwise_iff_getElem.mp nd i j hi hj h)
  · exact h
  · exact absurd e.symm (List.pairwise_iff_getElem.mp nd j i hj hi h)
theorem gd_mem {q : List Int} {i : Nat} (hi : i < q.length) : q.getD i 0 ∈ q := by
  rw [List.getD_eq_getElem?_getD, List.getElem?_eq_getElem hi]
  exact List.getElem_mem hi
theorem mem_gd {q : List Int} {x : Int} (h : x ∈ q) : ∃ i, i < q.length ∧ q.getD i 0 = x := by
  obtain ⟨i, hi, e⟩ := List.getElem_of_mem h
  refine ⟨i, hi, ?_⟩
  rw [List.getD_eq_getElem?_getD, List.getElem?_eq_getElem hi]
  exact e
theorem mm2_two {a b c d : Int} (h : mm2 (a, b) = mm2 (c, d)) : (a = c ∧ b = d) ∨ (a = d ∧ b = c) := by
  unfold mm2 at h
  have h1 := congrArg Prod.fst h
  have h2 := congrArg Prod.snd h
  simp only at h1 h2
  split at h1 <;> split at h1 <;> split at h2 <;> split at h2 <;> omega
theorem mm2_or (a b : Int) : mm2 (a, b) = (a, b) ∨ mm2 (a, b) = (b, a) := by
  unfold mm2
  by_cases h : b < a
  · exact .inr (by simp only [if_pos h, if_neg (show ¬ b > a by omega)])
  · by_cases h2 : b > a
    · exact .inl (by simp only [if_neg h, if_pos h2])
    · have : a = b := by omega
      subst this
      exact .inl (by simp)
theorem mm2_swap (a b : Int) : mm2 (a, b) = mm2 (b, a) := by
  unfold mm2
  simp only
  refine Prod.ext ?_ ?_ <;> simp only <;> split <;> split <;> omega
theorem pe_nodup {q : List Int} (nd : q.Nodup) : (pe q).Nodup := by
  unfold pe
  refine List.pairwise_map.mpr (List.Pairwise.imp_of_mem (fun {i j} hi hj ne e => ?_) (List.nodup_range (n := q.length - 1)))
  have hi := List.mem_range.mp hi
  have hj := List.mem_range.mp hj
  rcases mm2_two e with ⟨h, _⟩ | ⟨h, k⟩
  · exact ne (gd_inj nd (by omega) (by omega) h)
  · have := gd_inj nd (by omega) (by omega) h
    have := gd_inj nd (by omega) (by omega) k
    omega
theorem adj_mm2 {D : List Pr} (ok : ∀ d ∈ D, d.1 < d.2) {a b : Int} (h : Adj D a b) : mm2 (a, b) ∈ D := by
  rcases h with h | h
  · have := ok _ h
    have e : mm2 (a, b) = (a, b) := by
      unfold mm2
      have h1 : a < b := this
      simp only [if_neg (show ¬ b < a by omega), if_pos (show b > a from h1)]
    rw [e]
    exact h
  · have := ok _ h
    have e : mm2 (a, b) = (b, a) := by
      unfold mm2
      have h1 : b < a := this
      simp only [if_pos h1, if_neg (show ¬ b > a by omega)]
    rw [e]
    exact h
theorem mm2_adj {D : List Pr} {a b : Int} (h : mm2 (a, b) ∈ D) : Adj D a b := by
  rcases mm2_or a b with e | e
  · rw [e] at h; exact .inl h
  · rw [e] at h; exact .inr h
theorem pe_sub {D : List Pr} (ok : ∀ d ∈ D, d.1 < d.2) {q : List Int} (ch : Chn D q) : ∀ d ∈ pe q, d ∈ D := fun d hd => by
  obtain ⟨i, hi, rfl⟩ := mem_pe.mp hd
  exact adj_mm2 ok (ch i hi)
/-- an area of an opening -/
noncomputable def areaF (r : Nat) (O : List Pr) (x : Int) : List Int := by
  classical
  exact (rg r).filter fun y => decide (Rch O (rg r) x y)
theorem mem_area {r : Nat} {O : List Pr} {x y : Int} : y ∈ areaF r O x ↔ Rch O (rg r) x y := by
  classical
  unfold areaF
  rw [List.mem_filter, decide_eq_true_iff]
  exact ⟨fun h => h.2, fun h => ⟨h.mem, h⟩⟩
/-- the rooms that hear unlike words -/
noncomputable def unlF (r : Nat) (O : List Pr) (A B : List Cl) : List Int := by
  classical
  exact (rg r).filter fun x => decide (wordP A (areaF r O x) ≠ wordP B (areaF r O x))
theorem mem_unl {r : Nat} {O : List Pr} {A B : List Cl} {x : Int} : x ∈ unlF r O A B ↔ x ∈ rg r ∧ wordP A (areaF r O x) ≠ wordP B (areaF r O x) := by
  classical
  unfold unlF
  rw [List.mem_filter, decide_eq_true_iff]
/-- only the doors of a path are open: its rooms are one area -/
theorem path_area {r : Nat} {O : List Pr} {q : List Int} (inr : ∀ x ∈ q, 0 ≤ x ∧ x < (r : Int)) (hO : ∀ d, d ∈ O ↔ d ∈ pe q) {x : Int} (hx : x ∈ q) : ∀ y, Rch O (rg r) x y ↔ y ∈ q := by
  have m : ∀ y ∈ q, y ∈ rg r := fun y hy => mem_rg (inr y hy).1 (inr y hy).2
  have go : ∀ i, i < q.length → Rch O (rg r) (q.getD 0 0) (q.getD i 0) := fun i => by
    induction i with
    | zero => intro h; exact .base (m _ (gd_mem h))
    | succ i ih => intro h; exact .step (ih (by omega)) (mm2_adj ((hO _).mpr (mem_pe.mpr ⟨i, h, rfl⟩))) (m _ (gd_mem h))
  intro y
  constructor
  · intro h
    induction h with
    | base _ => exact hx
    | @step a b k ad _ ih =>
      have two : ∀ {u v : Int}, (u, v) ∈ O → u ∈ q ∧ v ∈ q := fun {u v} h => by
        obtain ⟨i, hi, e⟩ := mem_pe.mp ((hO _).mp h)
        rcases mm2_or (q.getD i 0) (q.getD (i + 1) 0) with z | z
        · rw [z] at e
          cases e
          exact ⟨gd_mem (by omega), gd_mem hi⟩
        · rw [z] at e
          cases e
          exact ⟨gd_mem hi, gd_mem (by omega)⟩
      exact ad.elim (fun h => (two h).2) fun h => (two h).1
  · intro hy
    obtain ⟨i, hi, ei⟩ := mem_gd hx
    obtain ⟨j, hj, ej⟩ := mem_gd hy
    have h1 := go i hi
    have h2 := go j hj
    rw [ei] at h1
    rw [ej] at h2
    exact h1.symm.trans h2
theorem path_unl {r : Nat} {O : List Pr} {A B : List Cl} {q : List Int} (inr : ∀ x ∈ q, 0 ≤ x ∧ x < (r : Int)) (hO : ∀ d, d ∈ O ↔ d ∈ pe q) (ne : wordP A q ≠ wordP B q) : ∀ x ∈ q, x ∈ unlF r O A B := fun x hx => by
  refine mem_unl.mpr ⟨mem_rg (inr x hx).1 (inr x hx).2, ?_⟩
  have e : ∀ y, y ∈ areaF r O x ↔ y ∈ q := fun y => mem_area.trans (path_area inr hO hx y)
  rw [wordP_congr e A, wordP_congr e B]
  exact ne
/-- a telling opening holds a parting path -/
theorem tell_path {r : Nat} {O : List Pr} {A B : List Cl} (iA : InR r A) (iB : InR r B) {x : Int} (h : x ∈ unlF r O A B) : ∃ q, (∀ x ∈ q, 0 ≤ x ∧ x < (r : Int)) ∧ Prt O A B q :=
  prt_exists (D := O) (fun _ h => h) iA iB (S := areaF r O x) (x := x) (fun y => mem_area) (mem_unl.mp h).2
theorem sub_len {α : Type} [DecidableEq α] : ∀ {l m : List α}, l.Nodup → (∀ x ∈ l, x ∈ m) → l.length ≤ m.length
  | [], _, _, _ => Nat.zero_le _
  | a :: l, m, nd, h => by
    obtain ⟨n1, n2⟩ := List.nodup_cons.mp nd
    have ha := h a List.mem_cons_self
    have h2 := sub_len (l := l) (m := m.erase a) n2 fun x hx => (List.mem_erase_of_ne (fun z => n1 (by rw [← z]; exact hx))).mpr (h x (List.mem_cons_of_mem _ hx))
    have h3 := List.length_erase_of_mem ha
    have h4 := List.length_pos_of_mem ha
    rw [List.length_cons]
    omega
theorem perm_of_sub {α : Type} [DecidableEq α] : ∀ {l m : List α}, l.Nodup → (∀ x ∈ l, x ∈ m) → m.length ≤ l.length → m.Perm l
  | [], m, _, _, len => by rw [List.length_eq_zero_iff.mp (Nat.le_zero.mp len)]
  | a :: l, m, nd, h, len => by
    obtain ⟨n1, n2⟩ := List.nodup_cons.mp nd
    have ha := h a List.mem_cons_self
    have h3 := List.length_erase_of_mem ha
    have h4 := List.length_pos_of_mem ha
    rw [List.length_cons] at len
    have ih := perm_of_sub (l := l) (m := m.erase a) n2 (fun x hx => (List.mem_erase_of_ne (fun z => n1 (by rw [← z]; exact hx))).mpr (h x (List.mem_cons_of_mem _ hx))) (by omega)
    exact (List.perm_cons_erase ha).trans (ih.cons a)
/-- a least telling opening is a path -/
theorem least_path {r m : Nat} {D O : List Pr} {A B : List Cl} (drs : Drs r D) (iA : InR r A) (iB : InR r B) (hs : O ∈ subsF D) (nd : O.Nodup) (hO : unlF r O A B ≠ []) (hm : O.length = m) (least : ∀ O' ∈ subsF D, unlF r O' A B ≠ [] → m ≤ O'.length) :
    ∃ q, Prt D A B q ∧ (∀ x ∈ q, 0 ≤ x ∧ x < (r : Int)) ∧ O.Perm (pe q) ∧ q.length = m + 1 := by
  obtain ⟨x, hx⟩ : ∃ x, x ∈ unlF r O A B := List.exists_mem_of_ne_nil _ hO
  obtain ⟨q, inr, ⟨ne, ndq, ch⟩, wne⟩ := tell_path iA iB hx
  have okO : ∀ d ∈ O, d.1 < d.2 := fun d hd => (drs.ok d (subsF_sub D O hs d hd)).2.1
  have sub := pe_sub okO ch
  have l1 : (pe q).length ≤ O.length := sub_len (pe_nodup ndq) sub
  have l2 : m ≤ (pe q).length := by
    have f : ∀ d, d ∈ (D.filter fun d => decide (d ∈ pe q)) ↔ d ∈ pe q := fun d => by
      rw [List.mem_filter, decide_eq_true_iff]
      exact ⟨fun h => h.2, fun h => ⟨subsF_sub D O hs d (sub d h), h⟩⟩
    have t := path_unl (A := A) (B := B) inr f wne
    have ne2 : unlF r (D.filter fun d => decide (d ∈ pe q)) A B ≠ [] := fun z => by
      obtain ⟨y, hy⟩ := List.exists_mem_of_ne_nil _ ne
      have := t y hy
      rw [z] at this
      cases this
    have l3 := least _ (subsF_filter D _) ne2
    have l4 : (D.filter fun d => decide (d ∈ pe q)).length ≤ (pe q).length := sub_len (drs.asc.nodup.filter _) fun d hd => (f d).mp hd
    omega
  have _nd := nd
  have pm : O.Perm (pe q) := perm_of_sub (pe_nodup ndq) sub (by omega)
  refine ⟨q, ⟨⟨ne, ndq, fun i hi => ?_⟩, wne⟩, inr, pm, ?_⟩
  · exact (ch i hi).elim (fun h => .inl (subsF_sub D O hs _ h)) fun h => .inr (subsF_sub D O hs _ h)
  · have := pm.length_eq
    rw [pe_len] at this
    have := List.length_pos_iff.mpr ne
    omega

/-! ### a path from its doors -/
def touchF (O : List Pr) : List Int := O.flatMap fun d => [d.1, d.2]
theorem mm2_count (a b z : Int) : [(mm2 (a, b)).1, (mm2 (a, b)).2].count z = [a, b].count z := by
  rcases mm2_or a b with e | e <;> rw [e]
  exact (List.Perm.swap a b []).count_eq z
theorem cnt_pe (z : Int) : ∀ (t : List Int) (a : Int), (touchF (pe (a :: t))).count z + [a].count z + [(a :: t).getLast (List.cons_ne_nil _ _)].count z = 2 * (a :: t).count z
  | [], a => by
    show (touchF []).count z + [a].count z + [a].count z = 2 * [a].count z
    show 0 + [a].count z + [a].count z = 2 * [a].count z
    omega
  | b :: t, a => by
    have ih := cnt_pe z t b
    have e : touchF (pe (a :: b :: t)) = [(mm2 (a, b)).1, (mm2 (a, b)).2] ++ touchF (pe (b :: t)) := by
      rw [pe_cons]
      rfl
    rw [e, List.count_append, mm2_count, List.getLast_cons (List.cons_ne_nil b t)]
    have h1 : [a, b].count z = [a].count z + [b].count z := by rw [show [a, b] = [a] ++ [b] from rfl, List.count_append]
    have h2 : (a :: b :: t).count z = [a].count z + (b :: t).count z := by rw [show a :: b :: t = [a] ++ (b :: t) from rfl, List.count_append]
    omega
def hdD (q : List Int) : Int := q.getD 0 0
def laD (q : List Int) : Int := q.getD (q.length - 1) 0
theorem laD_last {a : Int} {t : List Int} : (a :: t).getLast (List.cons_ne_nil _ _) = laD (a :: t) := by
  unfold laD
  rw [List.getLast_eq_getElem, List.getD_eq_getElem?_getD, List.getElem?_eq_getElem (by simp)]
  rfl
theorem count_nd {q : List Int} (nd : q.Nodup) (z : Int) : q.count z = if z ∈ q then 1 else 0 := by
  by_cases h : z ∈ q
  · rw [if_pos h]
    have h1 := List.nodup_iff_count.mp nd z
    have h2 := List.count_pos_iff.mpr h
    omega
  · rw [if_neg h, List.count_eq_zero.mpr h]
/-- what stands at one end of one door only -/
def endF (O : List Pr) : List Int := (touchF O).filter fun z => decide ((touchF O).count z = 1)
theorem touch_perm {O O' : List Pr} (h : O.Perm O') : (touchF O).Perm (touchF O') := h.flatMap_right _
theorem mem_end {O : List Pr} {q : List Int} (pm : O.Perm (pe q)) (nd : q.Nodup) (l2 : 2 ≤ q.length) (z : Int) : z ∈ endF O ↔ z = hdD q ∨ z = laD q := by
  cases q with
  | nil => simp at l2
  | cons a t =>
    have c := cnt_pe z t a
    rw [laD_last, count_nd nd] at c
    have e1 : (touchF O).count z = (touchF (pe (a :: t))).count z := (touch_perm pm).count_eq z
    have ca : [a].count z = if z = a then 1 else 0 := by
      by_cases h : z = a
      · subst h; simp
      · rw [if_neg h, List.count_eq_zero.mpr (by simpa using h)]
    have cl : [laD (a :: t)].count z = if z = laD (a :: t) then 1 else 0 := by
      by_cases h : z = laD (a :: t)
      · rw [if_pos h, ← h]; simp
      · rw [if_neg h, List.count_eq_zero.mpr (by simpa using h)]
    rw [ca, cl] at c
    have am : a ∈ a :: t := List.mem_cons_self
    have lm : laD (a :: t) ∈ a :: t := gd_mem (by simp)
    have ne : a ≠ laD (a :: t) := fun e => by
      have := gd_inj nd (i := 0) (j := (a :: t).length - 1) (by omega) (by omega) e
      omega
    have key : (touchF O).count z = 1 ↔ z = a ∨ z = laD (a :: t) := by
      rw [e1]
      by_cases h1 : z = a
      · subst h1
        rw [if_pos rfl, if_pos am, if_neg ne] at c
        exact ⟨fun _ => .inl rfl, fun _ => by omega⟩
      · rw [if_neg h1] at c
        by_cases h2 : z = laD (a :: t)
        · rw [if_pos h2, if_pos (by rw [h2]; exact lm)] at c
          exact ⟨fun _ => .inr h2, fun _ => by omega⟩
        · rw [if_neg h2] at c
          refine ⟨fun h => ?_, fun h => h.elim (fun h => absurd h h1) fun h => absurd h h2⟩
          split at c <;> omega
    show z ∈ endF O ↔ z = a ∨ z = laD (a :: t)
    unfold endF
    rw [List.mem_filter, decide_eq_true_iff]
    exact ⟨fun h => key.mp h.2, fun h => ⟨List.count_pos_iff.mp (by rw [key.mpr h]; decide), key.mpr h⟩⟩
theorem end_nodup (O : List Pr) : (endF O).Nodup := by
  refine List.nodup_iff_count.mpr fun z => ?_
  by_cases h : z ∈ endF O
  · have := of_decide_eq_true (List.mem_filter.mp h).2
    have h2 := (List.filter_sublist (p := fun z => decide ((touchF O).count z = 1)) (l := touchF O)).count_le z
    unfold endF
    omega
  · rw [List.count_eq_zero.mpr h]
    exact Nat.zero_le _
theorem end_perm {O : List Pr} {q : List Int} (pm : O.Perm (pe q)) (nd : q.Nodup) (l2 : 2 ≤ q.length) : (endF O).Perm [hdD q, laD q] := by
  have ne : hdD q ≠ laD q := fun e => by
    have := gd_inj nd (i := 0) (j := q.length - 1) (by omega) (by omega) e
    omega
  refine (List.perm_ext_iff_of_nodup (end_nodup O) (by simpa using ne)).mpr fun z => ?_
  rw [mem_end pm nd l2]
  simp
/-- one step further from the path's end -/
def stepF (p : List Int) (x : Int) (d : Pr) : Option Int := if (x = d.1 ∨ x = d.2) ∧ d.1 + d.2 - x ∉ p then some (d.1 + d.2 - x) else none
theorem fm_one {α β : Type} {f : α → Option β} {a : α} {v : β} : ∀ {l : List α}, l.Nodup → a ∈ l → f a = some v → (∀ b ∈ l, b ≠ a → f b = none) → l.filterMap f = [v]
  | [], _, h, _, _ => by cases h
  | c :: l, nd, h, e, n => by
    obtain ⟨n1, n2⟩ := List.nodup_cons.mp nd
    rcases List.mem_cons.mp h with z | z
    · subst z
      rw [List.filterMap_cons, e]
      have : l.filterMap f = [] := List.filterMap_eq_nil_iff.mpr fun b hb => n b (List.mem_cons_of_mem _ hb) fun z => n1 (by rw [← z]; exact hb)
      rw [this]
    · rw [List.filterMap_cons, n c List.mem_cons_self fun w => n1 (by rw [w]; exact z)]
      exact fm_one n2 z e fun b hb => n b (List.mem_cons_of_mem _ hb)
theorem mm2_sum (a b : Int) : (mm2 (a, b)).1 + (mm2 (a, b)).2 = a + b := by
  rcases mm2_or a b with e | e <;> rw [e] <;> simp only <;> omega
theorem mm2_has (a b x : Int) : (x = (mm2 (a, b)).1 ∨ x = (mm2 (a, b)).2) ↔ x = a ∨ x = b := by
  rcases mm2_or a b with e | e <;> rw [e]
  exact Or.comm
theorem mem_take {q : List Int} {i k : Nat} (hi : i < q.length) (h : i < k) : q.getD i 0 ∈ q.take k := by
  rw [List.getD_eq_getElem?_getD, List.getElem?_eq_getElem hi]
  have : (q.take k)[i]? = some q[i] := by rw [List.getElem?_take_of_lt h, List.getElem?_eq_getElem hi]
  exact List.mem_of_getElem? this
theorem not_take {q : List Int} (nd : q.Nodup) {i k : Nat} (hi : i < q.length) (h : k ≤ i) : q.getD i 0 ∉ q.take k := fun m => by
  obtain ⟨j, hj, e⟩ := List.getElem_of_mem m
  have hj2 : j < k := by rw [List.length_take] at hj; omega
  have hj3 : j < q.length := by rw [List.length_take] at hj; omega
  have e2 : q.getD j 0 = q.getD i 0 := by
    rw [← e, List.getElem_take, List.getD_eq_getElem?_getD, List.getElem?_eq_getElem hj3]
    rfl
  have := gd_inj nd hj3 hi e2
  omega
theorem further {O : List Pr} {q : List Int} (pm : O.Perm (pe q)) (nd : q.Nodup) {k : Nat} (hk : k + 1 < q.length) : O.filterMap (stepF (q.take (k + 1)) (q.getD k 0)) = [q.getD (k + 1) 0] := by
  have ndO : O.Nodup := pm.nodup_iff.mpr (pe_nodup nd)
  refine fm_one (a := mm2 (q.getD k 0, q.getD (k + 1) 0)) ndO (pm.mem_iff.mpr (mem_pe.mpr ⟨k, hk, rfl⟩)) ?_ fun b hb ne => ?_
  · unfold stepF
    rw [mm2_sum, show q.getD k 0 + q.getD (k + 1) 0 - q.getD k 0 = q.getD (k + 1) 0 by omega]
    exact if_pos ⟨(mm2_has _ _ _).mpr (.inl rfl), not_take nd hk (Nat.le_refl _)⟩
  · obtain ⟨i, hi, rfl⟩ := mem_pe.mp (pm.mem_iff.mp hb)
    unfold stepF
    rw [mm2_sum]
    refine if_neg fun ⟨h1, h2⟩ => ?_
    rcases (mm2_has _ _ _).mp h1 with h1 | h1
    · have := gd_inj nd (by omega) (by omega) h1
      subst this
      exact ne rfl
    · have := gd_inj nd (by omega) (by omega) h1
      subst this
      exact h2 (by rw [show q.getD i 0 + q.getD (i + 1) 0 - q.getD (i + 1) 0 = q.getD i 0 by omega]; exact mem_take (by omega) (by omega))
theorem take_succ_gd {q : List Int} {k : Nat} (hk : k < q.length) : q.take (k + 1) = q.take k ++ [q.getD k 0] := by
  rw [List.take_add_one, List.getElem?_eq_getElem hk, List.getD_eq_getElem?_getD, List.getElem?_eq_getElem hk]
  rfl
theorem pe_uniq {O : List Pr} {q q' : List Int} (pm : O.Perm (pe q)) (pm' : O.Perm (pe q')) (nd : q.Nodup) (nd' : q'.Nodup) (l2 : 2 ≤ q.length) (len : q'.length = q.length) (h : hdD q < laD q) (h' : hdD q' < laD q') : q = q' := by
  have hd : hdD q = hdD q' := by
    have e1 := (mem_end pm' nd' (by omega) (hdD q)).mp ((mem_end pm nd l2 (hdD q)).mpr (.inl rfl))
    have e2 := (mem_end pm nd l2 (hdD q')).mp ((mem_end pm' nd' (by omega) (hdD q')).mpr (.inl rfl))
    omega
  have go : ∀ k, k < q.length → q.take (k + 1) = q'.take (k + 1) ∧ q.getD k 0 = q'.getD k 0 := fun k => by
    induction k with
    | zero =>
      intro hk
      refine ⟨?_, hd⟩
      rw [take_succ_gd hk, take_succ_gd (by omega), List.take_zero, List.take_zero, show q.getD 0 0 = q'.getD 0 0 from hd]
    | succ k ih =>
      intro hk
      obtain ⟨e1, e2⟩ := ih (by omega)
      have f1 := further pm nd (k := k) hk
      have f2 := further pm' nd' (k := k) (by omega)
      rw [e1, e2, f2] at f1
      have e3 : q.getD (k + 1) 0 = q'.getD (k + 1) 0 := by
        have := List.cons.inj f1
        exact this.1.symm
      refine ⟨?_, e3⟩
      rw [take_succ_gd hk, take_succ_gd (q := q') (by omega), e1, e3]
  have := (go (q.length - 1) (by omega)).1
  rw [show q.length - 1 + 1 = q.length by omega, List.take_length] at this
  rw [this, ← len, List.take_length]
/-- the other way round -/
theorem gd_rev {q : List Int} {i : Nat} (hi : i < q.length) : q.reverse.getD i 0 = q.getD (q.length - 1 - i) 0 := by
  rw [List.getD_eq_getElem?_getD, List.getD_eq_getElem?_getD, List.getElem?_reverse hi]
theorem pe_rev {q : List Int} (nd : q.Nodup) : (pe q.reverse).Perm (pe q) := by
  refine (List.perm_ext_iff_of_nodup (pe_nodup ((List.reverse_perm q).nodup_iff.mpr nd)) (pe_nodup nd)).mpr fun d => ?_
  rw [mem_pe, mem_pe, List.length_reverse]
  constructor
  · rintro ⟨i, hi, rfl⟩
    refine ⟨q.length - 2 - i, by omega, ?_⟩
    rw [gd_rev (by omega), gd_rev (by omega), mm2_swap]
    congr 2
    · congr 1; omega
    · congr 1; omega
  · rintro ⟨i, hi, rfl⟩
    refine ⟨q.length - 2 - i, by omega, ?_⟩
    rw [gd_rev (by omega), gd_rev (by omega), mm2_swap]
    congr 2
    · congr 1; omega
    · congr 1; omega
theorem prt_rev {D : List Pr} {A B : List Cl} {q : List Int} (h : Prt D A B q) : Prt D A B q.reverse := by
  obtain ⟨⟨ne, nd, ch⟩, w⟩ := h
  have e : ∀ x, x ∈ q.reverse ↔ x ∈ q := fun x => List.mem_reverse
  refine ⟨⟨by simpa using ne, (List.reverse_perm q).nodup_iff.mpr nd, fun i hi => ?_⟩, by rw [wordP_congr e A, wordP_congr e B]; exact w⟩
  rw [List.length_reverse] at hi
  rw [gd_rev (by omega), gd_rev (by omega)]
  have := ch (q.length - 2 - i) (by omega)
  rw [show q.length - 2 - i + 1 = q.length - 1 - i by omega] at this
  rw [show q.length - 1 - (i + 1) = q.length - 2 - i by omega]
  exact this.elim .inr .inl
/-- turned so that it starts at the lesser end -/
theorem orient {D : List Pr} {A B : List Cl} {r : Nat} {q : List Int} (h : Prt D A B q) (inr : ∀ x ∈ q, 0 ≤ x ∧ x < (r : Int)) (l2 : 2 ≤ q.length) : ∃ q', Prt D A B q' ∧ (∀ x ∈ q', 0 ≤ x ∧ x < (r : Int)) ∧ (pe q').Perm (pe q) ∧ q'.length = q.length ∧ hdD q' < laD q' ∧ sle q' q := by
  have nd := h.1.2.1
  have ne : hdD q ≠ laD q := fun e => by
    have := gd_inj nd (i := 0) (j := q.length - 1) (by omega) (by omega) e
    omega
  by_cases c : hdD q < laD q
  · exact ⟨q, h, inr, .refl _, rfl, c, .inl rfl⟩
  · have h1 : hdD q.reverse = laD q := by
      unfold hdD laD
      rw [gd_rev (by omega), Nat.sub_zero]
    have h2 : laD q.reverse = hdD q := by
      unfold hdD laD
      rw [List.length_reverse, gd_rev (by omega)]
      congr 1
      omega
    refine ⟨q.reverse, prt_rev h, fun x hx => inr x (List.mem_reverse.mp hx), pe_rev nd, List.length_reverse, by omega, .inr (.inr ⟨List.length_reverse, ?_⟩)⟩
    have hh : ∀ (p p' : List Int), p ≠ [] → p' ≠ [] → hdD p < hdD p' → ltL p p' := fun p p' n n' l => by
      cases p with
      | nil => exact absurd rfl n
      | cons a s =>
        cases p' with
        | nil => exact absurd rfl n'
        | cons b t => exact Or.inl l
    exact hh _ _ (by simpa using h.1.1) h.1.1 (by omega)

/-! ### sorted of a tuple of ints -/
def rSortTup (K : PySem.W.Frag) : List V → Hp → VK → Prop := fun vs H Q => ∃ (a : Addr) (ns : List Int), vs = [V.ref a] ∧ (SqL K H a (ns.map V.int) ∨ SqT K H a (ns.map V.int)) ∧ ns.length < 64 ∧
  ∀ (ns' : List Int) (p : Addr), ns'.Perm ns → ns'.Pairwise (· ≤ ·) → H p = none → Q (.ref p) (upd H p (.lst (ns'.map V.int)))
theorem cr_sortTup {X : Cx} : CallR X (.builtin "sorted") (rSortTup X.K) := by
  intro pins s σ H vs us Q I r h
  obtain ⟨a, ns, rfl, hs, h64, q⟩ := h
  rcases hs with hs | hs
  · exact cr_sorted pins s σ H _ us Q I r ⟨a, ns, rfl, hs, h64, q⟩
  obtain ⟨its, rv, ⟨o, ho, hc, n, hd⟩, hz⟩ := I.tuple hs
  rw [Vals.ref1 r]
  have hi := rv.ints
  have il : its.length = ns.length := hi.length
  refine Calls.call_function_entry kind_sorted plain_sorted entry_sorted (args_sorted1 _) ?_
  unfold Builtin.«sorted»
  refine wpAny_bind (m := checkCount "sorted" 1 1 _) (wpAny_pure ?_)
  refine wpAny_bind (wpAny_collect_seq a (.inr rfl) ho hc hd (fun h' hk => ?_) (by rw [List.size_toArray, il]; exact small64 h64))
  rw [show its.toArray.toList = its by simp]
  have I1 : Inv X pins σ H { s with heap := h' } := I.kept (t' := s.toks) hk
  refine wpAny_bind (wpAny_newList ?_ (by rw [il]; exact small64 h64))
  have new : (h'.push (seqObj "list" its.toArray 0)).get? h'.objs.size = some (seqObj "list" its.toArray 0) := Heap.get?_push_size _ rfl
  refine wpAny_bind (wpAny_holding (wpAny_call_entry slot_list_sort ⟨_, new, rfl⟩ entry_list_sort (list_sort_tree (s := { s with heap := h'.push (seqObj "list" its.toArray 0) }) new hi (by rw [il]; exact h64) fun out ns' a1 a2 a3 => ⟨_, rfl, ?_⟩) (args_list_sort _)))
  obtain ⟨ep, he⟩ := sortedHeap_at (vs := its) (out := out) new
  have hlen : (ns'.map V.int).length ≤ sizeLine := by rw [List.length_map, a2.length_eq]; exact small64 h64
  refine wpAny_pure ⟨_, rfl, .ref h'.objs.size, upd H h'.objs.size (.lst (ns'.map V.int)), I1.laid (t' := s.toks) (fun b u e => ?_) (Nat.le_refl _) ⟨hlen, out.toList, ep, vals_of_ints a1, he⟩, rfl, q ns' _ a2 a3 (I1.hok.fresh (Nat.le_refl _))⟩
  have lt := Heap.lt_size e
  show (sortedHeap (h'.push (seqObj "list" its.toArray 0)) h'.objs.size its out).get? b = some u
  rw [sortedHeap_old (Nat.ne_of_lt lt) (by rw [size_push']; exact Nat.lt_succ_of_lt lt)]
  exact Heap.get?_push_of_some _ e

/-! ### _law_pieces, where the text has no pieces -/
def IsR (H : Hp) (v : V) (ys : List Int) : Prop := ∃ t, v = .ref t ∧ H t = some (.tup (ys.map V.int))
def RL (H : Hp) (vs : List V) (L : List (List Int)) : Prop := Paired (IsR H) vs L
theorem IsR.same {H H' : Hp} {v : V} {d : List Int} (h : IsR H v d) (k : KT H H') : IsR H' v d := by
  obtain ⟨t, e, h⟩ := h
  exact ⟨t, e, k _ _ h⟩
theorem RL.kt {H H' : Hp} {vs : List V} {D : List (List Int)} (h : RL H vs D) (k : KT H H') : RL H' vs D := Paired.mapP h fun _ _ q => q.same k
theorem RL.len {H : Hp} {vs : List V} {D : List (List Int)} (h : RL H vs D) : vs.length = D.length := Paired.length h
theorem RL.nil0 (H : Hp) : RL H [] [] := Paired.nil
theorem RL.snoc {H : Hp} {vs : List V} {D : List (List Int)} {v : V} {d : List Int} (h : RL H vs D) (q : IsR H v d) : RL H (vs ++ [v]) (D ++ [d]) := Paired.snoc h q
section
variable {P : Program} {w : World} {K : PySem.W.Frag} {mg : Str → Option Value} {base : Heap}
theorem scLpc : FnScope ["doors", "rooms", "found", "done", "room", "piece"] ["doors", "rooms"] (defScope sLpc) := ⟨rfl, rfl, rfl, by decide +kernel, rfl, by decide +kernel, by decide +kernel⟩
def spLpc (K : PySem.W.Frag) : Sp := fun vs H Q _ => ∃ (l o : Addr) (us : List V) (D : List Pr) (R : List Int), vs = [.ref l, .ref o] ∧ H l = some (.lst us) ∧ PL H us D ∧ SeqI K H o R ∧ R.length < 64 ∧ (∀ x ∈ R, 0 ≤ x) ∧
  ∀ (L : List (List Int)) (ws : List V) (t : Addr) (H' : Hp), Pcs D R L → Same H H' → H t = none → H' t = some (.lst ws) → RL H' ws L → Q (.ref t) H'
theorem ok_lpc {f fR : Addr} {fd fdR : FuncData} (F : Fun K "_law_pieces" "_law_pieces" sLpc f fd) (T : Bi mg) (d__law_reach : Df P w K mg base "_law_reach" ["doors", "start", "inside"] 1 (spLre K) fR fdR) : FnOk P w K mg base CX0 2 f fd ["doors", "rooms"] (spLpc K) := by
  refine F.ok scLpc (fun vs H Q E h => ?_) (fun cdv A outer s0 H vs Q E hr h => ?_)
  · obtain ⟨l, o, us, D, R, rfl, _⟩ := h
    rfl
  · obtain ⟨l, o, us, D, R, rfl, hl, pl, ho, h64, hR, ret⟩ := h
    refine ⟨_, (pss_cons (ps_set (i := 2) scLpc.nd rfl (Or.inl rfl) (pe_lst pa_nil))
      (pss_cons (ps_set (i := 3) scLpc.nd rfl (Or.inl rfl) (pe_lst pa_nil))
      (pss_cons (ps_for PassesOwn.never rfl (pi_list (pe_callB cr_sortTup (by rfl) T.sorted (by decide +kernel) (pa_cons (pv 1) pa_nil))) (pg_name (i := 4) scLpc.nd rfl (Or.inl rfl))
      (pss_one (ps_if (pt_cmpR op_notIn_seq (pv 4) (pv 3) (by rfl))
        (pss_cons (ps_set (i := 5) scLpc.nd rfl (Or.inl rfl) (pe_call d__law_reach.ok (hr.mono (by decide)) (by rfl) d__law_reach.at_ d__law_reach.kp d__law_reach.b .nil pass0 (pa_cons (pv 0) (pa_cons (pv 4) (pa_cons (pv 1) pa_nil)))))
          (pss_cons (ps_expr (pe_bm PySem.F.plainAttrs_list PySem.F.slot_list_extend PySem.F.type_list_extend mt_extend (pv 3) (pa_cons (pv 5) pa_nil)))
          (pss_one (ps_expr (pe_bm PySem.F.plainAttrs_list PySem.F.slot_list_append PySem.F.type_list_append mt_append (pv 2) (pa_cons (pe_callTy call_tuple_of (by rfl) T.tuple (by decide +kernel) (pa_cons (pv 5) pa_nil)) pa_nil))))))
        pss_nil)))
      (pss_one (ps_ret (pv 2)))))), ?_⟩
    walk_at "rd"
    refine ⟨Nat.zero_le _, fun fnd nf => ⟨Nat.zero_le _, fun dn nd => ?_⟩⟩
    have s1 : Same H (upd (upd H fnd (HO.lst [])) dn (HO.lst [])) := (same_upd nf).trans (same_upd nd)
    have hf1 : upd (upd H fnd (HO.lst [])) dn (HO.lst []) fnd = some (.lst []) := same_upd nd _ _ upd_same
    have hd1 : upd (upd H fnd (HO.lst [])) dn (HO.lst []) dn = some (.lst []) := upd_same
    have nd0 : H dn = none := (same_upd nf).free nd
    have nfd : fnd ≠ dn := ne_of_none upd_same nd
    generalize upd (upd H fnd (HO.lst [])) dn (HO.lst []) = H1 at s1 hf1 hd1
    refine for_iterW ?_
    walk_at "rd"
    refine ⟨o, R, rfl, ho.same s1, h64, fun S lf0 pS sS nl0 => ?_⟩
    have s2 := s1.trans (same_upd (o := HO.lst (S.map V.int)) nl0)
    have hf2 : upd H1 lf0 (HO.lst (S.map V.int)) fnd = some (.lst []) := same_upd nl0 _ _ hf1
    have hd2 : upd H1 lf0 (HO.lst (S.map V.int)) dn = some (.lst []) := same_upd nl0 _ _ hd1
    have hS2 : upd H1 lf0 (HO.lst (S.map V.int)) lf0 = some (.lst (S.map V.int)) := upd_same
    have nlf : fnd ≠ lf0 := ne_of_none hf1 nl0
    have nld : dn ≠ lf0 := ne_of_none hd1 nl0
    generalize upd H1 lf0 (HO.lst (S.map V.int)) = H2 at s2 hf2 hd2 hS2
    have sl : S.length < 64 := by rw [pS.length_eq]; exact h64
    have smm : ∀ x, x ∈ S ↔ x ∈ R := fun x => pS.mem_iff
    obtain ⟨Pv, hPv⟩ : ∃ Pv : Nat → L2.St → Hp → Prop, Pv = (fun j σ H' => ∃ (L : List (List Int)) (ws : List V) (dd : List Int) (v4 v5 : Option V), σ = [some (.ref l), some (.ref o), some (.ref fnd), some (.ref dn), v4, v5] ∧ Same H H' ∧ H' fnd = some (.lst ws) ∧ RL H' ws L ∧ H' dn = some (.lst (dd.map V.int)) ∧ H' lf0 = some (.lst (S.map V.int)) ∧ LInv D R S j L dd ∧ L.length ≤ j ∧ dd.length ≤ 64 * j) := ⟨_, rfl⟩
    refine ⟨lf0, rfl, ⟨_, SqL.of hS2⟩, for_list (K := K) (a := lf0) (xs := S.map V.int) Pv (by rw [hPv]; exact ⟨[], [], [], none, none, rfl, s2, hf2, RL.nil0 _, hd2, hS2, LInv.start D R S, Nat.le_refl _, Nat.zero_le _⟩) (fun j σ H' _ pv => by rw [hPv] at pv; obtain ⟨_, _, _, _, _, _, _, _, _, _, hS, _⟩ := pv; exact SqL.of hS) (fun j v σ H3 gv pv => ?body) (fun σ H3 pv => ?done)⟩
    case done =>
      rw [hPv] at pv
      obtain ⟨L, ws, dd, v4, v5, rfl, sm, hf, rl, hd, hS, li, _, _⟩ := pv
      rw [List.length_map] at li
      walk_at "rd"
      exact ret L ws fnd H3 (li.fin smm) sm nf hf rl
    case body =>
      have nxt : ∀ (L : List (List Int)) (ws : List V) (dd : List Int) (v4 v5 : Option V) (H' : Hp), Same H H' → H' fnd = some (.lst ws) → RL H' ws L → H' dn = some (.lst (dd.map V.int)) → H' lf0 = some (.lst (S.map V.int)) → LInv D R S (j + 1) L dd → L.length ≤ j + 1 → dd.length ≤ 64 * (j + 1) → Pv (j + 1) [some (.ref l), some (.ref o), some (.ref fnd), some (.ref dn), v4, v5] H' := fun L ws dd v4 v5 H' h1 h2 h3 h4 h5 h6 h7 h8 => by
        rw [hPv]
        exact ⟨L, ws, dd, v4, v5, rfl, h1, h2, h3, h4, h5, h6, h7, h8⟩
      rw [hPv] at pv
      obtain ⟨L, ws, dd, v4, v5, rfl, sm, hf, rl, hd, hS, li, ll, dl⟩ := pv
      rw [List.getElem?_map] at gv
      cases gd : S[j]? with
      | none => rw [gd] at gv; cases gv
      | some x =>
        rw [gd] at gv
        have ev := Option.some.inj gv
        subst ev
        have hj : j < S.length := (List.getElem?_eq_some_iff.mp gd).1
        walk_at "rd"
        refine ⟨dn, _, rfl, .inl (SqL.of hd), rfl, flI _, ?_⟩
        rw [inI]
        refine ⟨_, rfl, ?_⟩
        by_cases m : x ∈ dd
        · rw [decide_eq_true m]
          refine iteF ?_
          exact nxt L ws dd _ _ H3 sm hf rl hd hS (li.skip gd m) (by omega) (by omega)
        · rw [decide_eq_false m]
          refine iteT ?_
          refine ⟨l, o, x, us, D, R, rfl, sm _ _ hl, pl.kt (KT.same sm), ho.same sm, h64, hR, fun ys t H4 pc s4 nt ht => ?_⟩
          walk_at "rd"
          have yl : ys.length ≤ R.length := int_sub_len (List.Pairwise.imp (fun h => by omega) pc.1) (fun y hy => ((pc.2 y).mp hy).mem) hR
          have hd4 := s4 _ _ hd
          have hf4 := s4 _ _ hf
          have hS4 := s4 _ _ hS
          have rl4 := rl.kt (KT.same s4)
          have s04 := sm.trans s4
          have tdn : t ≠ dn := (ne_of_none hd nt).symm
          have nd0' := nd0
          refine ⟨.inl ⟨rfl, _, SqL.of hd4⟩, _, hd4, _, ht, Nat.le_of_lt (len_big (by rw [List.length_map, List.length_map]; omega)), ?_⟩
          have s5 := same_ch (o := HO.lst (dd.map V.int ++ ys.map V.int)) s04 nd0
          have hf5 : upd H4 dn (HO.lst (dd.map V.int ++ ys.map V.int)) fnd = some (.lst ws) := by rw [upd_ne nfd]; exact hf4
          have ht5 : upd H4 dn (HO.lst (dd.map V.int ++ ys.map V.int)) t = some (.lst (ys.map V.int)) := by rw [upd_ne tdn]; exact ht
          have hS5 : upd H4 dn (HO.lst (dd.map V.int ++ ys.map V.int)) lf0 = some (.lst (S.map V.int)) := by rw [upd_ne nld.symm]; exact hS4
          have hd5 : upd H4 dn (HO.lst (dd.map V.int ++ ys.map V.int)) dn = some (.lst ((dd ++ ys).map V.int)) := by rw [upd_same, List.map_append]
          have rl5 : RL (upd H4 dn (HO.lst (dd.map V.int ++ ys.map V.int))) ws L := rl4.kt (KT.lst hd4)
          generalize upd H4 dn (HO.lst (dd.map V.int ++ ys.map V.int)) = H5 at s5 hf5 ht5 hS5 hd5 rl5
          refine ⟨.inl ⟨rfl, _, SqL.of hf5⟩, _, .inl ⟨SqL.of ht5, fun t2 nt2 => ?_⟩⟩
          have s6 := s5.trans (same_upd (o := HO.tup (ys.map V.int)) nt2)
          have hf6 : upd H5 t2 (HO.tup (ys.map V.int)) fnd = some (.lst ws) := same_upd nt2 _ _ hf5
          have ht6 : upd H5 t2 (HO.tup (ys.map V.int)) t2 = some (.tup (ys.map V.int)) := upd_same
          refine ⟨ws, hf6, len_big (by rw [rl.len]; omega), nxt (L ++ [ys]) (ws ++ [.ref t2]) (dd ++ ys) _ _ _ (same_ch s6 nf) upd_same ?_ ?_ ?_ (li.step gd smm sS m pc) (by rw [List.length_append]; show L.length + 1 ≤ j + 1; omega) (by rw [List.length_append]; omega)⟩
          · exact RL.snoc ((rl5.kt (KT.new nt2)).kt (KT.lst hf6)) ⟨t2, rfl, by rw [upd_ne (ne_of ht6 hf6 (by intro z; cases z))]; exact ht6⟩
          · rw [upd_ne nfd.symm]
            exact same_upd nt2 _ _ hd5
          · rw [upd_ne nlf.symm]
            exact same_upd nt2 _ _ hS5
end

/-! ### k21: _law_kept, _law_unlike, _law_path_doors -/
abbrev sKpt : Stmt := topS 40
abbrev sUnl : Stmt := topS 44
abbrev sPdo : Stmt := topS 41
theorem fm_if {α : Type} (p : α → Bool) : ∀ l : List α, l.filterMap (fun x => if p x = true then some x else none) = l.filter p
  | [] => rfl
  | a :: l => by
    rw [List.filterMap_cons, fm_if p l]
    by_cases c : p a = true
    · rw [if_pos c, List.filter_cons_of_pos c]
    · rw [if_neg c, List.filter_cons_of_neg c]
theorem lc_filtR {p : Int → Bool} {n i : Nat} {tt : TT} {σ : L2.St} {H1 : Hp} {Q : VK} (len : n ≤ 100000) (hi : i < σ.length)
    (step : ∀ (x : Int) (Hx : Hp) (B : Bool → Hp → Prop), x ∈ rg n → Same H1 Hx → B (p x) Hx → tt (σ.set i (some (.int x))) Hx B)
    (q : ∀ o H', Same H1 H' → H1 o = none → H' o = some (.lst (((rg n).filter p).map V.int)) → Q (.ref o) H') :
    tLc (fun _ H R => R (Itr 0 n) H) (gName i) tt (tVar i) [i] σ H1 Q := by
  refine gc_range IsI (fun _ _ _ _ h _ => h) (fun j => if p (j : Int) = true then some (j : Int) else none) len (fun j Hx A B jl sx hA hB => ?_) (fun o ys H' s no ho pr => ?_)
  · rw [Int.zero_add]
    refine step _ Hx _ (List.mem_map.mpr ⟨j, List.mem_range.mpr jl, rfl⟩) sx ?_
    by_cases c : p (j : Int) = true
    · rw [if_pos c]
      exact ⟨_, by rw [List.getElem?_set_self hi], hA _ _ Hx (if_pos c) (Same.refl _) rfl⟩
    · rw [if_neg c]
      exact hB Hx (if_neg c) (Same.refl _)
  · refine q o H' s no ?_
    have e := isI_map pr
    rw [fm_rg n (fun x => if p x = true then some x else none), fm_if] at e
    rw [e] at ho
    exact ho
theorem sm_none {H H1 : Hp} {t : Addr} (s : Same H H1) (n : H1 t = none) : H t = none := by
  cases e : H t with
  | none => rfl
  | some o =>
    rw [s _ _ e] at n
    cases n
theorem rg_mem3 {r : Nat} {x : Int} (h : x ∈ rg r) : 0 ≤ x ∧ x < (r : Int) := by
  obtain ⟨j, hj, rfl⟩ := List.mem_map.mp h
  have := List.mem_range.mp hj
  show 0 ≤ ((j : Nat) : Int) ∧ ((j : Nat) : Int) < (r : Int)
  omega
theorem rg_at {r : Nat} {g : Int → V} {i : Nat} (h : i < r) : ((rg r).map g)[i]? = some (g (i : Int)) := by
  unfold rg
  rw [List.getElem?_map, List.getElem?_map, List.getElem?_range h]
  rfl
theorem rg_set {r : Nat} {g : Int → V} {y : Int} {v : V} (h0 : 0 ≤ y) (h1 : y < r) : ((rg r).map g).set y.toNat v = (rg r).map fun x => if x = y then v else g x := by
  refine List.ext_getElem? fun n => ?_
  by_cases hn : n < r
  · rw [rg_at hn]
    by_cases e : y.toNat = n
    · subst e
      rw [List.getElem?_set_self (by rw [List.length_map, rg_len]; exact hn), if_pos (by omega)]
    · rw [List.getElem?_set_ne e, rg_at hn, if_neg (by omega)]
  · rw [List.getElem?_eq_none (by rw [List.length_set, List.length_map, rg_len]; omega), List.getElem?_eq_none (by rw [List.length_map, rg_len]; omega)]
section
variable {P : Program} {w : World} {K : PySem.W.Frag} {mg : Str → Option Value} {base : Heap}
theorem scKpt : FnScope ["areas", "rooms", "log", "r", "words", "call", "area"] ["areas", "rooms", "log"] (defScope sKpt) := ⟨rfl, rfl, rfl, by decide +kernel, rfl, by decide +kernel, by decide +kernel⟩
def spKpt : Sp := fun vs H Q _ => ∃ (a l : Addr) (ws us : List V) (r : Nat) (O : List Pr) (Ar : List (List Int)) (L : List Cl), vs = [.ref a, .int r, .ref l] ∧ H a = some (.lst ws) ∧ RL H ws Ar ∧ Pcs O (rg r) Ar ∧ H l = some (.lst us) ∧ LG H us L ∧ InR r L ∧ r ≤ 12 ∧
  ∀ t H', Same H H' → H t = none → H' t = some (.lst ((rg r).map fun x => optS (wordP L (areaF r O x)))) → Q (.ref t) H'
theorem ok_kpt {f : Addr} {fd : FuncData} (F : Fun K "_law_kept" "_law_kept" sKpt f fd) (T : Bi mg) : FnOk P w K mg base CX0 1 f fd ["areas", "rooms", "log"] spKpt := by
  refine F.ok scKpt (fun vs H Q E h => ?_) (fun cdv A0 outer s H vs Q E hr h => ?_)
  · obtain ⟨a, l, ws, us, r, O, Ar, L, rfl, _⟩ := h
    rfl
  · obtain ⟨a, l, ws, us, r, O, Ar, L, rfl, ha, rl, pcs, hl, lg, inr, r12, ret⟩ := h
    refine ⟨_, (pss_cons (ps_setLc (i := 4) (own := [("r", 3)]) (te := (tC .non)) (by rfl) scKpt.nd rfl rfl (sw_true rfl rfl rfl (by decide +kernel)) (pi_range1 (by rfl) T.range (pa_cons (pv 1) pa_nil)) (blkOk_by (N := ["areas", "rooms", "log", "r", "words", "call", "area"]) (sc := defScope sKpt) (by decide +kernel)) (fun _ _ _ _ _ => pg_name (i := 3) scKpt.nd rfl (Or.inl rfl)) (fun _ _ _ _ _ => pts_nil) (fun _ _ _ _ _ => pe_non))
      (pss_cons (ps_for PassesOwn.never rfl (pi_list (pv 2)) (pg_name (i := 5) scKpt.nd rfl (Or.inl rfl))
      (pss_one (ps_for PassesOwn.never rfl (pi_list (pv 0)) (pg_name (i := 6) scKpt.nd rfl (Or.inl rfl))
        (pss_one (ps_if (pt_cmpR op_in_seq (pe_ix ix_tup (pv 5) pe_int (fun _ _ => rfl)) (pv 6) (by rfl))
          (pss_one (ps_for PassesOwn.never rfl (pi_tup (pv 6)) (pg_name (i := 3) scKpt.nd rfl (Or.inl rfl))
            (pss_one (ps_asg (pe_ix ix_tup (pv 5) pe_int (fun _ _ => rfl)) (pg_sub (pv 4) (pv 3) set_list)))))
          pss_nil)))))
      (pss_one (ps_ret (pv 4))))), ?_⟩
    walk_at "rd"
    refine lcW ?_
    walk_at "rd"
    refine ⟨by omega, by omega, ?_⟩
    rw [Int.toNat_natCast]
    refine gc_range (fun _ v (_ : Unit) => v = V.non) (fun _ _ _ _ h _ => h) (fun _ => some ()) (by omega) (fun j Hy A B jl sy hA hB => ?_) fun c ys H0 s0 n0 h0 p0 => ?_
    · walk_at "rd"
      rw [if_pos trivial]
      exact hA _ _ _ rfl (Same.refl _) rfl
    have e0 : ys = (rg r).map fun x => optS (wordP (L.take 0) (areaF r O x)) := by
      have e1 : ys.length = r := by
        rw [p0.length]
        show (List.filterMap (some ∘ fun _ => ()) (List.range r)).length = r
        rw [List.filterMap_eq_map, List.length_map, List.length_range]
      have e2 : ∀ v ∈ ys, v = V.non := fun v hv => by
        obtain ⟨i, hi, e⟩ := List.getElem_of_mem hv
        obtain ⟨_, _, e3⟩ := pget p0 (by rw [List.getElem?_eq_getElem hi, e])
        exact e3
      refine List.ext_getElem? fun n => ?_
      by_cases hn : n < r
      · rw [rg_at hn, List.getElem?_eq_getElem (by omega), e2 _ (List.getElem_mem _)]
        rfl
      · rw [List.getElem?_eq_none (by omega), List.getElem?_eq_none (by rw [List.length_map, rg_len]; omega)]
    rw [e0] at h0
    clear e0 p0
    refine for_iterW ?_
    walk_at "rd"
    obtain ⟨Pv, hPv⟩ : ∃ Pv : Nat → L2.St → Hp → Prop, Pv = (fun i σ H' => ∃ (v5 v6 v3 : Option V), σ = [some (.ref a), some (.int r), some (.ref l), v3, some (.ref c), v5, v6] ∧ Same H H' ∧ H' c = some (.lst ((rg r).map fun x => optS (wordP (L.take i) (areaF r O x))))) := ⟨_, rfl⟩
    refine ⟨⟨_, SqL.of (s0 _ _ hl)⟩, for_list (xs := us) Pv (by rw [hPv]; exact ⟨none, none, none, rfl, s0, h0⟩) (fun i σ H' _ pv => by rw [hPv] at pv; obtain ⟨_, _, _, _, sm, _⟩ := pv; exact SqL.of (sm _ _ hl)) (fun i x σ H' gx pv => ?_) (fun σ H' pv => ?_)⟩
    · rw [hPv] at pv
      obtain ⟨v5, v6, v3, rfl, sm, hc⟩ := pv
      obtain ⟨d, gd, td, rfl, htd⟩ := pget lg gx
      have hd := inr d (List.mem_of_getElem? gd)
      refine for_iterW ?_
      walk_at "rd"
      obtain ⟨Pw, hPw⟩ : ∃ Pw : Nat → L2.St → Hp → Prop, Pw = (fun j σ H' => ∃ (v6 v3 : Option V) (g : Int → V), σ = [some (.ref a), some (.int r), some (.ref l), v3, some (.ref c), some (.ref td), v6] ∧ Same H H' ∧ H' c = some (.lst ((rg r).map g)) ∧ ∀ x ∈ rg r, g x = optS (if ∃ ys ∈ Ar.take j, d.1 ∈ ys ∧ x ∈ ys then some d.2 else wordP (L.take i) (areaF r O x))) := ⟨_, rfl⟩
      refine ⟨⟨_, SqL.of (sm _ _ ha)⟩, for_list (xs := ws) Pw (by rw [hPw]; exact ⟨v6, v3, _, rfl, sm, hc, fun x hx => by rw [if_neg (by simp)]⟩) (fun i σ H' _ pw => by rw [hPw] at pw; obtain ⟨_, _, _, _, sm, _⟩ := pw; exact SqL.of (sm _ _ ha)) (fun j y σ H' gy pw => ?_) (fun σ H' pw => ?_)⟩
      · rw [hPw] at pw
        obtain ⟨v6, v3, g, rfl, sm, hc, hg⟩ := pw
        obtain ⟨zs, gz, tz, rfl, htz⟩ := pget rl gy
        have htd1 := sm _ _ htd
        have htz1 := sm _ _ htz
        have zin : ∀ z ∈ zs, 0 ≤ z ∧ z < (r : Int) := fun z hz => rg_mem3 (pcs.sub_of (List.mem_of_getElem? gz) z hz)
        have tk : Ar.take (j + 1) = Ar.take j ++ [zs] := by rw [List.take_add_one, gz]; rfl
        walk_at "rd"
        refine ⟨_, SqT.of htd1, _, atI_nat (j := 0) rfl, ⟨tz, zs.map V.int, rfl, .inr (SqT.of htz1), rfl, flI zs, ?_⟩⟩
        rw [inI]
        refine ⟨_, rfl, ?_⟩
        by_cases m : d.1 ∈ zs
        · rw [if_pos (show (if false = true then !decide (d.1 ∈ zs) else decide (d.1 ∈ zs)) = true by simpa using m)]
          refine for_iterW ?_
          walk_at "rd"
          obtain ⟨Px, hPx⟩ : ∃ Px : Nat → L2.St → Hp → Prop, Px = (fun k σ H' => ∃ (v3 : Option V) (g' : Int → V), σ = [some (.ref a), some (.int r), some (.ref l), v3, some (.ref c), some (.ref td), some (.ref tz)] ∧ Same H H' ∧ H' c = some (.lst ((rg r).map g')) ∧ ∀ x, g' x = if x ∈ zs.take k then V.str d.2 else g x) := ⟨_, rfl⟩
          refine ⟨_, rfl, tz, rfl, ⟨_, SqT.of htz1⟩, for_tup (K := K) (a := tz) (xs := zs.map V.int) Px (by rw [hPx]; exact ⟨_, g, rfl, sm, hc, fun x => by simp⟩) (fun i σ H' _ px => by rw [hPx] at px; obtain ⟨_, _, _, sm, _⟩ := px; exact SqT.of (sm _ _ htz)) (fun k y σ H' gk px => ?_) (fun σ H' px => ?_)⟩
          · rw [hPx] at px
            obtain ⟨v3, g', rfl, sm, hc, hg'⟩ := px
            obtain ⟨z, gzk, rfl⟩ : ∃ z, zs[k]? = some z ∧ V.int z = y := by
              rw [List.getElem?_map] at gk
              cases e : zs[k]? with
              | none => rw [e] at gk; cases gk
              | some z => rw [e] at gk; exact ⟨z, rfl, Option.some.inj gk⟩
            have zb := zin z (List.mem_of_getElem? gzk)
            walk_at "rd"
            have lenR : ((rg r).map g').length = r := by rw [List.length_map, rg_len]
            refine ⟨_, SqT.of (sm _ _ htd), _, atI_nat (j := 1) rfl, _, hc, z.toNat, (by unfold ixN; rw [if_pos zb.1, if_pos (by rw [lenR]; exact zb.2)]), ?_⟩
            rw [hPx]
            refine ⟨_, _, rfl, same_ch sm n0, by rw [upd_same, rg_set zb.1 zb.2], fun x => ?_⟩
            show (if x = z then V.str d.2 else g' x) = _
            rw [hg' x, List.take_add_one, gzk]
            show _ = if x ∈ zs.take k ++ [z] then V.str d.2 else g x
            by_cases e : x = z
            · rw [if_pos e, if_pos (List.mem_append_right _ (List.mem_singleton.mpr e))]
            · rw [if_neg e]
              by_cases e2 : x ∈ zs.take k
              · rw [if_pos e2, if_pos (List.mem_append_left _ e2)]
              · rw [if_neg e2, if_neg (fun z => (List.mem_append.mp z).elim e2 fun w => e (List.mem_singleton.mp w))]
          · rw [hPx] at px
            obtain ⟨v3, g', rfl, sm, hc, hg'⟩ := px
            rw [List.length_map, List.take_length] at hg'
            rw [hPw]
            refine ⟨_, _, g', rfl, sm, hc, fun x hx => ?_⟩
            rw [hg' x, tk]
            by_cases mx : x ∈ zs
            · rw [if_pos mx, if_pos ⟨zs, List.mem_append_right _ (List.mem_singleton.mpr rfl), m, mx⟩]
              rfl
            · rw [if_neg mx, hg x hx]
              congr 1
              have e : (∃ ys ∈ Ar.take j ++ [zs], d.1 ∈ ys ∧ x ∈ ys) ↔ ∃ ys ∈ Ar.take j, d.1 ∈ ys ∧ x ∈ ys := by
                constructor
                · rintro ⟨ys, hy, h⟩
                  rcases List.mem_append.mp hy with z | z
                  · exact ⟨ys, z, h⟩
                  · rw [List.mem_singleton.mp z] at h
                    exact absurd h.2 mx
                · rintro ⟨ys, hy, h⟩
                  exact ⟨ys, List.mem_append_left _ hy, h⟩
              by_cases c3 : ∃ ys ∈ Ar.take j, d.1 ∈ ys ∧ x ∈ ys
              · rw [if_pos c3, if_pos (e.mpr c3)]
              · rw [if_neg c3, if_neg (fun z => c3 (e.mp z))]
        · rw [if_neg (show ¬ (if false = true then !decide (d.1 ∈ zs) else decide (d.1 ∈ zs)) = true by simpa using m), hPw]
          refine ⟨_, _, g, rfl, sm, hc, fun x hx => ?_⟩
          rw [hg x hx, tk]
          congr 1
          have e : (∃ ys ∈ Ar.take j ++ [zs], d.1 ∈ ys ∧ x ∈ ys) ↔ ∃ ys ∈ Ar.take j, d.1 ∈ ys ∧ x ∈ ys := by
            constructor
            · rintro ⟨ys, hy, h⟩
              rcases List.mem_append.mp hy with z | z
              · exact ⟨ys, z, h⟩
              · rw [List.mem_singleton.mp z] at h
                exact absurd h.1 m
            · rintro ⟨ys, hy, h⟩
              exact ⟨ys, List.mem_append_left _ hy, h⟩
          by_cases c3 : ∃ ys ∈ Ar.take j, d.1 ∈ ys ∧ x ∈ ys
          · rw [if_pos c3, if_pos (e.mpr c3)]
          · rw [if_neg c3, if_neg (fun z => c3 (e.mp z))]
      · rw [hPw] at pw
        obtain ⟨v6, v3, g, rfl, sm, hc, hg⟩ := pw
        rw [rl.len, List.take_length] at hg
        rw [hPv]
        refine ⟨_, _, _, rfl, sm, ?_⟩
        rw [hc]
        congr 2
        refine List.map_congr_left fun x hx => ?_
        rw [hg x hx, List.take_add_one, gd]
        show optS _ = optS (wordP (L.take i ++ [d]) (areaF r O x))
        rw [wordP_snoc]
        congr 1
        have e : (∃ ys ∈ Ar, d.1 ∈ ys ∧ x ∈ ys) ↔ d.1 ∈ areaF r O x := by
          rw [mem_area]
          constructor
          · rintro ⟨ys, hy, h1, h2⟩
            obtain ⟨s, _, pc⟩ := pcs.pc ys hy
            exact ((pc.2 x).mp h2).symm.trans ((pc.2 d.1).mp h1)
          · intro h
            obtain ⟨ys, hy, h2⟩ := pcs.cov x hx
            obtain ⟨s, _, pc⟩ := pcs.pc ys hy
            exact ⟨ys, hy, (pc.2 d.1).mpr (((pc.2 x).mp h2).trans h), h2⟩
        by_cases c3 : d.1 ∈ areaF r O x
        · rw [if_pos (e.mpr c3), if_pos c3]
        · rw [if_neg (fun z => c3 (e.mp z)), if_neg c3]
    · rw [hPv] at pv
      obtain ⟨v5, v6, v3, rfl, sm, hc⟩ := pv
      rw [lg.len, List.take_length] at hc
      walk_at "rd"
      exact ret c _ sm n0 hc
theorem scUnl : FnScope ["rooms", "logs", "opening", "areas", "one", "other", "r"] ["rooms", "logs", "opening"] (defScope sUnl) := ⟨rfl, rfl, rfl, by decide +kernel, rfl, by decide +kernel, by decide +kernel⟩
def spUnl : Sp := fun vs H Q _ => ∃ (lo l a b : Addr) (us u1 u2 : List V) (r : Nat) (O : List Pr) (A B : List Cl), vs = [.int r, .ref lo, .ref l] ∧ H lo = some (.lst [.ref a, .ref b]) ∧ H l = some (.lst us) ∧ PL H us O ∧ H a = some (.lst u1) ∧ LG H u1 A ∧ InR r A ∧ H b = some (.lst u2) ∧ LG H u2 B ∧ InR r B ∧ r ≤ 12 ∧
  ∀ t H', Same H H' → H t = none → H' t = some (.lst ((unlF r O A B).map V.int)) → Q (.ref t) H'
theorem ok_unl {f f1 f2 : Addr} {fd fd1 fd2 : FuncData} (F : Fun K "_law_unlike" "_law_unlike" sUnl f fd) (T : Bi mg) (d__law_pieces : Df P w K mg base "_law_pieces" ["doors", "rooms"] 2 (spLpc K) f1 fd1) (d__law_kept : Df P w K mg base "_law_kept" ["areas", "rooms", "log"] 1 spKpt f2 fd2) : FnOk P w K mg base CX0 3 f fd ["rooms", "logs", "opening"] spUnl := by
  refine F.ok scUnl (fun vs H Q E h => ?_) (fun cdv A0 outer s H vs Q E hr h => ?_)
  · obtain ⟨lo, l, a, b, us, u1, u2, r, O, A, B, rfl, _⟩ := h
    rfl
  · obtain ⟨lo, l, a, b, us, u1, u2, r, O, A, B, rfl, hlo, hl, pl, ha, la, iA, hb, lb, iB, r12, ret⟩ := h
    refine ⟨_, (pss_cons (ps_set (i := 3) scUnl.nd rfl (Or.inl rfl) (pe_call d__law_pieces.ok (hr.mono (by decide)) (by rfl) d__law_pieces.at_ d__law_pieces.kp d__law_pieces.b .nil pass0 (pa_cons (pv 2) (pa_cons (pe_listRg rfl (by rfl) T.list (prg_1 (by rfl) T.range (pv 0))) pa_nil))))
      (pss_cons (ps_set (i := 4) scUnl.nd rfl (Or.inr rfl) (pe_call d__law_kept.ok (hr.mono (by decide)) (by rfl) d__law_kept.at_ d__law_kept.kp d__law_kept.b .nil pass0 (pa_cons (pv 3) (pa_cons (pv 0) (pa_cons (pe_ix ix_list (pv 1) pe_int (fun _ _ => rfl)) pa_nil)))))
      (pss_cons (ps_set (i := 5) scUnl.nd rfl (Or.inr rfl) (pe_call d__law_kept.ok (hr.mono (by decide)) (by rfl) d__law_kept.at_ d__law_kept.kp d__law_kept.b .nil pass0 (pa_cons (pv 3) (pa_cons (pv 0) (pa_cons (pe_ix ix_list (pv 1) pe_int (fun _ _ => rfl)) pa_nil)))))
      (pss_one (ps_ret (pe_lc (own := [("r", 6)]) (tt := tTest (tOp rNe (tOp (rIxL K) (tVar 4) (tVar 6)) (tOp (rIxL K) (tVar 5) (tVar 6)))) (by rfl) scUnl.nd (pi_range1 (by rfl) T.range (pa_cons (pv 0) pa_nil)) (blkOk_by (N := ["rooms", "logs", "opening", "areas", "one", "other", "r"]) (sc := defScope sUnl) (by decide +kernel)) (fun _ _ _ _ _ => pg_name (i := 6) scUnl.nd rfl (Or.inl rfl)) (fun _ _ _ _ _ => (pts_one (pt_cmpR op_ne (pe_ix ix_list (pv 4) (pv 6) (fun _ _ => rfl)) (pe_ix ix_list (pv 5) (pv 6) (fun _ _ => rfl)) (nomark _)))) (fun _ _ _ _ _ => (pv 6)))))))), ?_⟩
    walk_at "rd"
    refine ⟨RgOk.of_le (by omega) (by omega) (by omega) (by omega), fun ev nev => ?_⟩
    rw [rgV_rg]
    have s0 := same_upd (o := HO.lst ((rg r).map V.int)) nev
    have hev := upd_same (H := H) (a := ev) (o := HO.lst ((rg r).map V.int))
    generalize upd H ev (HO.lst ((rg r).map V.int)) = H0 at s0 hev ⊢
    refine ⟨l, ev, us, O, rg r, rfl, s0 _ _ hl, pl.kt (KT.same s0), .inl (SqL.of hev), by rw [rg_len]; omega, fun x hx => (rg_mem3 hx).1, fun Ar ws t1 H1 pcs s1 n1 h1 rl => ?_⟩
    have s01 := s0.trans s1
    refine ⟨_, SqL.of (s01 _ _ hlo), _, atI_nat (j := 0) rfl, ?_⟩
    refine ⟨t1, a, ws, u1, r, O, Ar, A, rfl, h1, rl, pcs, s01 _ _ ha, la.kt (KT.same s01), iA, r12, fun t2 H2 s2 n2 h2 => ?_⟩
    have s02 := s01.trans s2
    refine ⟨_, SqL.of (s02 _ _ hlo), _, atI_nat (j := 1) rfl, ?_⟩
    refine ⟨t1, b, ws, u2, r, O, Ar, B, rfl, s2 _ _ h1, rl.kt (KT.same s2), pcs, s02 _ _ hb, lb.kt (KT.same s02), iB, r12, fun t3 H3 s3 n3 h3 => ?_⟩
    have s03 := s02.trans s3
    have h2 := s3 _ _ h2
    refine lcW ?_
    walk_at "rd"
    refine ⟨by omega, by omega, ?_⟩
    rw [Int.toNat_natCast]
    classical
    refine lc_filtR (p := fun x => decide (wordP A (areaF r O x) ≠ wordP B (areaF r O x))) (by omega) (by simp) (fun x Hx Y xm sx hY => ?_) fun t4 H4 s4 n4 h4 => ret t4 H4 (s03.trans s4) (sm_none s03 n4) (by rw [h4]; unfold unlF; congr 4)
    obtain ⟨j, hj, rfl⟩ := List.mem_map.mp xm
    have hj := List.mem_range.mp hj
    walk_at "rd"
    refine ⟨_, SqL.of (sx _ _ h2), _, atI_nat (rg_at hj), _, SqL.of (sx _ _ h3), _, atI_nat (rg_at hj), ?_⟩
    refine (show rNe _ _ Hx _ from ⟨optS_scal _ _, _, rfl, ?_⟩)
    have e : (!decide (optS (wordP A (areaF r O (j : Int))) = optS (wordP B (areaF r O (j : Int))))) = decide (wordP A (areaF r O (j : Int)) ≠ wordP B (areaF r O (j : Int))) := by
      by_cases c : wordP A (areaF r O (j : Int)) = wordP B (areaF r O (j : Int))
      · rw [c]; simp
      · rw [decide_eq_false (fun z => c (optS_inj z)), decide_eq_true c]; rfl
    rw [e]
    exact hY
theorem scPdo : FnScope ["path", "k"] ["path"] (defScope sPdo) := ⟨rfl, rfl, rfl, by decide +kernel, rfl, by decide +kernel, by decide +kernel⟩
def spPdo : Sp := fun vs H Q _ => ∃ (t : Addr) (q : List Int), vs = [.ref t] ∧ H t = some (.tup (q.map V.int)) ∧ q.Nodup ∧ q.length ≤ 20 ∧
  ∀ p ws E H', Same H H' → H p = none → H' p = some (.lst ws) → PL H' ws E → (∀ d, d ∈ E ↔ d ∈ pe q) → Q (.ref p) H'
theorem ok_pdo {f : Addr} {fd : FuncData} (F : Fun K "_law_path_doors" "_law_path_doors" sPdo f fd) (T : Bi mg) : FnOk P w K mg base CX0 1 f fd ["path"] spPdo := by
  refine F.ok scPdo (fun vs H Q E h => ?_) (fun cdv A0 outer s H vs Q E hr h => ?_)
  · obtain ⟨t, q, rfl, _⟩ := h
    rfl
  · obtain ⟨t, q, rfl, ht, nd, l20, ret⟩ := h
    refine ⟨_, (pss_one (ps_ret (pe_callB cr_sortedPO (by rfl) T.sorted (by decide +kernel) (pa_cons (pe_lc (own := [("k", 1)]) (te := tTup (tCons (tCB (fun xs H Q => ∃ i j, xs = [.int i, .int j] ∧ Q (.int (if j < i then j else i)) H) (tCons (tOp (rIxT K) (tVar 0) (tOp (rI0 fun i j => V.int (i - j)) (tVar 1) (tC (.int 1)))) (tCons (tOp (rIxT K) (tVar 0) (tVar 1)) tNil))) (tCons (tCB (fun xs H Q => ∃ i j, xs = [.int i, .int j] ∧ Q (.int (if j > i then j else i)) H) (tCons (tOp (rIxT K) (tVar 0) (tOp (rI0 fun i j => V.int (i - j)) (tVar 1) (tC (.int 1)))) (tCons (tOp (rIxT K) (tVar 0) (tVar 1)) tNil))) tNil))) (by rfl) scPdo.nd (pi_range2 (by rfl) T.range (pa_cons pe_int (pa_cons (pe_callB call_len_seq (by rfl) T.len (by decide +kernel) (pa_cons (pv 0) pa_nil)) pa_nil))) (blkOk_by (N := ["path", "k"]) (sc := defScope sPdo) (by decide +kernel)) (fun _ _ _ _ _ => pg_name (i := 1) scPdo.nd rfl (Or.inl rfl)) (fun _ _ _ _ _ => pts_nil) (fun _ _ _ _ _ => (pe_tup (pa_cons (pe_callB (call_min2 rfl) (by rfl) T.min (by decide +kernel) (pa_cons (pe_ix ix_tup (pv 0) (pe_op op_sub (pv 1) pe_int) (fun _ _ => rfl)) (pa_cons (pe_ix ix_tup (pv 0) (pv 1) (fun _ _ => rfl)) pa_nil))) (pa_cons (pe_callB (call_max2 rfl) (by rfl) T.max (by decide +kernel) (pa_cons (pe_ix ix_tup (pv 0) (pe_op op_sub (pv 1) pe_int) (fun _ _ => rfl)) (pa_cons (pe_ix ix_tup (pv 0) (pv 1) (fun _ _ => rfl)) pa_nil))) pa_nil))))) pa_nil)))), ?_⟩
    walk_at "rd"
    refine lcW ?_
    walk_at "rd"
    refine ⟨q.map V.int, .inr (SqT.of ht), ?_⟩
    rw [List.length_map]
    refine ⟨by decide, by decide, by omega, by omega, ?_⟩
    rw [show (((q.length : Nat) : Int) - 1).toNat = q.length - 1 by omega]
    refine gc_range IsP (fun _ _ _ _ h k => h.kt k) (fun j => some (mm2 (q.getD j 0, q.getD (j + 1) 0))) (by omega) (fun j Hy A B jl sy hA hB => ?_) fun o ys H1 s1 n1 h1 p1 => ?_
    · have hty := sy _ _ ht
      have g0 : (q.map V.int)[j]? = some (V.int (q.getD j 0)) := by rw [List.getElem?_map, List.getElem?_eq_getElem (by omega), List.getD_eq_getElem?_getD, List.getElem?_eq_getElem (by omega)]; rfl
      have g1 : (q.map V.int)[j + 1]? = some (V.int (q.getD (j + 1) 0)) := by rw [List.getElem?_map, List.getElem?_eq_getElem (by omega), List.getD_eq_getElem?_getD, List.getElem?_eq_getElem (by omega)]; rfl
      have e1 : (1 + ((j : Nat) : Int)) - 1 = ((j : Nat) : Int) := by omega
      have e2 : 1 + ((j : Nat) : Int) = ((j + 1 : Nat) : Int) := by omega
      walk_at "rd"
      rw [if_pos trivial, e1, e2]
      refine ⟨_, SqT.of hty, _, atI_nat g0, _, SqT.of hty, _, atI_nat g1, _, rfl, _, rfl, _, SqT.of hty, _, atI_nat g0, _, SqT.of hty, _, atI_nat g1, _, rfl, _, rfl, by decide, fun p0 np0 => hA _ _ _ rfl (same_upd np0) ⟨p0, rfl, ?_⟩⟩
      rw [upd_same]
      rfl
    · have e3 : (List.range (q.length - 1)).filterMap (fun j => some (mm2 (q.getD j 0, q.getD (j + 1) 0))) = pe q := by
        show List.filterMap (some ∘ fun j => mm2 (q.getD j 0, q.getD (j + 1) 0)) (List.range (q.length - 1)) = _
        rw [List.filterMap_eq_map]
        rfl
      rw [e3] at p1
      exact use_sortedP h1 p1 (pe_nodup nd) fun S zs p H' _ mem _ s2 n2 h2 pl2 => ret p zs S H' (s1.trans s2) (sm_none s1 n2) h2 pl2 mem
end

/-! ### k21: _law_along -/
abbrev sAlg : Stmt := topS 43
theorem lc_filtL {K : PySem.W.Frag} {a : Addr} {xs : List Int} {i : Nat} {tt : TT} {p : Int → Bool} {σ : L2.St} {H1 : Hp} {Q : VK} (ha : H1 a = some (.lst (xs.map V.int))) (len : xs.length ≤ 100000) (hi : i < σ.length)
    (step : ∀ (x : Int) (Hx : Hp) (B : Bool → Hp → Prop), x ∈ xs → Same H1 Hx → B (p x) Hx → tt (σ.set i (some (.int x))) Hx B)
    (q : ∀ o H', Same H1 H' → H1 o = none → H' o = some (.lst ((xs.filter p).map V.int)) → Q (.ref o) H') :
    tLc (fun _ H R => R (Itl K a) H) (gName i) tt (tVar i) [i] σ H1 Q := by
  refine gc_list IsI (fun _ _ _ _ h _ => h) (fun j => xs[j]?.bind fun x => if p x = true then some x else none) ha (by rw [List.length_map]; exact len) (fun j x Hx A B gx sx hA hB => ?_) (fun o ys H' s no ho pr => ?_)
  · rw [List.getElem?_map] at gx
    cases e : xs[j]? with
    | none => rw [e] at gx; cases gx
    | some y =>
      rw [e] at gx hA hB
      have ex := Option.some.inj gx
      subst ex
      refine step y Hx _ (List.mem_of_getElem? e) sx ?_
      by_cases c : p y = true
      · rw [if_pos c]
        exact ⟨_, by rw [List.getElem?_set_self hi], hA _ y Hx (if_pos c) (Same.refl _) rfl⟩
      · rw [if_neg c]
        exact hB Hx (if_neg c) (Same.refl _)
  · refine q o H' s no ?_
    have e := isI_map pr
    rw [List.length_map, fm_range (L := xs) (fun x => if p x = true then some x else none), fm_if] at e
    rw [e] at ho
    exact ho
theorem sqC {G : (L2.St → Hp → Prop) → Prop} {a b : TS} {D : Ends} (h : ∀ N : L2.St → Hp → Prop, (∀ σ' H', b D σ' H' → N σ' H') → G (fun σ2 H2 => a { D with nx := N } σ2 H2)) : G (fun σ2 H2 => (tSeq a b) D σ2 H2) := h (b D) fun _ _ z => z
/-- comprehension over a list, any target -/
theorem gc_listG {β : Type} {K : PySem.W.Frag} {a : Addr} {xs : List V} {vs : List Nat} {g : TG} {tt : TT} {te : TE} {σ : L2.St} {H1 : Hp} {Q : VK} (rel : Addr → Hp → V → β → Prop) (up : ∀ D H H' v b, rel D H v b → (∀ t o, t ≠ D → H t = some o → H' t = some o) → rel D H' v b) (sel : Nat → Option β) (ha : H1 a = some (.lst xs)) (len : xs.length ≤ 100000)
    (step : ∀ (D : Addr) (j : Nat) (x : V) (Hx : Hp) (A : VK) (B : Hp → Prop), xs[j]? = some x → Same H1 Hx → (∃ o, Hx D = some o) → (∀ v b Hy, sel j = some b → Same Hx Hy → rel D Hy v b → A v Hy) → (∀ Hy, sel j = none → Same Hx Hy → B Hy) →
      g x (wipe σ vs) Hx fun σ2 H2 => wipe σ2 vs = wipe σ vs ∧ tt σ2 H2 fun c H3 => if c = true then te σ2 H3 A else B H3)
    (q : ∀ o ys H', Same H1 H' → H1 o = none → H' o = some (.lst ys) → Paired (rel o H') ys ((List.range xs.length).filterMap sel) → Q (.ref o) H') :
    tLc (fun _ H R => R (Itl K a) H) g tt te vs σ H1 Q := by
  intro D nD
  obtain ⟨Pv, hPv⟩ : ∃ Pv : Nat → Hp → Prop, Pv = (fun j Hx => ∃ ys, Same H1 Hx ∧ Hx D = some (.lst ys) ∧ Paired (rel D Hx) ys ((List.range j).filterMap sel)) := ⟨_, rfl⟩
  refine lc_list (K := K) (a := a) (xs := xs) Pv (by rw [hPv]; exact ⟨[], same_upd nD, upd_same, Paired.nil⟩) (fun j H' _ pv => by rw [hPv] at pv; obtain ⟨_, sm, _⟩ := pv; exact SqL.of (sm _ _ ha)) (fun j x H' gx pv => ?_) (fun H' pv => ?_)
  · rw [hPv] at pv
    obtain ⟨ys, sm, hD, pr⟩ := pv
    have jl := (List.getElem?_eq_some_iff.mp gx).1
    have yl : ys.length ≤ j := by rw [pr.length]; exact fm_len sel j
    refine step D j x H' _ _ gx sm ⟨_, hD⟩ (fun v b Hy es sy r => ?_) (fun Hy es sy => ?_)
    · have hD2 := sy _ _ hD
      refine ⟨ys, hD2, len_big (by omega), ?_⟩
      rw [hPv]
      refine ⟨ys ++ [v], same_ch (sm.trans sy) nD, upd_same, ?_⟩
      rw [fm_step, es]
      have keep : ∀ t o, t ≠ D → Hy t = some o → upd Hy D (HO.lst (ys ++ [v])) t = some o := fun t o ne e => by rw [upd_ne ne]; exact e
      exact Paired.snoc (Paired.mapP pr fun v b h => up _ _ _ _ _ (up _ _ _ _ _ h fun t o _ e => sy t o e) keep) (up _ _ _ _ _ r keep)
    · rw [hPv]
      refine ⟨ys, sm.trans sy, sy _ _ hD, ?_⟩
      rw [fm_step, es, List.append_nil]
      exact Paired.mapP pr fun v b h => up _ _ _ _ _ h fun t o _ e => sy t o e
  · rw [hPv] at pv
    obtain ⟨ys, sm, hD, pr⟩ := pv
    exact q D ys H' sm nD hD pr
section
variable {P : Program} {w : World} {K : PySem.W.Frag} {mg : Str → Option Value} {base : Heap}
theorem scAlg : FnScope ["opening", "touched", "a", "b", "ends", "path", "k", "further", "r"] ["opening"] (defScope sAlg) := ⟨rfl, rfl, rfl, by decide +kernel, rfl, by decide +kernel, by decide +kernel⟩
def spAlg : Sp := fun vs H Q _ => ∃ (l : Addr) (ws : List V) (O : List Pr) (q : List Int), vs = [.ref l] ∧ H l = some (.lst ws) ∧ PL H ws O ∧ O.Perm (pe q) ∧ q.Nodup ∧ 2 ≤ q.length ∧ q.length ≤ 20 ∧ hdD q < laD q ∧
  ∀ t H', Same H H' → H t = none → H' t = some (.tup (q.map V.int)) → Q (.ref t) H'
theorem ok_alg {f : Addr} {fd : FuncData} (F : Fun K "_law_along" "_law_along" sAlg f fd) (T : Bi mg) : FnOk P w K mg base CX0 1 f fd ["opening"] spAlg := by
  refine F.ok scAlg (fun vs H Q E h => ?_) (fun cdv A0 outer s H vs Q E hr h => ?_)
  · obtain ⟨l, ws, O, q, rfl, _⟩ := h
    rfl
  · obtain ⟨l, ws, O, q, rfl, hl, pl, pm, nd, l2, l20, hh, ret⟩ := h
    refine ⟨_, (pss_cons (ps_set (i := 1) scAlg.nd rfl (Or.inr rfl) (pe_lst pa_nil))
      (pss_cons (ps_for PassesOwn.never rfl (pi_list (pv 0)) (pg_tup rfl (pgs_cons (pg_name (i := 2) scAlg.nd rfl (Or.inl rfl)) (pgs_cons (pg_name (i := 3) scAlg.nd rfl (Or.inl rfl)) pgs_nil)))
      (pss_one (ps_expr (pe_bm PySem.F.plainAttrs_list PySem.F.slot_list_extend PySem.F.type_list_extend mt_extend (pv 1) (pa_cons (pe_lst (pa_cons (pv 2) (pa_cons (pv 3) pa_nil))) pa_nil)))))
      (pss_cons (ps_setLc (i := 4) (own := [("r", 8)]) (tt := tTest (tOp (rI0 fun i j => V.bl (decide (i = j))) (tBM K "list" (rCntI K) (tVar 1) (tCons (tVar 8) tNil)) (tC (V.int 1)))) (by rfl) scAlg.nd rfl rfl (sw_true rfl rfl rfl (by decide +kernel)) (pi_list (pv 1)) (blkOk_by (N := ["opening", "touched", "a", "b", "ends", "path", "k", "further", "r"]) (sc := defScope sAlg) (by decide +kernel)) (fun _ _ _ _ _ => pg_name (i := 8) scAlg.nd rfl (Or.inl rfl)) (fun _ _ _ _ _ => (pts_one (pt_cmpR op_eqI (pe_bm PySem.F.plainAttrs_list PySem.F.slot_list_count PySem.F.type_list_count mt_lcount (pv 1) (pa_cons (pv 8) pa_nil)) pe_int (nomark _)))) (fun _ _ _ _ _ => (pv 8)))
      (pss_cons (ps_if (pt_cmpR op_neI (pe_callB call_len_seq (by rfl) T.len (by decide +kernel) (pa_cons (pv 4) pa_nil)) pe_int (nomark _))
      (pss_one (ps_ret pe_non))
      pss_nil)
      (pss_cons (ps_set (i := 5) scAlg.nd rfl (Or.inr rfl) (pe_lst (pa_cons (pe_callB (cr_min rfl) (by rfl) T.min (by decide +kernel) (pa_cons (pv 4) pa_nil)) pa_nil)))
      (pss_cons (ps_for PassesOwn.never rfl (pi_range1 (by rfl) T.range (pa_cons (pe_callB call_len_seq (by rfl) T.len (by decide +kernel) (pa_cons (pv 0) pa_nil)) pa_nil)) (pg_name (i := 6) scAlg.nd rfl (Or.inl rfl))
      (pss_cons (ps_setLc (i := 7) (own := [("a", 2), ("b", 3)]) (te := (tOp (rI0 fun i j => V.int (i - j)) (tOp (rI0 fun i j => V.int (i + j)) (tVar 2) (tVar 3)) (tOp (rIxL K) (tVar 5) (tUn (rU fun i => V.int (-i)) (tC (V.int 1)))))) (tt := tAnd (tTest (tOp (rIn K false) (tOp (rIxL K) (tVar 5) (tUn (rU fun i => V.int (-i)) (tC (V.int 1)))) (tLst (tCons (tVar 2) (tCons (tVar 3) tNil))))) (tTest (tOp (rIn K true) (tOp (rI0 fun i j => V.int (i - j)) (tOp (rI0 fun i j => V.int (i + j)) (tVar 2) (tVar 3)) (tOp (rIxL K) (tVar 5) (tUn (rU fun i => V.int (-i)) (tC (V.int 1))))) (tVar 5)))) (g := gTup K 2 (gCons (gName 2) (gCons (gName 3) gNil))) (by rfl) scAlg.nd rfl rfl (sw_true rfl rfl rfl (by decide +kernel)) (pi_list (pv 0)) (blkOk_by (N := ["opening", "touched", "a", "b", "ends", "path", "k", "further", "r"]) (sc := defScope sAlg) (by decide +kernel)) (fun _ _ _ _ _ => pg_tup rfl (pgs_cons (pg_name (i := 2) scAlg.nd rfl (Or.inl rfl)) (pgs_cons (pg_name (i := 3) scAlg.nd rfl (Or.inl rfl)) pgs_nil))) (fun _ _ _ _ _ => (pts_one (PW.pt (pw_and (pt_cmpR op_in_seq (pe_ix ix_list (pv 5) (pe_un un_neg pe_int) (fun _ _ => rfl)) (pe_lst (pa_cons (pv 2) (pa_cons (pv 3) pa_nil))) (by rfl)) (pw_and1 (pt_cmpR op_notIn_seq (pe_op op_sub (pe_op op_add (pv 2) (pv 3)) (pe_ix ix_list (pv 5) (pe_un un_neg pe_int) (fun _ _ => rfl))) (pv 5) (by rfl))))))) (fun _ _ _ _ _ => (pe_op op_sub (pe_op op_add (pv 2) (pv 3)) (pe_ix ix_list (pv 5) (pe_un un_neg pe_int) (fun _ _ => rfl)))))
        (pss_cons (ps_if (pt_cmpR op_neI (pe_callB call_len_seq (by rfl) T.len (by decide +kernel) (pa_cons (pv 7) pa_nil)) pe_int (nomark _))
        (pss_one (ps_ret pe_non))
        pss_nil)
        (pss_one (ps_expr (pe_bm PySem.F.plainAttrs_list PySem.F.slot_list_append PySem.F.type_list_append mt_append (pv 5) (pa_cons (pe_ix ix_list (pv 7) pe_int (fun _ _ => rfl)) pa_nil)))))))
      (pss_one (ps_ret (pe_callTy call_tuple_of (by rfl) T.tuple (by decide +kernel) (pa_cons (pv 5) pa_nil)))))))))), ?_⟩
    refine sq2 fun N hN => ?_
    walk_at "rd"
    refine ⟨Nat.zero_le _, fun c nc => ?_⟩
    have s0 := same_upd (o := HO.lst []) nc
    have hc0 := upd_same (H := H) (a := c) (o := HO.lst [])
    generalize upd H c (HO.lst []) = H0 at s0 hc0 ⊢
    have ol : O.length = q.length - 1 := by rw [pm.length_eq, pe_len]
    have tlen : ∀ X : List Pr, (touchF X).length = 2 * X.length := fun X => by
      unfold touchF
      induction X with
      | nil => rfl
      | cons d X ih => rw [List.flatMap_cons, List.length_append, ih, List.length_cons]; show 2 + 2 * X.length = 2 * (X.length + 1); omega
    refine for_iterW ?_
    walk_at "rd"
    obtain ⟨Pv, hPv⟩ : ∃ Pv : Nat → L2.St → Hp → Prop, Pv = (fun i σ H' => ∃ v2 v3 : Option V, σ = [some (.ref l), some (.ref c), v2, v3, none, none, none, none, none] ∧ Same H H' ∧ H' c = some (.lst ((touchF (O.take i)).map V.int))) := ⟨_, rfl⟩
    refine ⟨⟨_, SqL.of (s0 _ _ hl)⟩, for_list (xs := ws) Pv (by rw [hPv]; exact ⟨none, none, rfl, s0, hc0⟩) (fun i σ H' _ pv => by rw [hPv] at pv; obtain ⟨_, _, _, sm, _⟩ := pv; exact SqL.of (sm _ _ hl)) (fun i x σ H' gx pv => ?_) (fun σ H' pv => ?_)⟩
    · rw [hPv] at pv
      obtain ⟨v2, v3, rfl, sm, hc⟩ := pv
      obtain ⟨d, gd, td, rfl, htd⟩ := pl.get gx
      have il : i < ws.length := (List.getElem?_eq_some_iff.mp gx).1
      have wl := pl.len
      have htd := sm _ _ htd
      walk_at "rd"
      refine ⟨_, SqT.of htd, rfl, _, _, rfl, _, _, rfl, rfl, .inl ⟨rfl, _, SqL.of hc⟩, by decide, fun p0 np0 => ?_⟩
      have s1 := same_upd (o := HO.lst [V.int d.1, V.int d.2]) np0
      have hp0 := upd_same (H := H') (a := p0) (o := HO.lst [V.int d.1, V.int d.2])
      generalize upd H' p0 (HO.lst [V.int d.1, V.int d.2]) = H1 at s1 hp0 ⊢
      have hc1 := s1 _ _ hc
      refine ⟨_, hc1, _, hp0, Nat.le_of_lt (len_big (by rw [List.length_map, tlen, List.length_take]; simp; omega)), ?_⟩
      rw [hPv]
      refine ⟨_, _, rfl, same_ch (sm.trans s1) nc, ?_⟩
      rw [upd_same, List.take_add_one, gd]
      unfold touchF
      rw [List.flatMap_append, List.map_append]
      rfl
    · rw [hPv] at pv
      obtain ⟨v2, v3, rfl, sm, hc⟩ := pv
      rw [pl.len, List.take_length] at hc
      refine hN _ _ ?_
      clear hN N
      refine sq3 fun N hN => ?_
      walk_at "rd"
      refine lcW ?_
      walk_at "rd"
      refine ⟨⟨_, SqL.of hc⟩, lc_filtL (p := fun z => decide ((touchF O).count z = 1)) hc (by rw [tlen]; omega) (by simp) (fun z Hx B zm sx hB => ?_) fun e1 H1 s1 n1 h1 => ?_⟩
      · walk_at "rd"
        refine ⟨.inl ⟨rfl, _, SqL.of (sx _ _ hc)⟩, ⟨c, touchF O, z, rfl, rfl, SqL.of (sx _ _ hc), _, rfl, ?_⟩⟩
        have e : decide ((((touchF O).count z : Nat) : Int) = 1) = decide ((touchF O).count z = 1) := by
          rw [Bool.eq_iff_iff, decide_eq_true_iff, decide_eq_true_iff]
          omega
        rw [e]
        exact hB
      · have ep : (endF O).Perm [hdD q, laD q] := end_perm pm nd l2
        have h1 : H1 e1 = some (.lst ((endF O).map V.int)) := h1
        have el : (endF O).length = 2 := ep.length_eq
        refine ⟨e1, rfl, _, .inl (SqL.of h1), ?_⟩
        rw [List.length_map, el, if_neg (by simp)]
        refine ⟨e1, endF O, rfl, SqL.of h1, by omega, fun m hm lm => ?_⟩
        have em : m = hdD q := by
          have h2 := (mem_end pm nd l2 m).mp hm
          have h3 := lm (hdD q) ((mem_end pm nd l2 _).mpr (.inl rfl))
          omega
        subst em
        refine ⟨by decide, fun c2 nc2 => hN _ _ ?_⟩
        clear hN N
        have s2 := same_upd (o := HO.lst [V.int (hdD q)]) nc2
        have hc2 := upd_same (H := H1) (a := c2) (o := HO.lst [V.int (hdD q)])
        generalize upd H1 c2 (HO.lst [V.int (hdD q)]) = H2 at s2 hc2 ⊢
        have sm2 := (sm.trans s1).trans s2
        have nc20 := sm_none (sm.trans s1) nc2
        refine for_iterW ?_
        walk_at "rd"
        obtain ⟨Pw, hPw⟩ : ∃ Pw : Nat → L2.St → Hp → Prop, Pw = (fun k σ H' => ∃ v2 v3 v6 v7 : Option V, σ = [some (.ref l), some (.ref c), v2, v3, some (.ref e1), some (.ref c2), v6, v7, none] ∧ Same H H' ∧ H' c2 = some (.lst ((q.take (k + 1)).map V.int))) := ⟨_, rfl⟩
        have tk1 : q.take 1 = [hdD q] := by
          rw [take_succ_gd (by omega), List.take_zero]
          rfl
        refine ⟨_, .inl (SqL.of (sm2 _ _ hl)), ?_⟩
        have wl := pl.len
        refine ⟨by omega, by omega, for_range (lo := 0) (n := ((ws.length : Nat) : Int).toNat) Pw (by rw [hPw]; exact ⟨v2, v3, none, none, rfl, sm2, by rw [tk1]; exact hc2⟩) (fun k σ H' hk pw => ?_) (fun σ H' pw => ?_)⟩
        · rw [hPw] at pw
          obtain ⟨v2, v3, v6, v7, rfl, sm, hc⟩ := pw
          rw [Int.zero_add]
          refine sqC (G := fun C => gName 6 _ _ _ C) fun N hN => ?_
          walk_at "rd"
          have kq : k + 1 < q.length := by omega
          have len1 : (q.take (k + 1)).length = k + 1 := by rw [List.length_take]; omega
          have lastP : ∀ {G : Hp}, G c2 = some (.lst ((q.take (k + 1)).map V.int)) → atI ((q.take (k + 1)).map V.int) (-1) = some (V.int (q.getD k 0)) := fun {G} _ => by
            refine atI_neg (j := 0) rfl (by rw [List.length_map]; omega) ?_
            rw [List.length_map, len1, Nat.sub_zero, Nat.add_sub_cancel, List.getElem?_map, List.getElem?_take_of_lt (by omega), List.getElem?_eq_getElem (by omega), List.getD_eq_getElem?_getD, List.getElem?_eq_getElem (by omega)]
            rfl
          refine lcW ?_
          walk_at "rd"
          have hl1 := sm _ _ hl
          refine ⟨⟨_, SqL.of hl1⟩, gc_listG (fun _ _ v (z : Int) => v = V.int z) (fun _ _ _ _ _ h _ => h) (fun j => O[j]?.bind (stepF (q.take (k + 1)) (q.getD k 0))) hl1 (by omega) (fun Dx j x Hy X Y gx sy hD hX hY => ?_) fun o ys H3 s3 n3 h3 p3 => ?_⟩
          · obtain ⟨d, gd, td, rfl, htd⟩ := pl.get gx
            have htd := (sm.trans sy) _ _ htd
            have hcy := sy _ _ hc
            simp only [wipe]
            walk_at "rd"
            refine ⟨_, SqT.of htd, rfl, _, _, rfl, _, _, rfl, rfl, _, SqL.of hcy, _, lastP hcy, by decide, fun p0 np0 => ?_⟩
            have s1 := same_upd (o := HO.lst [V.int d.1, V.int d.2]) np0
            have hp0 := upd_same (H := Hy) (a := p0) (o := HO.lst [V.int d.1, V.int d.2])
            generalize upd Hy p0 (HO.lst [V.int d.1, V.int d.2]) = H4 at s1 hp0 ⊢
            have hc4 := s1 _ _ hcy
            rw [gd] at hX hY
            have selE : (some d).bind (stepF (q.take (k + 1)) (q.getD k 0)) = stepF (q.take (k + 1)) (q.getD k 0) d := rfl
            rw [selE] at hX hY
            refine ⟨p0, [d.1, d.2].map V.int, rfl, .inl (SqL.of hp0), rfl, flI _, ?_⟩
            rw [inI]
            refine ⟨_, rfl, ?_⟩
            by_cases c1 : q.getD k 0 = d.1 ∨ q.getD k 0 = d.2
            · rw [if_pos (show (if false = true then !decide (q.getD k 0 ∈ [d.1, d.2]) else decide (q.getD k 0 ∈ [d.1, d.2])) = true by simpa using c1)]
              refine ⟨_, rfl, _, rfl, _, SqL.of hc4, _, lastP hc4, _, rfl, ⟨c2, (q.take (k + 1)).map V.int, rfl, .inl (SqL.of hc4), rfl, flI _, ?_⟩⟩
              rw [inI]
              refine ⟨_, rfl, ?_⟩
              by_cases c3 : d.1 + d.2 - q.getD k 0 ∈ q.take (k + 1)
              · rw [if_neg (by simpa using c3)]
                exact hY _ (by unfold stepF; rw [if_neg (fun z => z.2 c3)]) s1
              · rw [if_pos (by simpa using c3)]
                refine ⟨_, rfl, _, rfl, _, SqL.of hc4, _, lastP hc4, _, rfl, ?_⟩
                exact hX _ _ _ (by unfold stepF; rw [if_pos ⟨c1, c3⟩]) s1 rfl
            · rw [if_neg (show ¬ (if false = true then !decide (q.getD k 0 ∈ [d.1, d.2]) else decide (q.getD k 0 ∈ [d.1, d.2])) = true by simpa using c1), if_neg id]
              exact hY _ (by unfold stepF; rw [if_neg (fun z => c1 z.1)]) s1
          · rw [wl, fm_range (L := O) (stepF (q.take (k + 1)) (q.getD k 0)), further pm nd kq] at p3
            have ey : ys = [V.int (q.getD (k + 1) 0)] := by
              cases p3 with
              | cons r t =>
                cases t
                rw [r]
            subst ey
            have hc3 := s3 _ _ hc
            have sm3 := sm.trans s3
            refine hN _ _ ?_
            clear hN N
            walk_at "rd"
            refine ⟨_, .inl (SqL.of h3), ?_⟩
            rw [if_neg (by simp)]
            refine ⟨.inl ⟨rfl, _, SqL.of hc3⟩, _, SqL.of h3, _, atI_nat (j := 0) rfl, _, hc3, len_big (by rw [List.length_map, len1]; omega), ?_⟩
            rw [hPw]
            refine ⟨_, _, _, _, rfl, same_ch sm3 nc20, ?_⟩
            rw [upd_same, take_succ_gd (k := k + 1) kq, List.map_append]
            rfl
        · rw [hPw] at pw
          obtain ⟨v2, v3, v6, v7, rfl, sm, hc⟩ := pw
          rw [Int.toNat_natCast, wl, ol, show q.length - 1 + 1 = q.length by omega, List.take_length] at hc
          walk_at "rd"
          refine ⟨_, .inl ⟨SqL.of hc, fun t nt => ret t _ (sm.trans (same_upd nt)) (sm_none sm nt) upd_same⟩⟩
end

/-! ### k21: _law_telling, _law_due -/
abbrev sTel : Stmt := topS 45
abbrev sDue : Stmt := topS 46
/-- what is told so far: the least of the telling ones, in their order -/
def Tell (T : List Pr → Prop) (S F : List (List Pr)) : Prop := (F = [] ∧ ∀ O ∈ S, ¬ T O) ∨ ∃ m, (∃ O ∈ S, T O ∧ O.length = m) ∧ (∀ O ∈ S, T O → m ≤ O.length) ∧ F ≠ [] ∧ (∀ O, O ∈ F ↔ O ∈ S ∧ T O ∧ O.length = m)
theorem tell_skip {T : List Pr → Prop} {S F : List (List Pr)} {O : List Pr} (h : Tell T S F) (n : ¬ T O ∨ ∃ O' ∈ F, O'.length < O.length) : Tell T (S ++ [O]) F := by
  rcases h with ⟨rfl, h⟩ | ⟨m, ⟨O1, m1, t1, l1⟩, le, ne, mem⟩
  · refine .inl ⟨rfl, fun X hX => ?_⟩
    rcases List.mem_append.mp hX with z | z
    · exact h X z
    · rw [List.mem_singleton.mp z]
      rcases n with n | ⟨_, n, _⟩
      · exact n
      · cases n
  · have nO : ¬ (T O ∧ O.length ≤ m) := fun ⟨hT, hl⟩ => by
      rcases n with n | ⟨O', n1, n2⟩
      · exact n hT
      · have := ((mem O').mp n1).2.2
        omega
    refine .inr ⟨m, ⟨O1, List.mem_append_left _ m1, t1, l1⟩, fun X hX hT => ?_, ne, fun X => ?_⟩
    · rcases List.mem_append.mp hX with z | z
      · exact le X z hT
      · rw [List.mem_singleton.mp z] at hT ⊢
        by_cases c : O.length ≤ m
        · exact absurd ⟨hT, c⟩ nO
        · omega
    · rw [mem X, List.mem_append]
      constructor
      · rintro ⟨a, b⟩
        exact ⟨.inl a, b⟩
      · rintro ⟨a | a, b, c⟩
        · exact ⟨a, b, c⟩
        · rw [List.mem_singleton.mp a] at b c
          exact absurd ⟨b, by omega⟩ nO
theorem tell_add {T : List Pr → Prop} {S F : List (List Pr)} {O : List Pr} (h : Tell T S F) (hT : T O) (le : ∀ O' ∈ F, O.length ≤ O'.length) : Tell T (S ++ [O]) ((F.filter fun X => decide (X.length = O.length)) ++ [O]) := by
  have mO : O ∈ S ++ [O] := List.mem_append_right _ (List.mem_singleton.mpr rfl)
  refine .inr ⟨O.length, ⟨O, mO, hT, rfl⟩, fun X hX tX => ?_, by simp, fun X => ?_⟩
  · rcases List.mem_append.mp hX with z | z
    · rcases h with ⟨_, h⟩ | ⟨m, ⟨O1, m1, t1, l1⟩, le2, ne, mem⟩
      · exact absurd tX (h X z)
      · have := le O1 ((mem O1).mpr ⟨m1, t1, l1⟩)
        have := le2 X z tX
        omega
    · rw [List.mem_singleton.mp z]
      exact Nat.le_refl _
  · rw [List.mem_append, List.mem_append, List.mem_filter, decide_eq_true_iff, List.mem_singleton]
    rcases h with ⟨rfl, h⟩ | ⟨m, ⟨O1, m1, t1, l1⟩, le2, ne, mem⟩
    · constructor
      · rintro (⟨a, _⟩ | a)
        · cases a
        · subst a
          exact ⟨.inr rfl, hT, rfl⟩
      · rintro ⟨a | a, b, c⟩
        · exact absurd b (h X a)
        · exact .inr a
    · rw [mem X]
      constructor
      · rintro (⟨⟨a, b, c⟩, d⟩ | a)
        · exact ⟨.inl a, b, d⟩
        · subst a
          exact ⟨.inr rfl, hT, rfl⟩
      · rintro ⟨a | a, b, c⟩
        · have h1 := le2 X a b
          have h2 := le O1 ((mem O1).mpr ⟨m1, t1, l1⟩)
          exact .inl ⟨⟨a, b, by omega⟩, c⟩
        · exact .inr a
theorem tell_len {T : List Pr → Prop} {S F : List (List Pr)} (h : Tell T S F) {X Y : List Pr} (hX : X ∈ F) (hY : Y ∈ F) : X.length = Y.length := by
  rcases h with ⟨rfl, _⟩ | ⟨m, _, _, _, mem⟩
  · cases hX
  · rw [((mem X).mp hX).2.2, ((mem Y).mp hY).2.2]
section
variable {P : Program} {w : World} {K : PySem.W.Frag} {mg : Str → Option Value} {base : Heap}
theorem scTel : FnScope ["rooms", "doors", "logs", "found", "opening", "kept"] ["rooms", "doors", "logs"] (defScope sTel) := ⟨rfl, rfl, rfl, by decide +kernel, rfl, by decide +kernel, by decide +kernel⟩
def spTel : Sp := fun vs H Q _ => ∃ (lo l a b : Addr) (us u1 u2 : List V) (r : Nat) (D : List Pr) (A B : List Cl), vs = [.int r, .ref l, .ref lo] ∧ H lo = some (.lst [.ref a, .ref b]) ∧ H l = some (.lst us) ∧ PL H us D ∧ D.length ≤ 8 ∧ H a = some (.lst u1) ∧ LG H u1 A ∧ InR r A ∧ H b = some (.lst u2) ∧ LG H u2 B ∧ InR r B ∧ r ≤ 12 ∧
  ∀ t zs F H', Same H H' → H t = none → H' t = some (.lst zs) → OL H' zs F → F.length ≤ 256 → Tell (fun O => unlF r O A B ≠ []) (subsF D) F → Q (.ref t) H'
theorem ok_tel {f f1 f2 : Addr} {fd fd1 fd2 : FuncData} (F : Fun K "_law_telling" "_law_telling" sTel f fd) (T : Bi mg) (d__law_openings : Df P w K mg base "_law_openings" ["doors"] 1 spOps f1 fd1) (d__law_unlike : Df P w K mg base "_law_unlike" ["rooms", "logs", "opening"] 3 spUnl f2 fd2) : FnOk P w K mg base CX0 4 f fd ["rooms", "doors", "logs"] spTel := by
  refine F.ok scTel (fun vs H Q E h => ?_) (fun cdv A0 outer s H vs Q E hr h => ?_)
  · obtain ⟨lo, l, a, b, us, u1, u2, r, D, A, B, rfl, _⟩ := h
    rfl
  · obtain ⟨lo, l, a, b, us, u1, u2, r, D, A, B, rfl, hlo, hl, pl, d8, ha, la, iA, hb, lb, iB, r12, ret⟩ := h
    refine ⟨_, (pss_cons (ps_set (i := 3) scTel.nd rfl (Or.inl rfl) (pe_lst pa_nil))
      (pss_cons (ps_for PassesOwn.never rfl (pi_list (pe_call d__law_openings.ok (hr.mono (by decide)) (by rfl) d__law_openings.at_ d__law_openings.kp d__law_openings.b .nil pass0 (pa_cons (pv 1) pa_nil))) (pg_name (i := 4) scTel.nd rfl (Or.inr rfl))
      (pss_one (ps_if (PW.pt (pw_or (pt_cmpR op_eqI (pe_callB call_len_seq (by rfl) T.len (by decide +kernel) (pa_cons (pv 3) pa_nil)) pe_int (nomark _)) (pw_or1 (pt_cmpR op_le (pe_callB call_len_seq (by rfl) T.len (by decide +kernel) (pa_cons (pv 4) pa_nil)) (pe_callB call_len_seq (by rfl) T.len (by decide +kernel) (pa_cons (pe_ix ix_list (pv 3) pe_int (fun _ _ => rfl)) pa_nil)) (nomark _)))))
        (pss_one (ps_if (pt_cmpR op_gt (pe_callB call_len_seq (by rfl) T.len (by decide +kernel) (pa_cons (pe_call d__law_unlike.ok (hr.mono (by decide)) (by rfl) d__law_unlike.at_ d__law_unlike.kp d__law_unlike.b .nil pass0 (pa_cons (pv 0) (pa_cons (pv 2) (pa_cons (pv 4) pa_nil)))) pa_nil)) pe_int (nomark _))
          (pss_one (ps_set (i := 3) scTel.nd rfl (Or.inl rfl) (pe_op op_cat (pe_lc (own := [("kept", 5)]) (te := (tVar 5)) (tt := (tTest (tOp (rI0 fun i j => V.bl (decide (i = j))) (tCB (fun xs H Q => ∃ p ys, xs = [V.ref p] ∧ (SqL K H p ys ∨ SqT K H p ys) ∧ Q (V.int ys.length) H) (tCons (tVar 5) tNil)) (tCB (fun xs H Q => ∃ p ys, xs = [V.ref p] ∧ (SqL K H p ys ∨ SqT K H p ys) ∧ Q (V.int ys.length) H) (tCons (tVar 4) tNil))))) (by rfl) scTel.nd (pi_list (pv 3)) (blkOk_by (N := ["rooms", "doors", "logs", "found", "opening", "kept"]) (sc := defScope sTel) (by decide +kernel)) (fun _ _ _ _ _ => pg_name (i := 5) scTel.nd rfl (Or.inl rfl)) (fun _ _ _ _ _ => (pts_one (pt_cmpR op_eqI (pe_callB call_len_seq (by rfl) T.len (by decide +kernel) (pa_cons (pv 5) pa_nil)) (pe_callB call_len_seq (by rfl) T.len (by decide +kernel) (pa_cons (pv 4) pa_nil)) (nomark _)))) (fun _ _ _ _ _ => (pv 5))) (pe_lst (pa_cons (pv 4) pa_nil)))))
          pss_nil))
        pss_nil)))
      (pss_one (ps_ret (pv 3))))), ?_⟩
    walk_at "rd"
    refine ⟨by decide, fun p np => ?_⟩
    have s0 := same_upd (o := HO.lst []) np
    have hp := upd_same (H := H) (a := p) (o := HO.lst [])
    generalize upd H p (HO.lst []) = H0 at s0 hp ⊢
    refine for_iterW ?_
    walk_at "rd"
    refine ⟨l, us, D, rfl, s0 _ _ hl, pl.kt (KT.same s0), by omega, fun t0 zs H1 s1 h1 ol => ?_⟩
    have s01 := s0.trans s1
    have n256 : (subsF D).length ≤ 256 := by
      rw [subsF_len]
      exact Nat.le_trans (Nat.pow_le_pow_right (by decide) d8) (by decide)
    have zl : zs.length = (subsF D).length := ol.length
    obtain ⟨Pv, hPv⟩ : ∃ Pv : Nat → L2.St → Hp → Prop, Pv = (fun i σ H' => ∃ (v4 : Option V) (fo : Addr) (vs : List V) (F : List (List Pr)), σ = [some (.int r), some (.ref l), some (.ref lo), some (.ref fo), v4, none] ∧ Same H1 H' ∧ H fo = none ∧ H' fo = some (.lst vs) ∧ OL H' vs F ∧ F.length ≤ i ∧ Tell (fun O => unlF r O A B ≠ []) ((subsF D).take i) F) := ⟨_, rfl⟩
    refine ⟨t0, rfl, ⟨_, SqL.of h1⟩, for_list (K := K) (a := t0) (xs := zs) Pv (by rw [hPv]; exact ⟨none, p, [], [], rfl, fun _ _ e => e, np, s1 _ _ hp, .nil, Nat.le_refl _, .inl ⟨rfl, fun O hO => by cases hO⟩⟩) (fun i σ H' _ pv => by rw [hPv] at pv; obtain ⟨_, _, _, _, _, sm, _⟩ := pv; exact SqL.of (sm _ _ h1)) (fun i x σ H' gx pv => ?_) (fun σ H' pv => ?_)⟩
    · rw [hPv] at pv
      obtain ⟨v4, fo, vs, F, rfl, sm, nfo, hfo, of, fl, tell⟩ := pv
      obtain ⟨O, gO, hx⟩ := pget ol gx
      obtain ⟨to, os, rfl, hto, po⟩ := hx.same sm
      have il : i < (subsF D).length := (List.getElem?_eq_some_iff.mp gO).1
      have tk : (subsF D).take (i + 1) = (subsF D).take i ++ [O] := by rw [List.take_add_one, gO]; rfl
      have vl : vs.length = F.length := of.length
      have s0H := s01.trans sm
      have skip : ∀ H2, Same H' H2 → (¬ unlF r O A B ≠ [] ∨ ∃ O' ∈ F, O'.length < O.length) → Pv (i + 1) [some (.int r), some (.ref l), some (.ref lo), some (.ref fo), some (.ref to), none] H2 := fun H2 s2 h => by
        rw [hPv]
        exact ⟨_, fo, vs, F, rfl, sm.trans s2, nfo, s2 _ _ hfo, of.same s2, by omega, by rw [tk]; exact tell_skip tell h⟩
      have go : (∀ O' ∈ F, O.length ≤ O'.length) → spUnl [V.int r, V.ref lo, V.ref to] H' (fun x H1 => ∃ p, x = V.ref p ∧ ∃ x, (SqL K H1 p x ∨ SqT K H1 p x) ∧ if 0 < ((x.length : Nat) : Int) then
          tLc (iList K (tVar 3)) (gName 5) (tTest (tOp (rI0 fun i j => V.bl (decide (i = j)))
            (tCB (fun xs H Q => ∃ p, xs = [V.ref p] ∧ ∃ x, (SqL K H p x ∨ SqT K H p x) ∧ Q (V.int ((x.length : Nat) : Int)) H) (tCons (tVar 5) tNil))
            (tCB (fun xs H Q => ∃ p, xs = [V.ref p] ∧ ∃ x, (SqL K H p x ∨ SqT K H p x) ∧ Q (V.int ((x.length : Nat) : Int)) H) (tCons (tVar 4) tNil)))) (tVar 5) [5] [some (V.int r), some (V.ref l), some (V.ref lo), some (V.ref fo), some (V.ref to), none] H1 fun x H1 =>
              1 ≤ sizeLine ∧ ∀ (p : Addr), H1 p = none → rCat x (V.ref p) (upd H1 p (HO.lst [V.ref to])) fun x H1 => Pv (i + 1) [some (V.int r), some (V.ref l), some (V.ref lo), some x, some (V.ref to), none] H1
          else Pv (i + 1) [some (V.int r), some (V.ref l), some (V.ref lo), some (V.ref fo), some (V.ref to), none] H1) E0 := fun le => by
        refine ⟨lo, to, a, b, os, u1, u2, r, O, A, B, rfl, s0H _ _ hlo, hto, po, s0H _ _ ha, la.kt (KT.same s0H), iA, s0H _ _ hb, lb.kt (KT.same s0H), iB, r12, fun t2 H2 s2 n2 h2 => ?_⟩
        refine ⟨t2, rfl, _, .inl (SqL.of h2), ?_⟩
        rw [List.length_map]
        by_cases c : unlF r O A B = []
        · rw [if_neg (by rw [c]; simp)]
          exact skip H2 s2 (.inl fun z => z c)
        · have := List.length_pos_iff.mpr c
          rw [if_pos (by omega)]
          refine lcW ?_
          walk_at "rd"
          have hfo2 := s2 _ _ hfo
          have of2 := of.same s2
          have hto2 := s2 _ _ hto
          refine ⟨⟨_, SqL.of hfo2⟩, gc_listG (fun _ _ v (X : List Pr) => ∃ j : Nat, vs[j]? = some v ∧ F[j]? = some X) (fun _ _ _ _ _ h _ => h) (fun j => F[j]?.bind fun X => if decide (X.length = O.length) = true then some X else none) hfo2 (by omega) (fun Dx j x Hy X Y gx sy hD hX hY => ?_) fun o3 ys H3 s3 n3 h3 p3 => ?_⟩
          · obtain ⟨Z, gZ, hz⟩ := pget of2 gx
            obtain ⟨tz, wz, rfl, htz, pz⟩ := hz.same sy
            rw [gZ, Option.bind_some] at hX hY
            simp only [wipe]
            walk_at "rd"
            refine ⟨_, .inl (SqL.of htz), _, .inl (SqL.of (sy _ _ hto2)), ?_⟩
            rw [pz.len, po.len]
            by_cases c2 : Z.length = O.length
            · rw [if_pos (by omega)]
              exact hX _ Z _ (by rw [if_pos (decide_eq_true c2)]) (Same.refl _) ⟨j, gx, gZ⟩
            · rw [if_neg (by omega)]
              exact hY _ (by rw [if_neg (by simp [c2])]) (Same.refl _)
          · rw [vl, fm_range (L := F) (fun X => if decide (X.length = O.length) = true then some X else none), fm_if] at p3
            have s03 := s2.trans s3
            have of3 := of.same s03
            have oy : OL H3 ys (F.filter fun X => decide (X.length = O.length)) := Paired.mapP p3 fun v X h => by
              obtain ⟨j, gv, gX⟩ := h
              obtain ⟨X', g', hx'⟩ := pget of3 gv
              rw [gX] at g'
              cases g'
              exact hx'
            have yl : ys.length ≤ i := by rw [oy.length]; exact Nat.le_trans (List.length_filter_le _ _) fl
            refine ⟨by decide, fun p1 np1 => ?_⟩
            have sp := s3.trans (Same.refl H3)
            refine ⟨_, _, ys, [V.ref to], rfl, rfl, by rw [upd_ne (fun z => by rw [z, np1] at h3; cases h3)]; exact h3, upd_same, Nat.le_of_lt (len_big (by simp only [List.length_singleton]; omega)), fun p2 np2 => ?_⟩
            have sn := (same_upd (o := HO.lst [V.ref to]) np1).trans (same_upd (o := HO.lst (ys ++ [V.ref to])) np2)
            have sq := s03.trans sn
            rw [hPv]
            have nz : H p2 = none := (s0H.trans (s03.trans (same_upd np1))).free np2
            refine ⟨_, p2, _, _, rfl, sm.trans sq, nz, upd_same, Paired.snoc (oy.same sn) ⟨to, os, rfl, sq _ _ hto, po.kt (KT.same sq)⟩, ?_, by rw [tk]; exact tell_add tell c le⟩
            rw [List.length_append, List.length_singleton, ← oy.length]
            omega
      walk_at "rd"
      refine ⟨_, .inl (SqL.of hfo), ?_⟩
      by_cases e0 : F = []
      · subst e0
        rw [if_pos (by rw [vl]; rfl), if_pos trivial]
        exact go fun O' h => by cases h
      · obtain ⟨O1, F1, rfl⟩ := List.exists_cons_of_ne_nil e0
        rw [if_neg (by rw [vl, List.length_cons]; omega)]
        have l0 : 0 < vs.length := by rw [vl]; simp
        obtain ⟨O2, g2, h2⟩ := pget of (List.getElem?_eq_getElem l0)
        cases g2
        obtain ⟨t1, w1, e1, h1', p1⟩ := h2
        refine ⟨_, .inl (SqL.of hto), _, SqL.of hfo, V.ref t1, atI_nat (j := 0) (by rw [List.getElem?_eq_getElem l0, e1]), t1, rfl, _, .inl (SqL.of h1'), ?_⟩
        rw [po.len, p1.len]
        by_cases c : O.length ≤ O1.length
        · rw [if_pos (by omega)]
          exact go fun O' h => by rw [← tell_len tell List.mem_cons_self h]; exact c
        · rw [if_neg (by omega)]
          exact skip _ (Same.refl _) (.inr ⟨O1, List.mem_cons_self, by omega⟩)
    · rw [hPv] at pv
      obtain ⟨v4, fo, vs, F, rfl, sm, nfo, hfo, of, fl, tell⟩ := pv
      rw [zl, List.take_length] at tell
      walk_at "rd"
      exact ret fo vs F _ (s01.trans sm) nfo hfo of (by omega) tell
end

/-! ### k21: _law_due -/
theorem subsF_subl (D : List Pr) : ∀ O ∈ subsF D, O.Sublist D := by
  refine snoc_ind (M := fun D => ∀ O ∈ subsF D, O.Sublist D) (fun O hO => ?_) (fun S e ih O hO => ?_) D
  · rw [List.mem_singleton.mp hO]
    exact List.Sublist.refl _
  · rw [subsF_snoc] at hO
    obtain ⟨o, ho, h⟩ := List.mem_flatMap.mp hO
    rcases List.mem_cons.mp h with h | h
    · rw [h]
      exact (ih o ho).trans (List.sublist_append_left _ _)
    · rw [List.mem_singleton.mp h]
      exact (ih o ho).append (List.Sublist.refl _)
/-- a parting path along the doors of an opening -/
def AlgP (r : Nat) (D : List Pr) (A B : List Cl) (O : List Pr) (q : List Int) : Prop := Prt D A B q ∧ (∀ x ∈ q, 0 ≤ x ∧ x < (r : Int)) ∧ O.Perm (pe q) ∧ q.length = O.length + 1 ∧ hdD q < laD q
noncomputable def algF (r : Nat) (D : List Pr) (A B : List Cl) (O : List Pr) : List Int := Classical.epsilon (AlgP r D A B O)
abbrev UnlT (r : Nat) (A B : List Cl) : List Pr → Prop := fun O => unlF r O A B ≠ []
theorem prt_opens {r : Nat} {D : List Pr} {A B : List Cl} (drs : Drs r D) {q : List Int} (h : Prt D A B q) (inr : ∀ x ∈ q, 0 ≤ x ∧ x < (r : Int)) : ∃ O ∈ subsF D, O.Perm (pe q) ∧ unlF r O A B ≠ [] ∧ O.length + 1 = q.length := by
  obtain ⟨⟨ne, nd, ch⟩, w⟩ := h
  classical
  have sub := pe_sub (fun d hd => (drs.ok d hd).2.1) ch
  have pm : (D.filter fun d => decide (d ∈ pe q)).Perm (pe q) := (List.perm_ext_iff_of_nodup (List.Nodup.sublist List.filter_sublist drs.asc.nodup) (pe_nodup nd)).mpr fun d => by
    rw [List.mem_filter, decide_eq_true_iff]
    exact ⟨fun z => z.2, fun z => ⟨sub d z, z⟩⟩
  obtain ⟨x, hx⟩ := List.exists_mem_of_ne_nil _ ne
  refine ⟨_, subsF_filter D _, pm, fun z => ?_, ?_⟩
  · have := path_unl inr (fun d => pm.mem_iff) w x hx
    rw [z] at this
    cases this
  · rw [pm.length_eq, pe_len]
    have := List.length_pos_iff.mpr ne
    omega
theorem alg_ex {r : Nat} {D : List Pr} {A B : List Cl} (drs : Drs r D) (iA : InR r A) (iB : InR r B) {F : List (List Pr)} (tell : Tell (UnlT r A B) (subsF D) F) {O : List Pr} (hO : O ∈ F) (n0 : O ≠ []) : AlgP r D A B O (algF r D A B O) := by
  refine Classical.epsilon_spec (p := AlgP r D A B O) ?_
  rcases tell with ⟨rfl, _⟩ | ⟨m, _, le, _, mem⟩
  · cases hO
  · obtain ⟨hs, hT, hm⟩ := (mem O).mp hO
    obtain ⟨q, pr, inr, pm, ql⟩ := least_path drs iA iB hs (List.Nodup.sublist (subsF_subl D O hs) drs.asc.nodup) hT hm le
    have := List.length_pos_iff.mpr n0
    obtain ⟨q', pr', inr', pm', ql', hh, _⟩ := orient pr inr (by omega)
    exact ⟨q', pr', inr', pm.trans pm'.symm, by omega, hh⟩
theorem sle_of {p q : List Int} (l : p.length = q.length) (h : p = q ∨ ltL p q) : sle p q := h.elim .inl fun z => .inr (.inr ⟨l, z⟩)
/-- the least of the paths along the least openings is the least parting path -/
theorem best_due {r : Nat} {D : List Pr} {A B : List Cl} (drs : Drs r D) (iA : InR r A) (iB : InR r B) {F : List (List Pr)} (tell : Tell (UnlT r A B) (subsF D) F) (n0 : ∀ O ∈ F, O ≠ []) {q : List Int} (hq : q ∈ F.map (algF r D A B)) (le : ∀ p ∈ F.map (algF r D A B), q = p ∨ ltL q p) :
    (Prt D A B q ∧ ∀ x ∈ q, 0 ≤ x ∧ x < (r : Int)) ∧ ∀ q', (Prt D A B q' ∧ ∀ x ∈ q', 0 ≤ x ∧ x < (r : Int)) → sle q q' := by
  have ex := fun O (hO : O ∈ F) => alg_ex drs iA iB tell hO (n0 O hO)
  obtain ⟨O, hO, rfl⟩ := List.mem_map.mp hq
  obtain ⟨pr, inr, pm, ql, hh⟩ := ex O hO
  refine ⟨⟨pr, inr⟩, fun q' ⟨pr', inr'⟩ => ?_⟩
  obtain ⟨O', hs', pm', hT', l'⟩ := prt_opens drs pr' inr'
  have tl := @tell_len _ _ _ tell
  rcases tell with ⟨rfl, _⟩ | ⟨m, _, lem, _, mem⟩
  · cases hO
  · have hm := ((mem O).mp hO).2.2
    have m1 := lem O' hs' hT'
    have := List.length_pos_iff.mpr (n0 O hO)
    by_cases c : O'.length = m
    · have hO' := (mem O').mpr ⟨hs', hT', c⟩
      obtain ⟨pr1, inr1, pm1, ql1, hh1⟩ := ex O' hO'
      obtain ⟨q2, pr2, inr2, pm2, ql2, hh2, s2⟩ := orient pr' inr' (by omega)
      have e := pe_uniq pm1 (pm'.trans pm2.symm) pr1.1.2.1 pr2.1.2.1 (by omega) (by omega) hh1 hh2
      have s1 := sle_of (by omega) (le _ (List.mem_map.mpr ⟨O', hO', rfl⟩))
      rw [e] at s1
      exact sle_trans s1 s2
    · exact .inr (.inl (by omega))
theorem none_due {r : Nat} {D : List Pr} {A B : List Cl} (drs : Drs r D) {F : List (List Pr)} (tell : Tell (UnlT r A B) (subsF D) F) (e : F = []) : ∀ q, ¬ (Prt D A B q ∧ ∀ x ∈ q, 0 ≤ x ∧ x < (r : Int)) := fun q ⟨pr, inr⟩ => by
  obtain ⟨O', hs', _, hT', _⟩ := prt_opens drs pr inr
  rcases tell with ⟨_, h⟩ | ⟨m, _, _, ne, _⟩
  · exact h O' hs' hT'
  · exact ne e
theorem area_nil {r : Nat} {x : Int} (hx : x ∈ rg r) : ∀ y, y ∈ areaF r [] x ↔ y ∈ [x] := fun y => by
  have h := path_area (O := []) (q := [x]) (r := r) (fun z hz => by rw [List.mem_singleton.mp hz]; exact rg_mem hx) (fun d => by constructor <;> (intro h; cases h)) List.mem_cons_self y
  rw [mem_area]
  exact h
theorem mem_unl0 {r : Nat} {A B : List Cl} {x : Int} : x ∈ unlF r [] A B ↔ x ∈ rg r ∧ wordP A [x] ≠ wordP B [x] := by
  rw [mem_unl]
  constructor
  · rintro ⟨h, w⟩
    rw [wordP_congr (area_nil h) A, wordP_congr (area_nil h) B] at w
    exact ⟨h, w⟩
  · rintro ⟨h, w⟩
    refine ⟨h, ?_⟩
    rw [wordP_congr (area_nil h) A, wordP_congr (area_nil h) B]
    exact w
theorem rg_pw (r : Nat) : (rg r).Pairwise (· < ·) := by
  unfold rg
  rw [List.pairwise_map]
  exact List.pairwise_lt_range.imp fun h => by show ((_ : Nat) : Int) < ((_ : Nat) : Int); omega
theorem head_unl {r : Nat} {A B : List Cl} {x : Int} {l : List Int} (e : unlF r [] A B = x :: l) : ∀ y ∈ unlF r [] A B, x ≤ y := fun y hy => by
  have pw : (unlF r [] A B).Pairwise (· < ·) := List.Pairwise.filter _ (rg_pw r)
  rw [e] at pw hy
  rcases List.mem_cons.mp hy with h | h
  · omega
  · have := (List.pairwise_cons.mp pw).1 y h
    omega
theorem one_due {r : Nat} {D : List Pr} {A B : List Cl} {x : Int} {l : List Int} (e : unlF r [] A B = x :: l) :
    (Prt D A B [x] ∧ ∀ z ∈ [x], 0 ≤ z ∧ z < (r : Int)) ∧ ∀ q', (Prt D A B q' ∧ ∀ x ∈ q', 0 ≤ x ∧ x < (r : Int)) → sle [x] q' := by
  have hx : x ∈ unlF r [] A B := by rw [e]; exact List.mem_cons_self
  obtain ⟨hr, hw⟩ := mem_unl0.mp hx
  refine ⟨⟨⟨⟨by simp, by simp, fun i hi => absurd hi (by show ¬ i + 1 < 1; omega)⟩, hw⟩, fun z hz => by rw [List.mem_singleton.mp hz]; exact rg_mem hr⟩, fun q' ⟨⟨hp, hw'⟩, hi⟩ => ?_⟩
  cases q' with
  | nil => exact absurd rfl hp.1
  | cons y l' =>
    cases l' with
    | cons z l' => exact .inr (.inl (by simp))
    | nil =>
      have hy := hi y List.mem_cons_self
      have := head_unl e y (mem_unl0.mpr ⟨mem_rg hy.1 hy.2, hw'⟩)
      by_cases c : x = y
      · exact .inl (by rw [c])
      · exact .inr (.inr ⟨rfl, .inl (by omega)⟩)
theorem Room.u65 {k : Nat} {A : Around} (r : Room k A) : A.units + 65 < cLine := by
  have := r.un
  omega
/-! lists of tuples of ints as data -/
theorem lay_ints (q : List Int) : PyData.canLayAll0 (q.map PyData.int) = true := by
  induction q with
  | nil => rfl
  | cons e D ih =>
    show (PyData.canLay0 (PyData.int e) && PyData.canLayAll0 (D.map PyData.int)) = true
    rw [ih]
    rfl
theorem shaped_TL (L : List (List Int)) : SeqAt.shaped (.list (L.map dataT)) = true := by
  have h := dep_TL L
  have l : PyData.canLayAll0 (L.map dataT) = true := by
    induction L with
    | nil => rfl
    | cons e D ih =>
      show (PyData.canLayAll0 (e.map PyData.int) && PyData.canLayAll0 (D.map dataT)) = true
      rw [lay_ints, ih (dep_TL D)]
      rfl
  show (PyData.canLayAll0 (L.map dataT) && decide (PyData.depthAll (L.map dataT) + 1 ≤ 64)) = true
  rw [l, Bool.true_and, decide_eq_true_eq]
  omega
theorem none_TL (L : List (List Int)) : ((L.map dataT).any fun z => PyData.eqv z .none) = false := by
  induction L with
  | nil => rfl
  | cons e D ih => rw [List.map_cons, List.any_cons, ih]; rfl
section
variable {P : Program} {w : World} {K : PySem.W.Frag} {mg : Str → Option Value} {base : Heap}
theorem scDue : FnScope ["rooms", "logs", "telling", "paths", "opening"] ["rooms", "logs", "telling"] (defScope sDue) := ⟨rfl, rfl, rfl, by decide +kernel, rfl, by decide +kernel, by decide +kernel⟩
def spDue : Sp := fun vs H Q _ => ∃ (lo tl a b : Addr) (zs u1 u2 : List V) (r : Nat) (D : List Pr) (A B : List Cl) (F : List (List Pr)), vs = [.int r, .ref lo, .ref tl] ∧ H lo = some (.lst [.ref a, .ref b]) ∧ H tl = some (.lst zs) ∧ OL H zs F ∧ F.length ≤ 256 ∧ Tell (UnlT r A B) (subsF D) F ∧ Drs r D ∧ D.length ≤ 8 ∧ H a = some (.lst u1) ∧ LG H u1 A ∧ InR r A ∧ H b = some (.lst u2) ∧ LG H u2 B ∧ InR r B ∧ r ≤ 12 ∧
  ∀ v H', Same H H' → BestOf H' (fun q => Prt D A B q ∧ ∀ x ∈ q, 0 ≤ x ∧ x < (r : Int)) v → Q v H'
theorem ok_due {f f1 f2 : Addr} {fd fd1 fd2 : FuncData} (F : Fun K "_law_due" "_law_due" sDue f fd) (T : Bi mg) (d__law_unlike : Df P w K mg base "_law_unlike" ["rooms", "logs", "opening"] 3 spUnl f1 fd1) (d__law_along : Df P w K mg base "_law_along" ["opening"] 1 spAlg f2 fd2) : FnOk P w K mg base CX0 4 f fd ["rooms", "logs", "telling"] spDue := by
  refine F.ok scDue (fun vs H Q E h => ?_) (fun cdv A0 outer s H vs Q E hr h => ?_)
  · obtain ⟨lo, tl, a, b, zs, u1, u2, r, D, A, B, F, rfl, _⟩ := h
    rfl
  · obtain ⟨lo, tl, a, b, zs, u1, u2, r, D, A, B, F, rfl, hlo, htl, ol, F256, tell, drs, d8, ha, la, iA, hb, lb, iB, r12, ret⟩ := h
    refine ⟨_, (pss_cons (ps_if (pt_cmpR op_eqI (pe_callB call_len_seq (by rfl) T.len (by decide +kernel) (pa_cons (pv 2) pa_nil)) pe_int (nomark _))
      (pss_one (ps_ret pe_non))
      pss_nil)
      (pss_cons (ps_if (pt_cmpR op_eqI (pe_callB call_len_seq (by rfl) T.len (by decide +kernel) (pa_cons (pe_ix ix_list (pv 2) pe_int (fun _ _ => rfl)) pa_nil)) pe_int (nomark _))
      (pss_one (ps_ret (pe_tup (pa_cons (pe_ix ix_list (pe_call d__law_unlike.ok (hr.mono (by decide)) (by rfl) d__law_unlike.at_ d__law_unlike.kp d__law_unlike.b .nil pass0 (pa_cons (pv 0) (pa_cons (pv 1) (pa_cons (pe_lst pa_nil) pa_nil)))) pe_int (fun _ _ => rfl)) pa_nil))))
      pss_nil)
      (pss_cons (ps_setLc (i := 3) (own := [("opening", 4)]) (by rfl) scDue.nd rfl rfl (sw_true rfl rfl rfl (by decide +kernel)) (pi_list (pv 2)) (blkOk_by (N := ["rooms", "logs", "telling", "paths", "opening"]) (sc := defScope sDue) (by decide +kernel)) (fun _ _ _ _ _ => pg_name (i := 4) scDue.nd rfl (Or.inl rfl)) (fun _ _ _ _ _ => pts_nil) (fun _ _ _ _ _ => (pe_call d__law_along.ok (hr.mono (by decide)) (by rfl) d__law_along.at_ d__law_along.kp d__law_along.b .nil pass0 (pa_cons (pv 4) pa_nil))))
      (pss_cons (ps_if (pt_cmpR (op_inD (Room.u65 hr)) pe_non (pv 3) (by rfl))
      (pss_one (ps_ret pe_non))
      pss_nil)
      (pss_one (ps_ret (pe_callB (cr_minT rfl (Room.u2 hr)) (by rfl) T.min (by decide +kernel) (pa_cons (pv 3) pa_nil)))))))), ?_⟩
    walk_at "rd"
    have zl : zs.length = F.length := ol.length
    refine ⟨_, .inl (SqL.of htl), ?_⟩
    by_cases e0 : F = []
    · rw [if_pos (by rw [zl, e0]; rfl)]
      exact ret _ _ (Same.refl _) (.inr ⟨rfl, none_due drs tell e0⟩)
    have l0 : 0 < F.length := List.length_pos_iff.mpr e0
    rw [if_neg (by omega)]
    obtain ⟨O1, g1, h1⟩ := pget ol (List.getElem?_eq_getElem (show 0 < zs.length by omega))
    obtain ⟨t1, w1, e1, h1', p1⟩ := h1
    have m1 : O1 ∈ F := List.mem_of_getElem? g1
    refine ⟨_, SqL.of htl, V.ref t1, atI_nat (j := 0) (by rw [List.getElem?_eq_getElem (show 0 < zs.length by omega), e1]), t1, rfl, _, .inl (SqL.of h1'), ?_⟩
    rw [p1.len]
    by_cases c : O1 = []
    · subst c
      rw [if_pos (show (((([] : List Pr).length : Nat) : Int) = 0) from rfl)]
      refine ⟨by decide, fun p np => ?_⟩
      have s0 := same_upd (o := HO.lst []) np
      refine ⟨lo, p, a, b, [], u1, u2, r, [], A, B, rfl, s0 _ _ hlo, upd_same, .nil, s0 _ _ ha, la.kt (KT.same s0), iA, s0 _ _ hb, lb.kt (KT.same s0), iB, r12, fun t2 H2 s2 n2 h2 => ?_⟩
      have hT : unlF r [] A B ≠ [] := by
        rcases tell with ⟨z, _⟩ | ⟨m, _, _, _, mem⟩
        · exact absurd z e0
        · exact ((mem []).mp m1).2.1
      obtain ⟨x, l, ex⟩ := List.exists_cons_of_ne_nil hT
      refine ⟨t2, rfl, _, SqL.of h2, V.int x, atI_nat (j := 0) (by rw [ex]; rfl), by decide, fun q nq => ?_⟩
      have s3 := same_upd (o := HO.tup [V.int x]) nq
      obtain ⟨b1, b2⟩ := one_due (D := D) ex
      exact ret _ _ ((s0.trans s2).trans s3) (.inl ⟨[x], q, rfl, upd_same, b1, b2⟩)
    · have n0 : ∀ O ∈ F, O ≠ [] := fun O hO z => by
        have := tell_len tell hO m1
        rw [z] at this
        exact c (List.length_eq_zero_iff.mp this.symm)
      have := List.length_pos_iff.mpr c
      rw [if_neg (by omega)]
      refine lcW ?_
      walk_at "rd"
      refine ⟨⟨_, SqL.of htl⟩, gc_listG (fun Dx H v (q : List Int) => ∃ t, v = V.ref t ∧ t ≠ Dx ∧ H t = some (.tup (q.map V.int))) (fun Dx H H' v q h k => by obtain ⟨t, e, ne, h⟩ := h; exact ⟨t, e, ne, k _ _ ne h⟩) (fun j => F[j]?.bind fun O => some (algF r D A B O)) htl (by omega) (fun Dx j x Hy X Y gx sy hD hX hY => ?_) fun o3 ys H3 s3 n3 h3 p3 => ?_⟩
      · obtain ⟨O, gO, hO⟩ := pget ol gx
        obtain ⟨to, os, rfl, hto, po⟩ := hO.same sy
        have mO := List.mem_of_getElem? gO
        obtain ⟨pr, inr, pm, ql, hh⟩ := alg_ex drs iA iB tell mO (n0 O mO)
        have o8 : O.length ≤ 8 := by
          rcases tell with ⟨z, _⟩ | ⟨m, _, _, _, mem⟩
          · exact absurd z e0
          · exact Nat.le_trans (subsF_olen D O ((mem O).mp mO).1) d8
        have := List.length_pos_iff.mpr (n0 O mO)
        rw [gO, Option.bind_some] at hX
        simp only [wipe]
        walk_at "rd"
        rw [if_pos trivial]
        refine ⟨to, os, O, _, rfl, hto, po, pm, pr.1.2.1, by omega, by omega, hh, fun t H' s' nt ht => hX _ _ _ rfl s' ⟨t, rfl, fun z => ?_, ht⟩⟩
        obtain ⟨od, hod⟩ := hD
        rw [← z, nt] at hod
        cases hod
      · rw [zl, fm_range (L := F) (fun O => some (algF r D A B O)), List.filterMap_eq_map'] at p3
        have tl3 : TL H3 ys (F.map (algF r D A B)) := Paired.mapP p3 fun v q h => by obtain ⟨t, e, _, h⟩ := h; exact ⟨t, e, h⟩
        refine ⟨.none, (F.map (algF r D A B)).map dataT, .non, .lst (SqL.of h3) (dp_T tl3), rfl, shaped_TL _, _, rfl, ?_⟩
        rw [none_TL, if_neg (by decide)]
        refine ⟨o3, ys, _, rfl, SqL.of h3, tl3, by simpa using e0, fun v q _ hv hq le => ?_⟩
        obtain ⟨t, rfl, ht⟩ := hv
        obtain ⟨b1, b2⟩ := best_due drs iA iB tell n0 hq le
        exact ret _ _ s3 (.inl ⟨q, t, rfl, ht, b1, b2⟩)
end

/-! ### k21: _law_other -/
abbrev sLoo : Stmt := topS 37
def ElI (r : Nat) (H : Hp) (v : V) : Prop := ∃ t, ∃ c : Cl, v = V.ref t ∧ H t = some (.tup [.int c.1, .str c.2]) ∧ 0 ≤ c.1 ∧ c.1 < r
theorem ElI.same {r : Nat} {H H' : Hp} {v : V} (h : ElI r H v) (s : Same H H') : ElI r H' v := by
  obtain ⟨t, c, e, h1, h2⟩ := h
  exact ⟨t, c, e, s _ _ h1, h2⟩
theorem eli_of {r : Nat} {H : Hp} : ∀ {us : List V} {L : List Cl}, LG H us L → InR r L → ∀ v ∈ us, ElI r H v
  | _, _, Paired.nil, _, v, hv => by cases hv
  | _, _, Paired.cons rr t, i, v, hv => by
    rcases List.mem_cons.mp hv with e | e
    · rw [e]
      obtain ⟨tc, e1, e2⟩ := rr
      exact ⟨tc, _, e1, e2, (i _ List.mem_cons_self).1, (i _ List.mem_cons_self).2⟩
    · exact eli_of t (fun c hc => i c (List.mem_cons_of_mem _ hc)) v e
theorem eli_log {r : Nat} {H : Hp} : ∀ {us : List V}, (∀ v ∈ us, ElI r H v) → ∃ L, LG H us L ∧ InR r L
  | [], _ => ⟨[], Paired.nil, fun c hc => by cases hc⟩
  | v :: us, h => by
    obtain ⟨L, h1, h2⟩ := eli_log fun u hu => h u (List.mem_cons_of_mem _ hu)
    obtain ⟨t, c, e, ht, hc1, hc2⟩ := h v List.mem_cons_self
    refine ⟨c :: L, Paired.cons ⟨t, e, ht⟩ h1, fun d hd => ?_⟩
    rcases List.mem_cons.mp hd with q | q
    · rw [q]; exact ⟨hc1, hc2⟩
    · exact h2 d q
theorem mem_cutV {xs : List V} {lo hi : Option Int} {v : V} (h : v ∈ cutV xs lo hi) : v ∈ xs := List.mem_of_mem_drop (List.mem_of_mem_take h)
theorem lastF_subI : ∀ (L : List Cl) (c : Cl), c ∈ lastF L → c ∈ L
  | [], _, h => h
  | d :: S, c, h => by
    have h2 : c ∈ (if d.1 ∈ S.map (·.1) then lastF S else d :: lastF S) := h
    by_cases m : d.1 ∈ S.map (·.1)
    · rw [if_pos m] at h2
      exact List.mem_cons_of_mem _ (lastF_subI S c h2)
    · rw [if_neg m] at h2
      rcases List.mem_cons.mp h2 with e | e
      · rw [e]; exact List.mem_cons_self
      · exact List.mem_cons_of_mem _ (lastF_subI S c e)
theorem lastF_inr {r : Nat} {L : List Cl} (i : InR r L) : InR r (lastF L) := fun c hc => i c (lastF_subI L c hc)
theorem ite_same {c : Prop} [Decidable c] {F : L2.St → Hp → Prop} {σ1 σ2 : L2.St} {h : Hp} (k : ∀ σ, ((c ∧ σ = σ1) ∨ (¬ c ∧ σ = σ2)) → F σ h) : if c then F σ1 h else F σ2 h := by
  by_cases hc : c
  · rw [if_pos hc]; exact k _ (.inl ⟨hc, rfl⟩)
  · rw [if_neg hc]; exact k _ (.inr ⟨hc, rfl⟩)
section
variable {P : Program} {w : World} {K : PySem.W.Frag} {mg : Str → Option Value} {base : Heap}
theorem scLoo : FnScope ["cell", "log", "rooms", "words", "doors", "numbers", "way", "many", "last", "k", "other", "j"] ["cell", "log", "rooms", "words", "doors"] (defScope sLoo) := ⟨rfl, rfl, rfl, by decide +kernel, rfl, by decide +kernel, by decide +kernel⟩
def spLoo : Sp := fun vs H Q _ => ∃ (l b d : Addr) (us ds : List V) (L : List Cl) (D : List Pr) (Z : List Str) (c : Int) (r : Nat), vs = [.int c, .ref l, .int r, .ref b, .ref d] ∧ H l = some (.lst us) ∧ LG H us L ∧ InR r L ∧ L.length ≤ 60 ∧ H b = some (.lst (Z.map V.str)) ∧ 1 ≤ Z.length ∧ (∀ z ∈ Z, wk 17 z) ∧ H d = some (.lst ds) ∧ PL H ds D ∧ 1 ≤ r ∧ r ≤ 12 ∧
  ∀ (L' : List Cl) (ws : List V) (p : Addr) (H' : Hp), L'.length ≤ 1000 → InR r L' → Same H H' → H' p = some (.lst ws) → LG H' ws L' → Q (.ref p) H'
theorem ok_loo {f f1 f2 f3 f4 f5 f6 : Addr} {fd fd1 fd2 fd3 fd4 fd5 fd6 : FuncData} (F : Fun K "_law_other" "_law_other" sLoo f fd) (T : Bi mg) (d__law_numbers : Df P w K mg base "_law_numbers" ["cell", "count"] 1 (spNum K) f1 fd1) (d__law_length : Df P w K mg base "_law_length" ["numbers", "at"] 1 (spLen K) f2 fd2) (d__law_log : Df P w K mg base "_law_log" ["numbers", "at", "many", "rooms", "words"] 1 (spLlg K) f3 fd3)
    (d__law_last : Df P w K mg base "_law_last" ["log"] 1 spLast f4 fd4) (d__law_names : Df P w K mg base "_law_names" ["numbers", "at", "rooms"] 1 (spNam K) f5 fd5) (d__law_quiet : Df P w K mg base "_law_quiet" ["doors", "rooms", "calls", "numbers"] 2 spLqu f6 fd6) : FnOk P w K mg base CX0 3 f fd ["cell", "log", "rooms", "words", "doors"] spLoo := by
  refine F.ok scLoo (fun vs H Q E h => ?_) (fun cdv A0 outer s0 H vs Q E hr h => ?_)
  · obtain ⟨l, b, d, us, ds, L, D, Z, c, r, rfl, _⟩ := h
    rfl
  · obtain ⟨l, b, d, us, ds, L, D, Z, c, r, rfl, hl, lg, il, l60, hb, z1, wz, hd, pd, r1, r12, ret⟩ := h
    refine ⟨_, (pss_cons (ps_set (i := 5) scLoo.nd rfl (Or.inl rfl) (pe_call d__law_numbers.ok (hr.mono (by decide)) (by rfl) d__law_numbers.at_ d__law_numbers.kp d__law_numbers.b .nil pass0 (pa_cons (pv 0) (pa_cons pe_int pa_nil))))
      (pss_cons (ps_set (i := 6) scLoo.nd rfl (Or.inl rfl) (pe_op op_mod (pe_callTy cr_intI (by rfl) T.int (by decide +kernel) (pa_cons (pe_ix ix_list (pv 5) pe_int (fun _ _ => rfl)) pa_nil)) pe_int))
      (pss_cons (ps_if (pt_cmpR op_eqI (pv 6) pe_int (nomark _))
      (pss_cons (ps_set (i := 7) scLoo.nd rfl (Or.inl rfl) (pe_call d__law_length.ok (hr.mono (by decide)) (by rfl) d__law_length.at_ d__law_length.kp d__law_length.b .nil pass0 (pa_cons (pv 5) (pa_cons pe_int pa_nil))))
        (pss_one (ps_ret (pe_call d__law_log.ok (hr.mono (by decide)) (by rfl) d__law_log.at_ d__law_log.kp d__law_log.b .nil pass0 (pa_cons (pe_call d__law_numbers.ok (hr.mono (by decide)) (by rfl) d__law_numbers.at_ d__law_numbers.kp d__law_numbers.b .nil pass0 (pa_cons (pv 0) (pa_cons (pe_op op_add pe_int (pe_op op_mul pe_int (pv 7))) pa_nil))) (pa_cons pe_int (pa_cons (pv 7) (pa_cons (pv 2) (pa_cons (pv 3) pa_nil)))))))))
      pss_nil)
      (pss_cons (ps_if (pt_cmpR op_eqI (pv 6) pe_int (nomark _))
      (pss_one (ps_ret (pe_slice sl_list (pe_op op_cat (pe_lst (pa_cons (pe_tup (pa_cons (pe_op op_mod (pe_callTy cr_intI (by rfl) T.int (by decide +kernel) (pa_cons (pe_ix ix_list (pv 5) pe_int (fun _ _ => rfl)) pa_nil)) (pv 2)) (pa_cons (pe_ix ix_list (pv 3) (pe_op op_mod (pe_callTy cr_intI (by rfl) T.int (by decide +kernel) (pa_cons (pe_ix ix_list (pv 5) pe_int (fun _ _ => rfl)) pa_nil)) (pe_callB call_len_seq (by rfl) T.len (by decide +kernel) (pa_cons (pv 3) pa_nil))) (fun _ _ => rfl)) pa_nil))) pa_nil)) (pv 1)) po_none (po_some pe_int))))
      pss_nil)
      (pss_cons (ps_if (pt_cmpR op_eqI (pv 6) pe_int (nomark _))
      (pss_one (ps_ret (pe_revL (pv 1))))
      pss_nil)
      (pss_cons (ps_set (i := 8) scLoo.nd rfl (Or.inr rfl) (pe_call d__law_last.ok (hr.mono (by decide)) (by rfl) d__law_last.at_ d__law_last.kp d__law_last.b .nil pass0 (pa_cons (pv 1) pa_nil)))
      (pss_cons (ps_if (pt_cmpR op_eqI (pv 6) pe_int (nomark _))
      (pss_one (ps_ret (pe_lc (own := [("k", 9)]) (te := tOp (rIxL K) (tVar 8) (tVar 9)) (by rfl) scLoo.nd (pi_list (pe_call d__law_names.ok (hr.mono (by decide)) (by rfl) d__law_names.at_ d__law_names.kp d__law_names.b .nil pass0 (pa_cons (pv 5) (pa_cons pe_int (pa_cons (pe_callB call_len_seq (by rfl) T.len (by decide +kernel) (pa_cons (pv 8) pa_nil)) pa_nil))))) (blkOk_by (N := ["cell", "log", "rooms", "words", "doors", "numbers", "way", "many", "last", "k", "other", "j"]) (sc := defScope sLoo) (by decide +kernel)) (fun _ _ _ _ _ => pg_name (i := 9) scLoo.nd rfl (Or.inl rfl)) (fun _ _ _ _ _ => pts_nil) (fun _ _ _ _ _ => (pe_ix ix_list (pv 8) (pv 9) (fun _ _ => rfl))))))
      pss_nil)
      (pss_cons (ps_if (pt_cmpR op_gt (pv 6) pe_int (nomark _))
      (pss_one (ps_ret (pe_call d__law_quiet.ok (hr.mono (by decide)) (by rfl) d__law_quiet.at_ d__law_quiet.kp d__law_quiet.b .nil pass0 (pa_cons (pv 4) (pa_cons (pv 2) (pa_cons (pv 8) (pa_cons (pe_slice sl_list (pv 5) (po_some pe_int) (po_some pe_int)) pa_nil)))))))
      pss_nil)
      (pss_cons (ps_set (i := 10) scLoo.nd rfl (Or.inl rfl) (pe_callTy call_list_of (by rfl) T.list (by decide +kernel) (pa_cons (pv 1) pa_nil)))
      (pss_cons (ps_if (pt_cmpR op_eqI (pv 6) pe_int (nomark _))
      (pss_one (ps_set (i := 10) scLoo.nd rfl (Or.inl rfl) (pv 8)))
      pss_nil)
      (pss_cons (ps_for PassesOwn.never rfl (pi_range1 (by rfl) T.range (pa_cons (pe_op op_add pe_int (pe_op op_mod (pe_callTy cr_intI (by rfl) T.int (by decide +kernel) (pa_cons (pe_ix ix_list (pv 5) pe_int (fun _ _ => rfl)) pa_nil)) pe_int)) pa_nil)) (pg_name (i := 9) scLoo.nd rfl (Or.inl rfl))
      (pss_one (ps_if (pt_cmpR op_gt (pe_callB call_len_seq (by rfl) T.len (by decide +kernel) (pa_cons (pv 10) pa_nil)) pe_int (nomark _))
        (pss_cons (ps_set (i := 11) scLoo.nd rfl (Or.inl rfl) (pe_op op_mod (pe_callTy cr_intI (by rfl) T.int (by decide +kernel) (pa_cons (pe_ix ix_list (pv 5) (pe_op op_add pe_int (pv 9)) (fun _ _ => rfl)) pa_nil)) (pe_op op_sub (pe_callB call_len_seq (by rfl) T.len (by decide +kernel) (pa_cons (pv 10) pa_nil)) pe_int)))
          (pss_one (ps_set (i := 10) scLoo.nd rfl (Or.inl rfl) (pe_op op_cat (pe_op op_cat (pe_slice sl_list (pv 10) po_none (po_some (pv 11))) (pe_lst (pa_cons (pe_ix ix_list (pv 10) (pe_op op_add (pv 11) pe_int) (fun _ _ => rfl)) (pa_cons (pe_ix ix_list (pv 10) (pv 11) (fun _ _ => rfl)) pa_nil)))) (pe_slice sl_list (pv 10) (po_some (pe_op op_add (pv 11) pe_int)) po_none)))))
        pss_nil)))
      (pss_one (ps_ret (pv 10)))))))))))))), ?_⟩
    walk_at "rd"
    refine ⟨c, 20, rfl, by decide, fun ns nu H0 hns s0 nnu hnu => ?_⟩
    have nl : ns.length = 20 := hns.1
    have gN : ∀ j : Nat, j < 20 → ∃ x, (ns.map V.int)[j]? = some (.int x) := fun j hj => ⟨ns[j]'(by omega), by rw [List.getElem?_map, List.getElem?_eq_getElem (by omega)]; rfl⟩
    obtain ⟨x0, g0⟩ := gN 0 (by decide)
    obtain ⟨x1, g1⟩ := gN 1 (by decide)
    obtain ⟨x2, g2⟩ := gN 2 (by decide)
    have ul : us.length = L.length := lg.len
    have hS := SqL.of (K := K) hnu
    refine ⟨nu, rfl, _, hS, _, at_of (j := 0) rfl g0, x0, rfl, by decide, ?_⟩
    have y0 := Int.emod_nonneg x0 (show (8 : Int) ≠ 0 by decide)
    have y9 := Int.emod_lt_of_pos x0 (show (0 : Int) < 8 by decide)
    generalize x0 % 8 = y at y0 y9 ⊢
    have hl1 := s0 _ _ hl
    have hb1 := s0 _ _ hb
    have hd1 := s0 _ _ hd
    have lg1 := lg.kt (KT.same s0)
    have el1 : ∀ v ∈ us, ElI r H0 v := eli_of lg1 il
    have retE : ∀ (t : Addr) (zs : List V) (H' : Hp), Same H0 H' → H' t = some (.lst zs) → (∀ v ∈ zs, ElI r H' v) → zs.length ≤ 1000 → Q (.ref t) H' := fun t zs H' s ht ez zl => by
      obtain ⟨L', lg', i'⟩ := eli_log ez
      exact ret L' zs t H' (by rw [← lg'.len]; exact zl) i' (s0.trans s) ht lg'
    refine ite2 (fun _ => ?_) (fun n0 => ite2 (fun _ => ?_) (fun n1 => ite2 (fun _ => ?_) (fun n2 => ?_)))
    · refine ⟨nu, ns, 1, rfl, hS, by omega, fun n n60 => ⟨(n : Int), rfl, by first | exact .inl (by decide) | (unfold CMul; omega), ?_⟩⟩
      refine ⟨c, 3 + 2 * n, by rw [show (3 : Int) + 2 * (n : Int) = ((3 + 2 * n : Nat) : Int) by omega], by omega, fun n2 p2 H2 hn2 s2 np2 hp2 => ?_⟩
      refine ⟨p2, b, n2, 3, n, r, Z, rfl, SqL.of hp2, by rw [hn2.1]; omega, by omega, r1, s2 _ _ hb1, z1, wz, fun L' ws p H' Ll inr _ s3 np hp lw => ret L' ws p H' (by omega) inr (s0.trans (s2.trans s3)) hp lw⟩
    · have q0 := Int.emod_nonneg x2 (show (Z.length : Int) ≠ 0 by omega)
      have q1 := Int.emod_lt_of_pos x2 (show (0 : Int) < (Z.length : Int) by omega)
      obtain ⟨z, gz⟩ : ∃ z, Z[(x2 % (Z.length : Int)).toNat]? = some z := ⟨Z[(x2 % (Z.length : Int)).toNat]'(by omega), List.getElem?_eq_getElem (by omega)⟩
      refine ⟨nu, rfl, _, hS, _, at_of (j := 1) rfl g1, x1, rfl, by omega, nu, rfl, _, hS, _, at_of (j := 2) rfl g2, x2, rfl, _, .inl (SqL.of hb1), by rw [List.length_map]; omega, _, SqL.of hb1, .str z, at_of (j := (x2 % (Z.length : Int)).toNat) (by rw [List.length_map]; omega) (by rw [List.getElem?_map, gz]; rfl), by decide, fun t nt => ⟨by decide, fun e ne => ?_⟩⟩
      have s2 := same_upd (o := HO.tup [V.int (x1 % (r : Int)), V.str z]) nt
      have s3 := same_upd (o := HO.lst [V.ref t]) ne
      have s23 := s2.trans s3
      have ht := s3 _ _ (upd_same (H := H0) (a := t) (o := HO.tup [V.int (x1 % (r : Int)), V.str z]))
      refine ⟨e, l, _, _, rfl, rfl, upd_same, s23 _ _ hl1, Nat.le_of_lt (len_big (by show 1 + us.length ≤ 100000; omega)), fun p np => ?_⟩
      have s4 := same_upd (o := HO.lst ([V.ref t] ++ us)) np
      refine ⟨p, rfl, _, SqL.of upd_same, fun p1 np1 => ?_⟩
      have s5 := same_upd (o := HO.lst (cutV ([V.ref t] ++ us) none (some 60))) np1
      have b1 := cutV_length ([V.ref t] ++ us) none (some 60)
      rw [List.length_append] at b1
      refine retE p1 _ _ (s23.trans (s4.trans s5)) upd_same (fun v hv => ?_) (by simp only [List.length_singleton] at b1; omega)
      rcases List.mem_append.mp (mem_cutV hv) with h | h
      · rw [List.mem_singleton.mp h]
        exact ⟨t, (x1 % (r : Int), z), rfl, (s4.trans s5) _ _ ht, Int.emod_nonneg _ (by omega), Int.emod_lt_of_pos _ (by omega)⟩
      · exact (el1 v h).same (s23.trans (s4.trans s5))
    · refine ⟨_, rfl, l, us, rfl, SqL.of hl1, fun t nt => ?_⟩
      exact retE t us.reverse _ (same_upd nt) upd_same (fun v hv => (el1 v (List.mem_reverse.mp hv)).same (same_upd nt)) (by rw [List.length_reverse]; omega)
    · refine ⟨l, us, L, rfl, hl1, lg1, by omega, fun wl q H1 s1 nq hq lw => ?_⟩
      have ilw := lastF_inr il
      have elw := eli_of lw ilw
      have wll : wl.length ≤ 12 := by
        rw [lw.len]
        have := ints_len (r := r) (lastF_nd L) fun x hx => by
          obtain ⟨c, hc, rfl⟩ := List.mem_map.mp hx
          exact ilw c hc
        rw [List.length_map] at this
        omega
      have hS1 := SqL.of (K := K) (s1 _ _ hnu)
      refine ite2 (fun _ => ?_) (fun n3 => ite2 (fun _ => ?_) (fun n5 => ?_))
      · refine lcW ?_
        walk_at "rd"
        refine ⟨wl, .inl (SqL.of hq), nu, ns, 1, wl.length, rfl, hS1, by omega, by omega, fun xs pn H2 pm s2 nn hN => ?_⟩
        refine ⟨pn, rfl, ⟨_, SqL.of hN⟩, gc_listG (fun _ _ v (u : V) => v = u ∧ u ∈ wl) (fun _ _ _ _ _ h _ => h) (fun j => xs[j]?.bind fun x => wl[x.toNat]?) hN (by rw [List.length_map, pm.length_eq, rg_len]; omega) (fun Dx j x Hy X Y gx sy hD hX hY => ?_) fun o3 ys H3 s3 n3 h3 p3 => ?_⟩
        · rw [List.getElem?_map] at gx
          obtain ⟨x', gx', rfl⟩ : ∃ x', xs[j]? = some x' ∧ x = V.int x' := by
            cases ev : xs[j]? with
            | none => rw [ev] at gx; cases gx
            | some x => rw [ev] at gx; exact ⟨x, rfl, (Option.some.inj gx).symm⟩
          have bx := rg_mem (pm.mem_iff.mp (List.mem_of_getElem? gx'))
          obtain ⟨u, gu⟩ : ∃ u, wl[x'.toNat]? = some u := ⟨wl[x'.toNat]'(by omega), List.getElem?_eq_getElem (by omega)⟩
          rw [gx', Option.bind_some, gu] at hX
          simp only [wipe]
          walk_at "rd"
          rw [if_pos trivial]
          exact ⟨_, SqL.of (sy _ _ (s2 _ _ hq)), u, at_of (j := x'.toNat) (by omega) gu, hX u u _ rfl (Same.refl _) ⟨rfl, List.mem_of_getElem? gu⟩⟩
        · refine retE o3 ys H3 (s1.trans (s2.trans s3)) h3 (fun v hv => ?_) ?_
          · obtain ⟨i, gi⟩ := List.mem_iff_getElem?.mp hv
            obtain ⟨b, _, e, hb⟩ := pget p3 gi
            rw [e]
            exact (elw b hb).same (s2.trans s3)
          · have := fm_len (fun j => xs[j]?.bind fun x => wl[x.toNat]?) (xs.map V.int).length
            rw [p3.length]
            rw [List.length_map, pm.length_eq, rg_len] at this
            rw [List.length_map, pm.length_eq, rg_len]
            omega
      · refine ⟨nu, rfl, _, hS1, fun p np => ?_⟩
        have s2 := same_upd (o := HO.lst (cutV (ns.map V.int) (some 1) (some 11))) np
        have s02 := s0.trans (s1.trans s2)
        obtain ⟨m, hm⟩ : ∃ m : List Int, cutV (ns.map V.int) (some 1) (some 11) = m.map V.int := ⟨_, by unfold cutV; rw [← List.map_drop, ← List.map_take]⟩
        refine ⟨d, q, p, ds, wl, D, lastF L, m, r, rfl, s02 _ _ hd, pd.kt (KT.same s02), s2 _ _ hq, lw.kt (KT.same s2), by rw [← lw.len]; omega, ?_, r12, fun L' ws p' H' pm s3 _ hp lw' => ret L' ws p' H' (by rw [pm.length_eq, ← lw.len]; omega) (fun c hc => ilw c (pm.mem_iff.mp hc)) (s02.trans s3) hp lw'⟩
        rw [upd_same, hm]
      · refine ⟨us, .inl (SqL.of (s1 _ _ hl1)), fun o no => ite_same fun σ hσ => ?_⟩
        have so := same_upd (o := HO.lst us) no
        obtain ⟨o2, os, rfl, ho2, eo2, l2⟩ : ∃ (o2 : Addr) (os : List V), σ = [some (V.int c), some (V.ref l), some (V.int ↑r), some (V.ref b), some (V.ref d), some (V.ref nu), some (V.int y), none, some (V.ref q), none, some (V.ref o2), none] ∧ upd H1 o (HO.lst us) o2 = some (.lst os) ∧ (∀ v ∈ os, ElI r (upd H1 o (HO.lst us)) v) ∧ os.length ≤ 60 := by
          rcases hσ with ⟨_, e⟩ | ⟨_, e⟩
          · exact ⟨q, wl, e, so _ _ hq, fun v hv => (elw v hv).same so, by omega⟩
          · exact ⟨o, us, e, upd_same, fun v hv => (el1 v hv).same (s1.trans so), by omega⟩
        have s1o := s1.trans so
        generalize upd H1 o (HO.lst us) = H2 at so s1o ho2 eo2 ⊢
        refine for_iterW ?_
        walk_at "rd"
        refine ⟨_, SqL.of (s1o _ _ hnu), _, at_of (j := 1) rfl g1, x1, rfl, by decide, by omega, by omega, ?_⟩
        have w0 := Int.emod_nonneg x1 (show (4 : Int) ≠ 0 by decide)
        have w1 := Int.emod_lt_of_pos x1 (show (0 : Int) < 4 by decide)
        obtain ⟨w, ew, w4⟩ : ∃ w : Nat, (1 + x1 % 4).toNat = w ∧ w ≤ 4 := ⟨_, rfl, by omega⟩
        rw [ew]
        have cat : ∀ {Hx : Hp} {p1 p2 : Addr} {xs ys : List V} {Q' : VK}, Hx p1 = some (.lst xs) → Hx p2 = some (.lst ys) → xs.length + ys.length ≤ 2000 → (∀ p, Hx p = none → Q' (.ref p) (upd Hx p (.lst (xs ++ ys)))) → rCat (.ref p1) (.ref p2) Hx Q' := fun h1 h2 h3 h4 => ⟨_, _, _, _, rfl, rfl, h1, h2, Nat.le_of_lt (len_big (by omega)), h4⟩
        have kn : ∀ {Ha Hb : Hp} {zs : List V}, Same Ha Hb → (∀ v ∈ zs, ElI r Ha v) → ∀ v ∈ zs, ElI r Hb v := fun s h v hv => (h v hv).same s
        obtain ⟨Pv, hPv⟩ : ∃ Pv : Nat → L2.St → Hp → Prop, Pv = (fun i σ Hx => ∃ (t : Addr) (zs : List V) (v9 v11 : Option V), σ = [some (V.int c), some (V.ref l), some (V.int ↑r), some (V.ref b), some (V.ref d), some (V.ref nu), some (V.int y), none, some (V.ref q), v9, some (V.ref t), v11] ∧ Same H2 Hx ∧ Hx t = some (.lst zs) ∧ (∀ v ∈ zs, ElI r Hx v) ∧ zs.length + 2 ≤ 62 * 2 ^ i) := ⟨_, rfl⟩
        refine for_range (lo := 0) (n := w) Pv (by rw [hPv]; exact ⟨o2, os, none, none, rfl, Same.refl _, ho2, eo2, (by show os.length + 2 ≤ 62 * 1; omega)⟩) (fun i σ Hx hi pv => ?_) (fun σ Hx pv => ?_)
        · rw [hPv] at pv
          obtain ⟨t, zs, v9, v11, rfl, sm, ht, ez, zl⟩ := pv
          have pw : 2 ^ (i + 1) = 2 * 2 ^ i := by rw [Nat.pow_succ]; omega
          have p3 : 2 ^ i ≤ 2 ^ 3 := Nat.pow_le_pow_right (by decide) (by omega)
          obtain ⟨xk, gk⟩ := gN (2 + i) (by omega)
          walk_at "rd"
          refine ⟨_, .inl (SqL.of ht), ite2 (fun lt => ?_) (fun _ => ?_)⟩
          rotate_left
          · rw [hPv]
            exact ⟨t, zs, _, _, rfl, sm, ht, ez, by omega⟩
          refine ⟨_, SqL.of (sm _ _ (s1o _ _ hnu)), _, at_of (j := 2 + i) (by omega) gk, xk, rfl, _, .inl (SqL.of ht), by omega, ?_⟩
          have q0 := Int.emod_nonneg xk (show ((zs.length : Int) - 1) ≠ 0 by omega)
          have q1 := Int.emod_lt_of_pos xk (show (0 : Int) < (zs.length : Int) - 1 by omega)
          obtain ⟨j, ej⟩ : ∃ j : Nat, xk % ((zs.length : Int) - 1) = j := ⟨(xk % ((zs.length : Int) - 1)).toNat, by omega⟩
          rw [ej] at q0 q1 ⊢
          obtain ⟨va, ga⟩ : ∃ v, zs[j + 1]? = some v := ⟨zs[j + 1]'(by omega), List.getElem?_eq_getElem (by omega)⟩
          obtain ⟨vb, gb⟩ : ∃ v, zs[j]? = some v := ⟨zs[j]'(by omega), List.getElem?_eq_getElem (by omega)⟩
          refine ⟨zs, SqL.of ht, fun p np => ?_⟩
          have t1 := same_upd (o := HO.lst (cutV zs none (some (j : Int)))) np
          refine ⟨zs, SqL.of (t1 _ _ ht), va, at_of (j := j + 1) (by omega) ga, zs, SqL.of (t1 _ _ ht), vb, at_of (j := j) rfl gb, by decide, fun p1 np1 => ?_⟩
          have t2 := same_upd (o := HO.lst [va, vb]) np1
          have b1 := cutV_length zs none (some (j : Int))
          have b2 := cutV_length zs (some ((j : Int) + 2)) none
          refine cat (t2 _ _ upd_same) upd_same (by show (cutV zs none (some (j : Int))).length + 2 ≤ 2000; omega) fun p2 np2 => ?_
          have t3 := same_upd (o := HO.lst (cutV zs none (some (j : Int)) ++ [va, vb])) np2
          refine ⟨zs, SqL.of ((t1.trans (t2.trans t3)) _ _ ht), fun p4 np4 => ?_⟩
          have t4 := same_upd (o := HO.lst (cutV zs (some ((j : Int) + 2)) none)) np4
          refine cat (t4 _ _ upd_same) upd_same (by rw [List.length_append]; show (cutV zs none (some (j : Int))).length + 2 + _ ≤ 2000; omega) fun p5 np5 => ?_
          have t5 := same_upd (o := HO.lst (cutV zs none (some (j : Int)) ++ [va, vb] ++ cutV zs (some ((j : Int) + 2)) none)) np5
          have tt := t1.trans (t2.trans (t3.trans (t4.trans t5)))
          rw [hPv]
          refine ⟨p5, _, _, _, rfl, sm.trans tt, upd_same, fun v hv => kn tt ez v ?_, by rw [List.length_append, List.length_append]; show (cutV zs none (some (j : Int))).length + 2 + _ + 2 ≤ _; omega⟩
          rcases List.mem_append.mp hv with h | h
          · rcases List.mem_append.mp h with h | h
            · exact mem_cutV h
            · rcases List.mem_cons.mp h with e | e
              · rw [e]; exact List.mem_of_getElem? ga
              · rw [List.mem_singleton.mp e]; exact List.mem_of_getElem? gb
          · exact mem_cutV h
        · rw [hPv] at pv
          obtain ⟨t, zs, v9, v11, rfl, sm, ht, ez, zl⟩ := pv
          have p3 : 2 ^ w ≤ 2 ^ 4 := Nat.pow_le_pow_right (by decide) w4
          walk_at "rd"
          exact retE t zs Hx (s1o.trans sm) ht ez (by omega)
end

/-! ### k21: the law -/
abbrev sLaw : Stmt := topS 47
theorem best_sm {H : Hp} {S S' : List Int → Prop} {v v' : V} (h : BestOf H S v) (h' : BestOf H S' v') (e : ∀ q, S q ↔ S' q) (len : ∀ q, S q → q.length ≤ 100000) (n : Nat) : Sm H (n + 1) v' v := by
  rcases h with ⟨q, t, rfl, ht, hq, mq⟩ | ⟨rfl, no⟩
  · rcases h' with ⟨q', t', rfl, ht', hq', mq'⟩ | ⟨rfl, no'⟩
    · have eq : q = q' := sle_anti (mq q' ((e q').mpr hq')) (mq' q ((e q).mp hq))
      subst eq
      exact sm_flatsT ht' ht (flat_intsV q) (by rw [List.length_map]; exact len q hq) n
    · exact absurd ((e q).mp hq) (no' q)
  · rcases h' with ⟨q', t', rfl, ht', hq', mq'⟩ | ⟨rfl, no'⟩
    · exact absurd ((e q').mpr hq') (no q')
    · exact Sm.flat rfl
theorem best_iff {H : Hp} {S S' : List Int → Prop} {v : V} (h : BestOf H S v) (e : ∀ q, S q ↔ S' q) : BestOf H S' v := by
  rcases h with ⟨q, t, e1, e2, e3, e4⟩ | ⟨e1, e2⟩
  · exact .inl ⟨q, t, e1, e2, (e q).mp e3, fun q' h => e4 q' ((e q').mpr h)⟩
  · exact .inr ⟨e1, fun q h => e2 q ((e q).mpr h)⟩
theorem gc_tup {β : Type} {K : PySem.W.Frag} {a : Addr} {xs : List V} {i : Nat} {tt : TT} {te : TE} {σ : L2.St} {H1 : Hp} {Q : VK} (rel : Hp → V → β → Prop) (up : ∀ H H' v b, rel H v b → KT H H' → rel H' v b) (sel : Nat → Option β) (ha : H1 a = some (.tup xs)) (len : xs.length ≤ 100000)
    (step : ∀ (j : Nat) (x : V) (Hx : Hp) (A : VK) (B : Hp → Prop), xs[j]? = some x → Same H1 Hx → (∀ v b Hy, sel j = some b → Same Hx Hy → rel Hy v b → A v Hy) → (∀ Hy, sel j = none → Same Hx Hy → B Hy) → tt (σ.set i (some x)) Hx fun c H3 => if c = true then te (σ.set i (some x)) H3 A else B H3)
    (q : ∀ o ys H', Same H1 H' → H1 o = none → H' o = some (.lst ys) → Paired (rel H') ys ((List.range xs.length).filterMap sel) → Q (.ref o) H') :
    tLc (fun _ H R => R (Itt K a) H) (gName i) tt te [i] σ H1 Q := by
  intro D nD
  obtain ⟨Pv, hPv⟩ : ∃ Pv : Nat → Hp → Prop, Pv = (fun j Hx => ∃ ys, Same H1 Hx ∧ Hx D = some (.lst ys) ∧ Paired (rel Hx) ys ((List.range j).filterMap sel)) := ⟨_, rfl⟩
  refine lc_tup (K := K) (a := a) (xs := xs) Pv (by rw [hPv]; exact ⟨[], same_upd nD, upd_same, Paired.nil⟩) (fun j H' _ pv => by rw [hPv] at pv; obtain ⟨_, sm, _⟩ := pv; exact SqT.of (sm _ _ ha)) (fun j x H' gx pv => ?_) (fun H' pv => ?_)
  · rw [hPv] at pv
    obtain ⟨ys, sm, hD, pr⟩ := pv
    have jl := (List.getElem?_eq_some_iff.mp gx).1
    have yl : ys.length ≤ j := by rw [pr.length]; exact fm_len sel j
    have ew : (wipe σ [i]).set i (some x) = σ.set i (some x) := by show (σ.set i none).set i (some x) = _; rw [List.set_set]
    show wipe ((wipe σ [i]).set i (some x)) [i] = wipe σ [i] ∧ tt ((wipe σ [i]).set i (some x)) H' fun c H3 => if c = true then te ((wipe σ [i]).set i (some x)) H3 _ else _
    rw [ew]
    refine ⟨by show (σ.set i (some x)).set i none = σ.set i none; rw [List.set_set], ?_⟩
    refine step j x H' _ _ gx sm (fun v b Hy es sy r => ?_) (fun Hy es sy => ?_)
    · have hD2 := sy _ _ hD
      refine ⟨ys, hD2, len_big (by omega), ?_⟩
      rw [hPv]
      refine ⟨ys ++ [v], same_ch (sm.trans sy) nD, upd_same, ?_⟩
      rw [fm_step, es]
      have kt : KT Hy (upd Hy D (HO.lst (ys ++ [v]))) := KT.lst hD2
      exact Paired.snoc (Paired.mapP pr fun v b h => up _ _ _ _ (up _ _ _ _ h (KT.same sy)) kt) (up _ _ _ _ r kt)
    · rw [hPv]
      refine ⟨ys, sm.trans sy, sy _ _ hD, ?_⟩
      rw [fm_step, es, List.append_nil]
      exact Paired.mapP pr fun v b h => up _ _ _ _ h (KT.same sy)
  · rw [hPv] at pv
    obtain ⟨ys, sm, hD, pr⟩ := pv
    exact q D ys H' sm nD hD pr
theorem lc_filtT {K : PySem.W.Frag} {a : Addr} {xs : List Int} {i : Nat} {tt : TT} {p : Int → Bool} {σ : L2.St} {H1 : Hp} {Q : VK} (ha : H1 a = some (.tup (xs.map V.int))) (len : xs.length ≤ 100000) (hi : i < σ.length)
    (step : ∀ (x : Int) (Hx : Hp) (B : Bool → Hp → Prop), x ∈ xs → Same H1 Hx → B (p x) Hx → tt (σ.set i (some (.int x))) Hx B)
    (q : ∀ o H', Same H1 H' → H1 o = none → H' o = some (.lst ((xs.filter p).map V.int)) → Q (.ref o) H') :
    tLc (fun _ H R => R (Itt K a) H) (gName i) tt (tVar i) [i] σ H1 Q := by
  refine gc_tup IsI (fun _ _ _ _ h _ => h) (fun j => xs[j]?.bind fun x => if p x = true then some x else none) ha (by rw [List.length_map]; exact len) (fun j x Hx A B gx sx hA hB => ?_) (fun o ys H' s no ho pr => ?_)
  · rw [List.getElem?_map] at gx
    cases e : xs[j]? with
    | none => rw [e] at gx; cases gx
    | some y =>
      rw [e] at gx hA hB
      have ex := Option.some.inj gx
      subst ex
      refine step y Hx _ (List.mem_of_getElem? e) sx ?_
      by_cases c : p y = true
      · rw [if_pos c]
        exact ⟨_, by rw [List.getElem?_set_self hi], hA _ y Hx (if_pos c) (Same.refl _) rfl⟩
      · rw [if_neg c]
        exact hB Hx (if_neg c) (Same.refl _)
  · refine q o H' s no ?_
    have e := isI_map pr
    rw [List.length_map, fm_range (L := xs) (fun x => if p x = true then some x else none), fm_if] at e
    rw [e] at ho
    exact ho
/-- the least parting path has a room more than each telling opening has doors -/
theorem due_len {r : Nat} {D : List Pr} {A B : List Cl} (drs : Drs r D) (iA : InR r A) (iB : InR r B) {F : List (List Pr)} (tell : Tell (UnlT r A B) (subsF D) F) {q : List Int} (hq : Prt D A B q ∧ ∀ x ∈ q, 0 ≤ x ∧ x < (r : Int)) (le : ∀ q', (Prt D A B q' ∧ ∀ x ∈ q', 0 ≤ x ∧ x < (r : Int)) → sle q q') : F ≠ [] ∧ ∀ O ∈ F, q.length = O.length + 1 := by
  obtain ⟨O', hs', _, hT', l'⟩ := prt_opens drs hq.1 hq.2
  rcases tell with ⟨_, h⟩ | ⟨m, _, lem, ne, mem⟩
  · exact absurd hT' (h O' hs')
  · refine ⟨ne, fun O hO => ?_⟩
    obtain ⟨hs, hT, hm⟩ := (mem O).mp hO
    obtain ⟨q1, pr, inr, _, ql⟩ := least_path drs iA iB hs (List.Nodup.sublist (subsF_subl D O hs) drs.asc.nodup) hT hm lem
    have h1 := lem O' hs' hT'
    have h2 : q.length ≤ q1.length := by
      rcases le q1 ⟨pr, inr⟩ with h | h | h
      · rw [h]; exact Nat.le_refl _
      · exact Nat.le_of_lt h
      · exact Nat.le_of_eq h.1
    omega
theorem due_none {r : Nat} {D : List Pr} {A B : List Cl} (drs : Drs r D) (iA : InR r A) (iB : InR r B) {F : List (List Pr)} (tell : Tell (UnlT r A B) (subsF D) F) (no : ∀ q, ¬ (Prt D A B q ∧ ∀ x ∈ q, 0 ≤ x ∧ x < (r : Int))) : F = [] := by
  rcases tell with ⟨e, _⟩ | ⟨m, _, lem, ne, mem⟩
  · exact e
  · obtain ⟨O, hO⟩ := List.exists_mem_of_ne_nil _ ne
    obtain ⟨hs, hT, hm⟩ := (mem O).mp hO
    obtain ⟨q1, pr, inr, _, _⟩ := least_path drs iA iB hs (List.Nodup.sublist (subsF_subl D O hs) drs.asc.nodup) hT hm lem
    exact absurd ⟨pr, inr⟩ (no q1)
section
variable {P : Program} {w : World} {K : PySem.W.Frag} {mg : Str → Option Value} {base : Heap}
theorem scLaw : FnScope ["script", "numbers", "rooms", "doors", "words", "first", "logs", "lasts", "telling", "due", "house", "handed", "path", "unlike", "alone", "r"] ["script"] (defScope sLaw) := ⟨rfl, rfl, rfl, by decide +kernel, rfl, by decide +kernel, by decide +kernel⟩
def spLaw (K : PySem.W.Frag) : Sp := fun vs H Q _ => ∃ (a : Addr) (ns : List Int), vs = [.ref a] ∧ SqL K H a (ns.map V.int) ∧ ns.length ≤ 63 ∧ ∀ H', Q (.bl true) H'
set_option maxHeartbeats 4000000 in
theorem ok_law {f C fi fo f1 f2 f3 f4 f5 f6 f7 f8 f9 f10 f11 f12 f13 f14 f15 : Addr} {fd fdi fdo fd1 fd2 fd3 fd4 fd5 fd6 fd7 fd8 fd9 fd10 fd11 fd12 fd13 fd14 fd15 : FuncData} (F : Fun K "law" "law" sLaw f fd) (T : Bi mg) (U : Hs K mg C) (M : Mk K C fi) (Gi : FnOk P w K mg base CX0 2 fi fdi ["self", "rooms", "doors"] (spHinit C)) (bi : Binds K fdi ["self", "rooms", "doors"] [])
    (m_doors : Md P w K mg base C "doors" ["self"] 1 (spHdoors C) fo fdo)
    (d__law_cell : Df P w K mg base "_law_cell" ["script", "k"] 1 (spCell K) f1 fd1) (d__law_numbers : Df P w K mg base "_law_numbers" ["cell", "count"] 1 (spNum K) f2 fd2) (d__law_doors : Df P w K mg base "_law_doors" ["numbers", "rooms"] 2 (spDrs K) f3 fd3) (d__law_fewer : Df P w K mg base "_law_fewer" ["doors", "most", "number"] 1 (spFew K) f4 fd4)
    (d__law_pool : Df P w K mg base "_law_pool" ["cell"] 2 spPo4 f5 fd5) (d__law_any_log : Df P w K mg base "_law_any_log" ["cell", "rooms", "words"] 2 spAny f6 fd6) (d__law_calls : Df P w K mg base "_law_calls" ["script", "at", "rooms", "words", "most"] 2 (spLcs K) f7 fd7)
    (d__law_other : Df P w K mg base "_law_other" ["cell", "log", "rooms", "words", "doors"] 3 spLoo f8 fd8) (d__law_last : Df P w K mg base "_law_last" ["log"] 1 spLast f9 fd9) (d__law_telling : Df P w K mg base "_law_telling" ["rooms", "doors", "logs"] 4 spTel f10 fd10) (d__law_due : Df P w K mg base "_law_due" ["rooms", "logs", "telling"] 4 spDue f11 fd11)
    (d__law_same : Df P w K mg base "_law_same" ["got", "due"] 4 (spSame 3) f12 fd12) (d_parting_path : Df P w K mg base "parting_path" ["house", "first", "second"] 4 (spPp C) f13 fd13) (d__law_unlike : Df P w K mg base "_law_unlike" ["rooms", "logs", "opening"] 3 spUnl f14 fd14) (d__law_path_doors : Df P w K mg base "_law_path_doors" ["path"] 1 spPdo f15 fd15) : FnOk P w K mg base CX0 6 f fd ["script"] (spLaw K) := by
  refine F.ok scLaw (fun vs H Q E h => ?_) (fun cdv A0 outer s H vs Q E hr h => ?_)
  · obtain ⟨a, ns, rfl, _⟩ := h
    rfl
  · obtain ⟨a, ss, rfl, hS, s63, q⟩ := h
    refine ⟨_, (pss_cons (ps_set (i := 1) scLaw.nd rfl (Or.inl rfl) (pe_call d__law_numbers.ok (hr.mono (by decide)) (by rfl) d__law_numbers.at_ d__law_numbers.kp d__law_numbers.b .nil pass0 (pa_cons (pe_call d__law_cell.ok (hr.mono (by decide)) (by rfl) d__law_cell.at_ d__law_cell.kp d__law_cell.b .nil pass0 (pa_cons (pv 0) (pa_cons pe_int pa_nil))) (pa_cons pe_int pa_nil))))
      (pss_cons (ps_set (i := 2) scLaw.nd rfl (Or.inl rfl) (pe_ix ix_list (pe_lst (pa_cons pe_int (pa_cons pe_int (pa_cons pe_int (pa_cons pe_int (pa_cons pe_int (pa_cons pe_int (pa_cons pe_int (pa_cons pe_int (pa_cons pe_int (pa_cons pe_int pa_nil))))))))))) (pe_op op_mod (pe_callTy cr_intI (by rfl) T.int (by decide +kernel) (pa_cons (pe_ix ix_list (pv 1) pe_int (fun _ _ => rfl)) pa_nil)) pe_int) (fun _ _ => rfl)))
      (pss_cons (ps_set (i := 3) scLaw.nd rfl (Or.inl rfl) (pe_call d__law_fewer.ok (hr.mono (by decide)) (by rfl) d__law_fewer.at_ d__law_fewer.kp d__law_fewer.b .nil pass0 (pa_cons (pe_call d__law_doors.ok (hr.mono (by decide)) (by rfl) d__law_doors.at_ d__law_doors.kp d__law_doors.b .nil pass0 (pa_cons (pv 1) (pa_cons (pv 2) pa_nil))) (pa_cons pe_int (pa_cons (pe_ix ix_list (pv 1) pe_int (fun _ _ => rfl)) pa_nil)))))
      (pss_cons (ps_set (i := 4) scLaw.nd rfl (Or.inl rfl) (pe_call d__law_pool.ok (hr.mono (by decide)) (by rfl) d__law_pool.at_ d__law_pool.kp d__law_pool.b .nil pass0 (pa_cons (pe_call d__law_cell.ok (hr.mono (by decide)) (by rfl) d__law_cell.at_ d__law_cell.kp d__law_cell.b .nil pass0 (pa_cons (pv 0) (pa_cons pe_int pa_nil))) pa_nil)))
      (pss_cons (ps_set (i := 5) scLaw.nd rfl (Or.inl rfl) (pe_op op_cat (pe_call d__law_any_log.ok (hr.mono (by decide)) (by rfl) d__law_any_log.at_ d__law_any_log.kp d__law_any_log.b .nil pass0 (pa_cons (pe_call d__law_cell.ok (hr.mono (by decide)) (by rfl) d__law_cell.at_ d__law_cell.kp d__law_cell.b .nil pass0 (pa_cons (pv 0) (pa_cons pe_int pa_nil))) (pa_cons (pv 2) (pa_cons (pv 4) pa_nil)))) (pe_call d__law_calls.ok (hr.mono (by decide)) (by rfl) d__law_calls.at_ d__law_calls.kp d__law_calls.b .nil pass0 (pa_cons (pv 0) (pa_cons pe_int (pa_cons (pv 2) (pa_cons (pv 4) (pa_cons pe_int pa_nil))))))))
      (pss_cons (ps_set (i := 6) scLaw.nd rfl (Or.inl rfl) (pe_lst (pa_cons (pe_slice sl_list (pv 5) po_none (po_some pe_int)) (pa_cons (pe_call d__law_other.ok (hr.mono (by decide)) (by rfl) d__law_other.at_ d__law_other.kp d__law_other.b .nil pass0 (pa_cons (pe_call d__law_cell.ok (hr.mono (by decide)) (by rfl) d__law_cell.at_ d__law_cell.kp d__law_cell.b .nil pass0 (pa_cons (pv 0) (pa_cons pe_int pa_nil))) (pa_cons (pe_slice sl_list (pv 5) po_none (po_some pe_int)) (pa_cons (pv 2) (pa_cons (pv 4) (pa_cons (pv 3) pa_nil)))))) pa_nil))))
      (pss_cons (ps_set (i := 7) scLaw.nd rfl (Or.inl rfl) (pe_lst (pa_cons (pe_call d__law_last.ok (hr.mono (by decide)) (by rfl) d__law_last.at_ d__law_last.kp d__law_last.b .nil pass0 (pa_cons (pe_ix ix_list (pv 6) pe_int (fun _ _ => rfl)) pa_nil)) (pa_cons (pe_call d__law_last.ok (hr.mono (by decide)) (by rfl) d__law_last.at_ d__law_last.kp d__law_last.b .nil pass0 (pa_cons (pe_ix ix_list (pv 6) pe_int (fun _ _ => rfl)) pa_nil)) pa_nil))))
      (pss_cons (ps_set (i := 8) scLaw.nd rfl (Or.inl rfl) (pe_call d__law_telling.ok (hr.mono (by decide)) (by rfl) d__law_telling.at_ d__law_telling.kp d__law_telling.b .nil pass0 (pa_cons (pv 2) (pa_cons (pv 3) (pa_cons (pv 7) pa_nil)))))
      (pss_cons (ps_set (i := 9) scLaw.nd rfl (Or.inl rfl) (pe_call d__law_due.ok (hr.mono (by decide)) (by rfl) d__law_due.at_ d__law_due.kp d__law_due.b .nil pass0 (pa_cons (pv 2) (pa_cons (pv 7) (pa_cons (pv 8) pa_nil)))))
      (pss_cons (ps_set (i := 10) scLaw.nd rfl (Or.inl rfl) (pe_make M Gi (hr.mono (by decide)) (by rfl) U.mgC bi .nil pass0 (pa_cons (pv 2) (pa_cons (pe_callTy call_list_of (by rfl) T.list (by decide +kernel) (pa_cons (pv 3) pa_nil)) pa_nil))))
      (pss_cons (ps_set (i := 11) scLaw.nd rfl (Or.inl rfl) (pe_lst (pa_cons (pe_callTy call_list_of (by rfl) T.list (by decide +kernel) (pa_cons (pe_ix ix_list (pv 6) pe_int (fun _ _ => rfl)) pa_nil)) (pa_cons (pe_callTy call_list_of (by rfl) T.list (by decide +kernel) (pa_cons (pe_ix ix_list (pv 6) pe_int (fun _ _ => rfl)) pa_nil)) pa_nil))))
      (pss_cons (ps_set (i := 12) scLaw.nd rfl (Or.inl rfl) (pe_call d_parting_path.ok (hr.mono (by decide)) (by rfl) d_parting_path.at_ d_parting_path.kp d_parting_path.b .nil pass0 (pa_cons (pv 10) (pa_cons (pe_ix ix_list (pv 11) pe_int (fun _ _ => rfl)) (pa_cons (pe_ix ix_list (pv 11) pe_int (fun _ _ => rfl)) pa_nil)))))
      (pss_cons (ps_if (PW.pt (pw_or (pt_not (pt_val (pe_call d__law_same.ok (hr.mono (by decide)) (by rfl) d__law_same.at_ d__law_same.kp d__law_same.b .nil pass0 (pa_cons (pv 12) (pa_cons (pv 9) pa_nil))))) (pw_or1 (pt_not (pt_val (pe_call d__law_same.ok (hr.mono (by decide)) (by rfl) d__law_same.at_ d__law_same.kp d__law_same.b .nil pass0 (pa_cons (pe_call d_parting_path.ok (hr.mono (by decide)) (by rfl) d_parting_path.at_ d_parting_path.kp d_parting_path.b .nil pass0 (pa_cons (pv 10) (pa_cons (pe_ix ix_list (pv 11) pe_int (fun _ _ => rfl)) (pa_cons (pe_ix ix_list (pv 11) pe_int (fun _ _ => rfl)) pa_nil)))) (pa_cons (pv 9) pa_nil))))))))
      (pss_one (ps_ret pe_bl))
      pss_nil)
      (pss_cons (ps_if (pt_cmpR op_notN (pv 9) pe_non (nomark _))
      (pss_cons (ps_set (i := 13) scLaw.nd rfl (Or.inr rfl) (pe_call d__law_unlike.ok (hr.mono (by decide)) (by rfl) d__law_unlike.at_ d__law_unlike.kp d__law_unlike.b .nil pass0 (pa_cons (pv 2) (pa_cons (pv 6) (pa_cons (pe_call d__law_path_doors.ok (hr.mono (by decide)) (by rfl) d__law_path_doors.at_ d__law_path_doors.kp d__law_path_doors.b .nil pass0 (pa_cons (pv 12) pa_nil)) pa_nil)))))
        (pss_cons (ps_setLc (i := 14) (own := [("r", 15)]) (te := (tVar 15)) (tt := (tTest (tOp (rIn K true) (tVar 15) (tVar 13)))) (by rfl) scLaw.nd rfl rfl (sw_true rfl rfl rfl (by decide +kernel)) (pi_tup (pv 12)) (blkOk_by (N := ["script", "numbers", "rooms", "doors", "words", "first", "logs", "lasts", "telling", "due", "house", "handed", "path", "unlike", "alone", "r"]) (sc := defScope sLaw) (by decide +kernel)) (fun _ _ _ _ _ => pg_name (i := 15) scLaw.nd rfl (Or.inl rfl)) (fun _ _ _ _ _ => (pts_one (pt_cmpR op_notIn_seq (pv 15) (pv 13) (by rfl)))) (fun _ _ _ _ _ => (pv 15)))
        (pss_one (ps_if (PW.pt (pw_or (pt_cmpR op_neI (pe_callB call_len_seq (by rfl) T.len (by decide +kernel) (pa_cons (pv 12) pa_nil)) (pe_op op_add (pe_callB call_len_seq (by rfl) T.len (by decide +kernel) (pa_cons (pe_ix ix_list (pv 8) pe_int (fun _ _ => rfl)) pa_nil)) pe_int) (nomark _)) (pw_or1 (pt_cmpR op_gt (pe_callB call_len_seq (by rfl) T.len (by decide +kernel) (pa_cons (pv 14) pa_nil)) pe_int (nomark _)))))
        (pss_one (ps_ret pe_bl))
        pss_nil))))
      pss_nil)
      (pss_one (ps_ret (pe_and (pe_call d__law_same.ok (hr.mono (by decide)) (by rfl) d__law_same.at_ d__law_same.kp d__law_same.b .nil pass0 (pa_cons (pv 11) (pa_cons (pv 6) pa_nil))) (pe_and (pe_call d__law_same.ok (hr.mono (by decide)) (by rfl) d__law_same.at_ d__law_same.kp d__law_same.b .nil pass0 (pa_cons (pe_meth0 (pv 10) U.cl m_doors.m m_doors.ok (hr.mono (by decide)) m_doors.b .nil pass0) (pa_cons (pv 3) pa_nil))) (pe_one (pe_or (pe_cmpR op_notN (pv 9) pe_non (nomark _)) (pe_one (pe_cmpR op_eqI (pe_callB call_len_seq (by rfl) T.len (by decide +kernel) (pa_cons (pv 8) pa_nil)) pe_int (nomark _))))))))))))))))))))))), ?_⟩
    refine sq5 fun N hN => ?_
    walk_at "rd"
    refine ⟨a, ss, 0, rfl, hS, fun c0 _ => ⟨c0, 81, rfl, by decide, fun nl ln H1 N1 s1 fn1 hln => ?_⟩⟩
    obtain ⟨n79, g79⟩ : ∃ x, (nl.map V.int)[79]? = some (.int x) := ⟨nl[79]'(by rw [N1.1]; decide), by rw [List.getElem?_map, List.getElem?_eq_getElem (by rw [N1.1]; decide)]; rfl⟩
    obtain ⟨n80, g80⟩ : ∃ x, (nl.map V.int)[80]? = some (.int x) := ⟨nl[80]'(by rw [N1.1]; decide), by rw [List.getElem?_map, List.getElem?_eq_getElem (by rw [N1.1]; decide)]; rfl⟩
    refine ⟨by decide, fun p10 np10 => ?_⟩
    have s1b := same_upd (o := HO.lst [V.int 6, V.int 5, V.int 4, V.int 5, V.int 3, V.int 6, V.int 4, V.int 5, V.int 2, V.int 1]) np10
    have hp10 := upd_same (H := H1) (a := p10) (o := HO.lst [V.int 6, V.int 5, V.int 4, V.int 5, V.int 3, V.int 6, V.int 4, V.int 5, V.int 2, V.int 1])
    generalize upd H1 p10 (HO.lst [V.int 6, V.int 5, V.int 4, V.int 5, V.int 3, V.int 6, V.int 4, V.int 5, V.int 2, V.int 1]) = H1b at s1b hp10 ⊢
    have hln1 := s1b _ _ hln
    obtain ⟨r, er, hr1, hr12⟩ : ∃ r : Nat, atI [V.int 6, V.int 5, V.int 4, V.int 5, V.int 3, V.int 6, V.int 4, V.int 5, V.int 2, V.int 1] (n79 % 10) = some (V.int (r : Int)) ∧ 1 ≤ r ∧ r ≤ 12 := by
      have y0 := Int.emod_nonneg n79 (show (10 : Int) ≠ 0 by decide)
      have y9 := Int.emod_lt_of_pos n79 (show (0 : Int) < 10 by decide)
      generalize n79 % 10 = y at y0 y9 ⊢
      have : y = 0 ∨ y = 1 ∨ y = 2 ∨ y = 3 ∨ y = 4 ∨ y = 5 ∨ y = 6 ∨ y = 7 ∨ y = 8 ∨ y = 9 := by omega
      rcases this with rfl | rfl | rfl | rfl | rfl | rfl | rfl | rfl | rfl | rfl
      · exact ⟨6, rfl, by decide, by decide⟩
      · exact ⟨5, rfl, by decide, by decide⟩
      · exact ⟨4, rfl, by decide, by decide⟩
      · exact ⟨5, rfl, by decide, by decide⟩
      · exact ⟨3, rfl, by decide, by decide⟩
      · exact ⟨6, rfl, by decide, by decide⟩
      · exact ⟨4, rfl, by decide, by decide⟩
      · exact ⟨5, rfl, by decide, by decide⟩
      · exact ⟨2, rfl, by decide, by decide⟩
      · exact ⟨1, rfl, by decide, by decide⟩
    refine ⟨ln, rfl, _, SqL.of hln1, .int n79, at_of (j := 79) rfl g79, n79, rfl, by decide, _, SqL.of hp10, _, er, ?_⟩
    refine ⟨ln, nl, r, rfl, SqL.of hln1, by rw [N1.1]; omega, hr1, hr12, fun D0 us0 ld0 H2 drs0 s2 fd2 hld0 pD0 => ?_⟩
    refine ⟨ln, rfl, _, SqL.of (s2 _ _ hln1), .int n80, at_of (j := 80) rfl g80, ?_⟩
    refine ⟨ld0, us0, D0, 8, n80, r, rfl, hld0, pD0, drs0, hr12, by decide, by decide, fun D us ld H3 drs d8 s3 nld hld pD => ?_⟩
    have d8 : D.length ≤ 8 := by omega
    have s03 := s1.trans (s1b.trans (s2.trans s3))
    refine ⟨a, ss, 1, rfl, s03.seq hS, fun c1 _ => ⟨c1, rfl, fun Z lz H4 z1 z120 zw s4 nlz hlz => ?_⟩⟩
    have zw17 : ∀ z ∈ Z, wk 17 z := fun z hz => (zw z hz).mono (by decide)
    have s04 := s03.trans s4
    refine ⟨a, ss, 2, rfl, s04.seq hS, fun c2 _ => ⟨c2, r, lz, Z, rfl, hr1, hlz, z1, zw17, fun L1 w1 p1 H5 l1 i1 k1 s5 np1 hp1 lg1 => ?_⟩⟩
    have s05 := s04.trans s5
    refine ⟨a, lz, ss, 4, 12, r, 17, Z, rfl, s05.seq hS, s63, by decide, by decide, hr1, s5 _ _ hlz, z1, zw17, fun M2 w2 p2 H6 l2 i2 k2 _ s6 np2 hp2 lg2 => ?_⟩
    have s06 := s05.trans s6
    have wl1 := lg1.len
    have wl2 := lg2.len
    refine ⟨p1, p2, w1, w2, rfl, rfl, s6 _ _ hp1, hp2, Nat.le_of_lt (len_big (by omega)), fun lf nlf => ?_⟩
    have s7 := same_upd (o := HO.lst (w1 ++ w2)) nlf
    have hlf := upd_same (H := H6) (a := lf) (o := HO.lst (w1 ++ w2))
    have lgF : LG (upd H6 lf (HO.lst (w1 ++ w2))) (w1 ++ w2) (L1 ++ M2) := paired_append (lg1.kt (KT.same (s6.trans s7))) (lg2.kt (KT.same s7))
    have iF : InR r (L1 ++ M2) := fun c hc => by
      rcases List.mem_append.mp hc with h | h
      · exact i1 c h
      · exact i2 c h
    generalize upd H6 lf (HO.lst (w1 ++ w2)) = H7 at s7 hlf lgF ⊢
    generalize L1 ++ M2 = LF at lgF iF
    generalize w1 ++ w2 = wF at hlf lgF
    have s37 := s4.trans (s5.trans (s6.trans s7))
    have s47 := s5.trans (s6.trans s7)
    have s07 := s06.trans s7
    have hld7 := s37 _ _ hld
    have pD7 := pD.kt (KT.same s37)
    have hlz7 := s47 _ _ hlz
    have hS7 := s07.seq hS
    have lA : LG H7 (cutV wF none (some (60 : Int))) (LF.take 60) := by
      rw [show (some (60 : Int)) = some (((60 : Nat) : Int)) from rfl, cut_takeQ]
      exact paired_take lgF 60
    have iA : InR r (LF.take 60) := fun c hc => iF c (List.mem_of_mem_take hc)
    have al : (LF.take 60).length ≤ 60 := by rw [List.length_take]; omega
    generalize LF.take 60 = A at lA iA al
    generalize hwA : cutV wF none (some (60 : Int)) = wA at lA
    refine hN _ _ ?_
    clear hN N
    clear s37 s47 s07 s7 s06 s6 s05 s5 s04 s4 s03 s3 s2 s1 s1b lgF iF i1 i2 k1 k2 wl1 wl2 lg1 lg2 hp1 hp2 np1 np2 nlf l1 l2 hlz nlz hld pD fd2 hln hln1 fn1 zw g79 g80 hS hp10 np10 nld hld0 pD0 drs0 er
    refine sq3 fun N hN => ?_
    walk_at "rd"
    refine ⟨wF, SqL.of hlf, fun pa npa => ?_⟩
    rw [hwA]
    have t1 := same_upd (o := HO.lst wA) npa
    have hpa := upd_same (H := H7) (a := pa) (o := HO.lst wA)
    generalize upd H7 pa (HO.lst wA) = G1 at t1 hpa ⊢
    refine ⟨a, ss, 3, rfl, t1.seq hS7, fun c3 _ => ⟨wF, SqL.of (t1 _ _ hlf), fun pa2 npa2 => ?_⟩⟩
    rw [hwA]
    have t2 := same_upd (o := HO.lst wA) npa2
    have hpa2 := upd_same (H := G1) (a := pa2) (o := HO.lst wA)
    generalize upd G1 pa2 (HO.lst wA) = G2 at t2 hpa2 ⊢
    have t02 := t1.trans t2
    refine ⟨pa2, lz, ld, wA, us, A, D, Z, c3, r, rfl, hpa2, lA.kt (KT.same t02), iA, al, t02 _ _ hlz7, z1, zw17, t02 _ _ hld7, pD7.kt (KT.same t02), hr1, hr12, fun B wB pb G3 bl iB t3 hpb lB => ⟨by decide, fun pg npg => ?_⟩⟩
    have t4 := same_upd (o := HO.lst [V.ref pa, V.ref pb]) npg
    have hpg := upd_same (H := G3) (a := pg) (o := HO.lst [V.ref pa, V.ref pb])
    generalize upd G3 pg (HO.lst [V.ref pa, V.ref pb]) = G4 at t4 hpg ⊢
    have t04 := t02.trans (t3.trans t4)
    have hpa4 := (t2.trans (t3.trans t4)) _ _ hpa
    have lA4 := lA.kt (KT.same t04)
    have hpb4 := t4 _ _ hpb
    have lB4 := lB.kt (KT.same t4)
    refine ⟨_, SqL.of hpg, .ref pa, rfl, pa, wA, A, rfl, hpa4, lA4, by omega, fun wA' la G5 t5 nla hla lA5 => ?_⟩
    refine ⟨_, SqL.of (t5 _ _ hpg), .ref pb, rfl, pb, wB, B, rfl, t5 _ _ hpb4, lB4.kt (KT.same t5), bl, fun wB' lb G6 t6 nlb hlb lB6 => ⟨by decide, fun pl npl => ?_⟩⟩
    have t7 := same_upd (o := HO.lst [V.ref la, V.ref lb]) npl
    have hpl := upd_same (H := G6) (a := pl) (o := HO.lst [V.ref la, V.ref lb])
    generalize upd G6 pl (HO.lst [V.ref la, V.ref lb]) = G7 at t7 hpl ⊢
    have t47 := t5.trans (t6.trans t7)
    have t07 := t04.trans t47
    have hla7 := (t6.trans t7) _ _ hla
    have lA7 := lA5.kt (KT.same (t6.trans t7))
    have hlb7 := t7 _ _ hlb
    have lB7 := lB6.kt (KT.same t7)
    have ilA := lastF_inr iA
    have ilB := lastF_inr iB
    refine ⟨pl, ld, la, lb, us, wA', wB', r, D, lastF A, lastF B, rfl, hpl, t07 _ _ hld7, pD7.kt (KT.same t07), d8, hla7, lA7, ilA, hlb7, lB7, ilB, hr12, fun tl zs Fo G8 t8 ntl htl ol f256 tell => hN _ _ ?_⟩
    clear hN N
    have t48 := t47.trans t8
    have t08 := t04.trans t48
    have hld8 := t08 _ _ hld7
    have pD8 := pD7.kt (KT.same t08)
    have hpg8 := t48 _ _ hpg
    have hpa8 := t48 _ _ hpa4
    have lA8 := lA4.kt (KT.same t48)
    have hpb8 := t48 _ _ hpb4
    have lB8 := lB4.kt (KT.same t48)
    have hpl8 := t8 _ _ hpl
    have hla8 := t8 _ _ hla7
    have lAl8 := lA7.kt (KT.same t8)
    have hlb8 := t8 _ _ hlb7
    have lBl8 := lB7.kt (KT.same t8)
    clear t48 t08 t07 t47 t7 t6 t5 t04 t4 t3 t02 t2 t1 hld7 pD7 hpg hpa hpa2 npa npa2 hpa4 lA4 hpb4 lB4 hpl hla7 lA7 hlb7 lB7 hla lA5 hlb lB6 nla nlb npl hpb lB npg hlf lA hwA hS7 hlz7
    refine sq3 fun N hN => ?_
    walk_at "rd"
    refine ⟨pl, tl, la, lb, zs, wA', wB', r, D, lastF A, lastF B, Fo, rfl, hpl8, htl, ol, f256, tell, drs, d8, hla8, lAl8, ilA, hlb8, lBl8, ilB, hr12, fun due K0 t0 best => ?_⟩
    have best := best_iff best (S' := fun q => Prt D A B q ∧ ∀ x ∈ q, 0 ≤ x ∧ x < (r : Int)) fun q => by rw [prt_last, prt_swap, prt_last, prt_swap]
    refine ⟨us, .inl (SqL.of (t0 _ _ hld8)), fun ol2 nol => fun y dx ny ndx ney => ?_⟩
    have t1 := same_upd (o := HO.lst us) nol
    refine use_init ny ndx upd_same ((pD8.kt (KT.same t0)).kt (KT.same t1)) (by rw [mm2_same drs]) drs hr1 hr12 fun own1 K1 hh1 t2 _ => ⟨rfl, ?_⟩
    have t02 := t0.trans (t1.trans t2)
    clear ny ndx ney nol
    refine ⟨_, SqL.of (t02 _ _ hpg8), .ref pa, rfl, pa, rfl, wA, .inl (SqL.of (t02 _ _ hpa8)), fun h0 nh0 => ?_⟩
    have t3 := same_upd (o := HO.lst wA) nh0
    have hh0 := upd_same (H := K1) (a := h0) (o := HO.lst wA)
    generalize upd K1 h0 (HO.lst wA) = K2 at t3 hh0 ⊢
    have t03 := t02.trans t3
    refine ⟨_, SqL.of (t03 _ _ hpg8), .ref pb, rfl, pb, rfl, wB, .inl (SqL.of (t03 _ _ hpb8)), fun h1 nh1 => ⟨by decide, fun hd nhd => hN _ _ ?_⟩⟩
    clear hN N
    have t4 := same_upd (o := HO.lst wB) nh1
    have hh1' := upd_same (H := K2) (a := h1) (o := HO.lst wB)
    generalize upd K2 h1 (HO.lst wB) = K3 at t4 hh1' nhd ⊢
    have t5 := same_upd (o := HO.lst [V.ref h0, V.ref h1]) nhd
    have hhd := upd_same (H := K3) (a := hd) (o := HO.lst [V.ref h0, V.ref h1])
    generalize upd K3 hd (HO.lst [V.ref h0, V.ref h1]) = K4 at t5 hhd ⊢
    have t45 := t4.trans t5
    have t05 := t03.trans t45
    have hh0 := t45 _ _ hh0
    have hh1' := t5 _ _ hh1'
    have best := best.same (t1.trans (t2.trans (t3.trans t45)))
    have hh := hh1.same (t3.trans t45)
    have lA := lA8.kt (KT.same t05)
    have lB := lB8.kt (KT.same t05)
    have hld := t05 _ _ hld8
    have pD := pD8.kt (KT.same t05)
    have hpg := t05 _ _ hpg8
    have hpa := t05 _ _ hpa8
    have hpb := t05 _ _ hpb8
    have htl := t05 _ _ htl
    have ol := ol.same t05
    clear t05 t45 t5 t4 t03 t3 t02 t2 t1 t0 lA8 lB8 hld8 pD8 hpg8 hpa8 hpb8 hh1 nhd nh1 nh0 hpl8 hla8 hlb8 lAl8 lBl8
    refine sq3 fun N hN => ?_
    walk_at "rd"
    have qlen : ∀ q : List Int, (Prt D A B q ∧ ∀ x ∈ q, 0 ≤ x ∧ x < (r : Int)) → q.length ≤ 12 := fun q ⟨hp, hi⟩ => by
      have := ints_len (r := r) hp.1.2.1 hi
      omega
    refine ⟨_, SqL.of hhd, .ref h0, rfl, _, SqL.of hhd, .ref h1, rfl, ?_⟩
    refine pp_of ⟨y, h0, h1, wA, wB, A, B, r, D, own1, rfl, hh, hh0, lA, by omega, iA, hh1', lB, bl, iB, fun v1 K5 t5 b1 => ?_⟩
    have bestv := best.same t5
    refine same_ok (best_sm bestv b1 (fun q => Iff.rfl) (fun q h => Nat.le_trans (qlen q h) (by decide)) 2) ⟨true, rfl, ?_⟩
    rw [if_neg (show ¬ (!true) = true by decide)]
    refine ⟨_, SqL.of (t5 _ _ hhd), .ref h1, rfl, _, SqL.of (t5 _ _ hhd), .ref h0, rfl, ?_⟩
    refine pp_of ⟨y, h1, h0, wB, wA, B, A, r, D, own1, rfl, hh.same t5, t5 _ _ hh1', lB.kt (KT.same t5), bl, iB, t5 _ _ hh0, lA.kt (KT.same t5), by omega, iA, fun v2 K6 t6 b2 => ?_⟩
    have t56 := t5.trans t6
    refine same_ok (best_sm (best.same t56) b2 (fun q => by rw [prt_swap]) (fun q h => Nat.le_trans (qlen q h) (by decide)) 2) ⟨true, rfl, ?_⟩
    rw [if_neg (show ¬ (!true) = true by decide)]
    have hh6 := hh.same t56
    have lA6 := lA.kt (KT.same t56)
    have lB6 := lB.kt (KT.same t56)
    have hld6 := t56 _ _ hld
    have pD6 := pD.kt (KT.same t56)
    have hpg6 := t56 _ _ hpg
    have hpa6 := t56 _ _ hpa
    have hpb6 := t56 _ _ hpb
    have htl6 := t56 _ _ htl
    have ol6 := ol.same t56
    have hh06 := t56 _ _ hh0
    have hh16 := t56 _ _ hh1'
    have hhd6 := t56 _ _ hhd
    have bv := bestv.same t6
    have b1 := b1.same t6
    clear t56 t5 t6 hh lA lB hld pD hpg hpa hpb htl ol hh0 hh1' hhd best bestv b2
    have fin : ∀ (v13 v14 : Option V) (Hx : Hp), Same K6 Hx → (due = .non → Fo = []) → N [some (V.ref a), some (V.ref ln), some (V.int r), some (V.ref ld), some (V.ref lz), some (V.ref lf), some (V.ref pg), some (V.ref pl), some (V.ref tl), some due, some (V.ref y), some (V.ref hd), some v1, v13, v14, none] Hx := fun v13 v14 Hx sx f0 => by
      refine hN _ _ ?_
      walk_at "rd"
      have smk : Sm Hx 3 (.ref hd) (.ref pg) := by
        refine .inr ⟨hd, pg, _, _, rfl, rfl, .inl ⟨sx _ _ hhd6, sx _ _ hpg6⟩, ?_, by show 2 ≤ 100000; decide⟩
        exact (Paired.cons (sm_logs (sx _ _ hh06) (sx _ _ hpa6) (lA6.kt (KT.same sx)) (lA6.kt (KT.same sx)) (by omega) 0) (Paired.cons (sm_logs (sx _ _ hh16) (sx _ _ hpb6) (lB6.kt (KT.same sx)) (lB6.kt (KT.same sx)) (by omega) 0) Paired.nil))
      refine same_ok smk ⟨true, rfl, ?_⟩
      rw [if_pos rfl]
      have hhx := hh6.same sx
      obtain ⟨dx, l0', m0', ls0, nss, h1x, _⟩ := hhx.ex
      refine ⟨dx, _, h1x, hf_no _ _ _ (by decide +kernel) (by decide +kernel) (by decide +kernel), y, r, D, own1, rfl, hhx, fun ws t pw nt => ?_⟩
      have sT : Same Hx (upd Hx t (HO.lst ws)) := same_upd nt
      refine same_ok (sm_pairs upd_same ((sx.trans sT) _ _ hld6) (pw.kt (KT.same sT)) (pD6.kt (KT.same (sx.trans sT))) (by rw [pw.len]; omega) 1) ⟨true, rfl, ?_⟩
      rw [if_pos rfl]
      by_cases c : due = .non
      · rw [if_neg (by rw [decide_eq_true c]; decide)]
        refine ⟨_, .inl (SqL.of ((sx.trans sT) _ _ htl6)), ?_⟩
        rw [decide_eq_true (by rw [ol6.length, f0 c]; rfl)]
        exact q _
      · rw [if_pos (by rw [decide_eq_false c]; rfl)]
        exact q _
    rcases bv with ⟨q1, t, rfl, ht, hq, mq⟩ | ⟨rfl, no⟩
    · rcases b1 with ⟨q2, t2, rfl, ht2, hq2, mq2⟩ | ⟨rfl, no2⟩
      · have eq := sle_anti (mq _ hq2) (mq2 _ hq)
        subst eq
        rw [if_pos (by rw [decide_eq_false (fun z => by cases z)]; rfl)]
        have ql := qlen _ hq
        refine ⟨t2, q1, rfl, ht2, hq.1.1.2.1, by omega, fun p ws E K7 t7 np hp pl7 mE => ?_⟩
        refine ⟨pg, p, pa, pb, ws, wA, wB, r, E, A, B, rfl, t7 _ _ hpg6, hp, pl7, t7 _ _ hpa6, lA6.kt (KT.same t7), iA, t7 _ _ hpb6, lB6.kt (KT.same t7), iB, hr12, fun tu K8 t8 ntu htu => ?_⟩
        have t78 := t7.trans t8
        refine lcW ?_
        walk_at "rd"
        classical
        refine ⟨_, rfl, t2, rfl, ⟨_, SqT.of (t78 _ _ ht2)⟩, lc_filtT (p := fun x => decide (x ∉ unlF r E A B)) (t78 _ _ ht2) (by omega) (by simp) (fun x Hx Y xm sx hY => ?_) fun o K9 t9 no9 ho => ?_⟩
        · walk_at "rd"
          refine ⟨tu, _, rfl, .inl (SqL.of (sx _ _ htu)), rfl, flI _, ?_⟩
          rw [inI, if_pos rfl]
          refine ⟨_, rfl, ?_⟩
          have e : (!decide (x ∈ unlF r E A B)) = decide (x ∉ unlF r E A B) := by by_cases c : x ∈ unlF r E A B <;> simp [c]
          first
            | exact hY
            | (rw [← e] at hY; exact hY)
        · rw [List.filter_eq_nil_iff.mpr fun x hx => by rw [decide_eq_true_iff]; exact not_not_intro (path_unl hq.2 mE hq.1.2 x hx)] at ho
          obtain ⟨ne, ql2⟩ := due_len drs ilA ilB tell (q := q1) (by rw [prt_last, prt_swap, prt_last, prt_swap]; exact hq) fun q' h => mq q' (by rw [prt_last, prt_swap, prt_last, prt_swap] at h; exact h)
          have t79 := t78.trans t9
          obtain ⟨O1, F1, rfl⟩ := List.exists_cons_of_ne_nil ne
          have ol9 := ol6.same t79
          have l0 : 0 < zs.length := by rw [ol9.length]; simp
          obtain ⟨O2, g2, h2⟩ := pget ol9 (List.getElem?_eq_getElem l0)
          cases g2
          obtain ⟨tt1, w1', e1, h1t, p1t⟩ := h2
          refine ⟨_, .inr (SqT.of (t79 _ _ ht2)), _, SqL.of (t79 _ _ htl6), V.ref tt1, atI_nat (j := 0) (by rw [List.getElem?_eq_getElem l0, e1]), tt1, rfl, _, .inl (SqL.of h1t), ?_⟩
          rw [if_neg (by rw [List.length_map, p1t.len, ql2 O1 List.mem_cons_self, decide_eq_true (by omega)]; decide)]
          refine ⟨o, rfl, _, .inl (SqL.of ho), ?_⟩
          rw [if_neg (by decide)]
          exact fin _ _ _ t79 fun z => by cases z
      · exact absurd hq (no2 q1)
    · rw [if_neg (by rw [decide_eq_true rfl]; decide)]
      exact fin _ _ _ (Same.refl _) fun _ => due_none drs ilA ilB tell fun q h => no q (by rw [prt_last, prt_swap, prt_last, prt_swap] at h; exact h)
end

set_option maxHeartbeats 8000000 in
theorem all_mk {l : PySem.W.OpenLaw} {w : World} {K : PySem.W.Frag} {h : Heap} {mg : Str → Option Value} {fa : Addr} (X : K.In h) (G : h.Ns mainGlobals mg) (hfa : mg "law" = some (.ref fa))
    {f_check_room_count : Addr} {od_check_room_count an_check_room_count : Option Addr} {sl_check_room_count : Array (Option Value)} {oc_check_room_count kV_check_room_count dc_check_room_count pm_check_room_count cd_check_room_count ct_check_room_count : Value}
    {f_checked_doors : Addr} {od_checked_doors an_checked_doors : Option Addr} {sl_checked_doors : Array (Option Value)} {oc_checked_doors kV_checked_doors dc_checked_doors pm_checked_doors cd_checked_doors ct_checked_doors : Value}
    {f__law_cell : Addr} {od__law_cell an__law_cell : Option Addr} {sl__law_cell : Array (Option Value)} {oc__law_cell kV__law_cell dc__law_cell pm__law_cell cd__law_cell ct__law_cell : Value}
    {f__law_numbers : Addr} {od__law_numbers an__law_numbers : Option Addr} {sl__law_numbers : Array (Option Value)} {oc__law_numbers kV__law_numbers dc__law_numbers pm__law_numbers cd__law_numbers ct__law_numbers : Value}
    {f__law_names : Addr} {od__law_names an__law_names : Option Addr} {sl__law_names : Array (Option Value)} {oc__law_names kV__law_names dc__law_names pm__law_names cd__law_names ct__law_names : Value}
    {f__law_joined : Addr} {od__law_joined an__law_joined : Option Addr} {sl__law_joined : Array (Option Value)} {oc__law_joined kV__law_joined dc__law_joined pm__law_joined cd__law_joined ct__law_joined : Value}
    {f__law_doors : Addr} {od__law_doors an__law_doors : Option Addr} {sl__law_doors : Array (Option Value)} {oc__law_doors kV__law_doors dc__law_doors pm__law_doors cd__law_doors ct__law_doors : Value}
    {f__law_fewer : Addr} {od__law_fewer an__law_fewer : Option Addr} {sl__law_fewer : Array (Option Value)} {oc__law_fewer kV__law_fewer dc__law_fewer pm__law_fewer cd__law_fewer ct__law_fewer : Value}
    {f__law_word : Addr} {od__law_word an__law_word : Option Addr} {sl__law_word : Array (Option Value)} {oc__law_word kV__law_word dc__law_word pm__law_word cd__law_word ct__law_word : Value}
    {f__law_pool : Addr} {od__law_pool an__law_pool : Option Addr} {sl__law_pool : Array (Option Value)} {oc__law_pool kV__law_pool dc__law_pool pm__law_pool cd__law_pool ct__law_pool : Value}
    {f__law_length : Addr} {od__law_length an__law_length : Option Addr} {sl__law_length : Array (Option Value)} {oc__law_length kV__law_length dc__law_length pm__law_length cd__law_length ct__law_length : Value}
    {f__law_log : Addr} {od__law_log an__law_log : Option Addr} {sl__law_log : Array (Option Value)} {oc__law_log kV__law_log dc__law_log pm__law_log cd__law_log ct__law_log : Value}
    {f__law_any_log : Addr} {od__law_any_log an__law_any_log : Option Addr} {sl__law_any_log : Array (Option Value)} {oc__law_any_log kV__law_any_log dc__law_any_log pm__law_any_log cd__law_any_log ct__law_any_log : Value}
    {f__law_calls : Addr} {od__law_calls an__law_calls : Option Addr} {sl__law_calls : Array (Option Value)} {oc__law_calls kV__law_calls dc__law_calls pm__law_calls cd__law_calls ct__law_calls : Value}
    {f__law_last : Addr} {od__law_last an__law_last : Option Addr} {sl__law_last : Array (Option Value)} {oc__law_last kV__law_last dc__law_last pm__law_last cd__law_last ct__law_last : Value}
    {f__law_reach : Addr} {od__law_reach an__law_reach : Option Addr} {sl__law_reach : Array (Option Value)} {oc__law_reach kV__law_reach dc__law_reach pm__law_reach cd__law_reach ct__law_reach : Value}
    {f__law_quiet : Addr} {od__law_quiet an__law_quiet : Option Addr} {sl__law_quiet : Array (Option Value)} {oc__law_quiet kV__law_quiet dc__law_quiet pm__law_quiet cd__law_quiet ct__law_quiet : Value}
    {f__law_other : Addr} {od__law_other an__law_other : Option Addr} {sl__law_other : Array (Option Value)} {oc__law_other kV__law_other dc__law_other pm__law_other cd__law_other ct__law_other : Value}
    {f__law_openings : Addr} {od__law_openings an__law_openings : Option Addr} {sl__law_openings : Array (Option Value)} {oc__law_openings kV__law_openings dc__law_openings pm__law_openings cd__law_openings ct__law_openings : Value}
    {f__law_pieces : Addr} {od__law_pieces an__law_pieces : Option Addr} {sl__law_pieces : Array (Option Value)} {oc__law_pieces kV__law_pieces dc__law_pieces pm__law_pieces cd__law_pieces ct__law_pieces : Value}
    {f__law_kept : Addr} {od__law_kept an__law_kept : Option Addr} {sl__law_kept : Array (Option Value)} {oc__law_kept kV__law_kept dc__law_kept pm__law_kept cd__law_kept ct__law_kept : Value}
    {f__law_unlike : Addr} {od__law_unlike an__law_unlike : Option Addr} {sl__law_unlike : Array (Option Value)} {oc__law_unlike kV__law_unlike dc__law_unlike pm__law_unlike cd__law_unlike ct__law_unlike : Value}
    {f__law_telling : Addr} {od__law_telling an__law_telling : Option Addr} {sl__law_telling : Array (Option Value)} {oc__law_telling kV__law_telling dc__law_telling pm__law_telling cd__law_telling ct__law_telling : Value}
    {f__law_along : Addr} {od__law_along an__law_along : Option Addr} {sl__law_along : Array (Option Value)} {oc__law_along kV__law_along dc__law_along pm__law_along cd__law_along ct__law_along : Value}
    {f__law_due : Addr} {od__law_due an__law_due : Option Addr} {sl__law_due : Array (Option Value)} {oc__law_due kV__law_due dc__law_due pm__law_due cd__law_due ct__law_due : Value}
    {f__law_same : Addr} {od__law_same an__law_same : Option Addr} {sl__law_same : Array (Option Value)} {oc__law_same kV__law_same dc__law_same pm__law_same cd__law_same ct__law_same : Value}
    {f_words_of : Addr} {od_words_of an_words_of : Option Addr} {sl_words_of : Array (Option Value)} {oc_words_of kV_words_of dc_words_of pm_words_of cd_words_of ct_words_of : Value}
    {f_unlike_room : Addr} {od_unlike_room an_unlike_room : Option Addr} {sl_unlike_room : Array (Option Value)} {oc_unlike_room kV_unlike_room dc_unlike_room pm_unlike_room cd_unlike_room ct_unlike_room : Value}
    {f_last_calls : Addr} {od_last_calls an_last_calls : Option Addr} {sl_last_calls : Array (Option Value)} {oc_last_calls kV_last_calls dc_last_calls pm_last_calls cd_last_calls ct_last_calls : Value}
    {f_last_places : Addr} {od_last_places an_last_places : Option Addr} {sl_last_places : Array (Option Value)} {oc_last_places kV_last_places dc_last_places pm_last_places cd_last_places ct_last_places : Value}
    {f_crossed_pairs : Addr} {od_crossed_pairs an_crossed_pairs : Option Addr} {sl_crossed_pairs : Array (Option Value)} {oc_crossed_pairs kV_crossed_pairs dc_crossed_pairs pm_crossed_pairs cd_crossed_pairs ct_crossed_pairs : Value}
    {f_hall : Addr} {od_hall an_hall : Option Addr} {sl_hall : Array (Option Value)} {oc_hall kV_hall dc_hall pm_hall cd_hall ct_hall : Value}
    {f_first_paths : Addr} {od_first_paths an_first_paths : Option Addr} {sl_first_paths : Array (Option Value)} {oc_first_paths kV_first_paths dc_first_paths pm_first_paths cd_first_paths ct_first_paths : Value}
    {f_first_path : Addr} {od_first_path an_first_path : Option Addr} {sl_first_path : Array (Option Value)} {oc_first_path kV_first_path dc_first_path pm_first_path cd_first_path ct_first_path : Value}
    {f_parting_path : Addr} {od_parting_path an_parting_path : Option Addr} {sl_parting_path : Array (Option Value)} {oc_parting_path kV_parting_path dc_parting_path pm_parting_path cd_parting_path ct_parting_path : Value}
    {f__law_path_doors : Addr} {od__law_path_doors an__law_path_doors : Option Addr} {sl__law_path_doors : Array (Option Value)} {oc__law_path_doors kV__law_path_doors dc__law_path_doors pm__law_path_doors cd__law_path_doors ct__law_path_doors : Value}
    {f_law : Addr} {od_law an_law : Option Addr} {sl_law : Array (Option Value)} {oc_law kV_law dc_law pm_law cd_law ct_law : Value}
    {f_m_init_ : Addr} {od_m_init_ an_m_init_ : Option Addr} {sl_m_init_ : Array (Option Value)} {oc_m_init_ kV_m_init_ dc_m_init_ pm_m_init_ cd_m_init_ ct_m_init_ : Value}
    {f_mdoors : Addr} {od_mdoors an_mdoors : Option Addr} {sl_mdoors : Array (Option Value)} {oc_mdoors kV_mdoors dc_mdoors pm_mdoors cd_mdoors ct_mdoors : Value}
    {f_mneighbours : Addr} {od_mneighbours an_mneighbours : Option Addr} {sl_mneighbours : Array (Option Value)} {oc_mneighbours kV_mneighbours dc_mneighbours pm_mneighbours cd_mneighbours ct_mneighbours : Value}
    {C : Addr}
    {tk_MOST_ROOMS : Tok}
    (aC : PySem.W.nsIn K mainGlobals "House" = some (some (.ref C)))
    (pg : PySem.W.plainGet K C Str.empty = true)
    (hd : PySem.W.hasDictIn K C = true)
    (po : PySem.W.plainOver K C = true)
    (sa : PySem.W.findIn K (.ref C) "__setattr__" = some (some (.builtin "object.__setattr__")))
    (mk : PySem.W.makesIn K C = true)
    (kc : PySem.W.keepIn K (.ref C) = true)
    (a_check_room_count : PySem.W.nsIn K mainGlobals "check_room_count" = some (some (.ref f_check_room_count)))
    (l_check_room_count : K.lookup f_check_room_count = some ⟨oc_check_room_count, od_check_room_count, .func (PySem.W.fnOf "check_room_count" "check_room_count" (defArgs sRoom) (defBody sRoom) (defScope sRoom) .none kV_check_room_count dc_check_room_count pm_check_room_count an_check_room_count cd_check_room_count ct_check_room_count), sl_check_room_count⟩)
    (c_check_room_count : PySem.W.codeIn K cd_check_room_count "check_room_count" = true)
    (k_check_room_count : PySem.W.keepIn K (.ref f_check_room_count) = true)
    (a_checked_doors : PySem.W.nsIn K mainGlobals "checked_doors" = some (some (.ref f_checked_doors)))
    (l_checked_doors : K.lookup f_checked_doors = some ⟨oc_checked_doors, od_checked_doors, .func (PySem.W.fnOf "checked_doors" "checked_doors" (defArgs sChk) (defBody sChk) (defScope sChk) .none kV_checked_doors dc_checked_doors pm_checked_doors an_checked_doors cd_checked_doors ct_checked_doors), sl_checked_doors⟩)
    (c_checked_doors : PySem.W.codeIn K cd_checked_doors "checked_doors" = true)
    (k_checked_doors : PySem.W.keepIn K (.ref f_checked_doors) = true)
    (a__law_cell : PySem.W.nsIn K mainGlobals "_law_cell" = some (some (.ref f__law_cell)))
    (l__law_cell : K.lookup f__law_cell = some ⟨oc__law_cell, od__law_cell, .func (PySem.W.fnOf "_law_cell" "_law_cell" (defArgs sCell) (defBody sCell) (defScope sCell) .none kV__law_cell dc__law_cell pm__law_cell an__law_cell cd__law_cell ct__law_cell), sl__law_cell⟩)
    (c__law_cell : PySem.W.codeIn K cd__law_cell "_law_cell" = true)
    (k__law_cell : PySem.W.keepIn K (.ref f__law_cell) = true)
    (a__law_numbers : PySem.W.nsIn K mainGlobals "_law_numbers" = some (some (.ref f__law_numbers)))
    (l__law_numbers : K.lookup f__law_numbers = some ⟨oc__law_numbers, od__law_numbers, .func (PySem.W.fnOf "_law_numbers" "_law_numbers" (defArgs sNum) (defBody sNum) (defScope sNum) .none kV__law_numbers dc__law_numbers pm__law_numbers an__law_numbers cd__law_numbers ct__law_numbers), sl__law_numbers⟩)
    (c__law_numbers : PySem.W.codeIn K cd__law_numbers "_law_numbers" = true)
    (k__law_numbers : PySem.W.keepIn K (.ref f__law_numbers) = true)
    (a__law_names : PySem.W.nsIn K mainGlobals "_law_names" = some (some (.ref f__law_names)))
    (l__law_names : K.lookup f__law_names = some ⟨oc__law_names, od__law_names, .func (PySem.W.fnOf "_law_names" "_law_names" (defArgs sNam) (defBody sNam) (defScope sNam) .none kV__law_names dc__law_names pm__law_names an__law_names cd__law_names ct__law_names), sl__law_names⟩)
    (c__law_names : PySem.W.codeIn K cd__law_names "_law_names" = true)
    (k__law_names : PySem.W.keepIn K (.ref f__law_names) = true)
    (a__law_joined : PySem.W.nsIn K mainGlobals "_law_joined" = some (some (.ref f__law_joined)))
    (l__law_joined : K.lookup f__law_joined = some ⟨oc__law_joined, od__law_joined, .func (PySem.W.fnOf "_law_joined" "_law_joined" (defArgs sJnd) (defBody sJnd) (defScope sJnd) .none kV__law_joined dc__law_joined pm__law_joined an__law_joined cd__law_joined ct__law_joined), sl__law_joined⟩)
    (c__law_joined : PySem.W.codeIn K cd__law_joined "_law_joined" = true)
    (k__law_joined : PySem.W.keepIn K (.ref f__law_joined) = true)
    (a__law_doors : PySem.W.nsIn K mainGlobals "_law_doors" = some (some (.ref f__law_doors)))
    (l__law_doors : K.lookup f__law_doors = some ⟨oc__law_doors, od__law_doors, .func (PySem.W.fnOf "_law_doors" "_law_doors" (defArgs sDrs) (defBody sDrs) (defScope sDrs) .none kV__law_doors dc__law_doors pm__law_doors an__law_doors cd__law_doors ct__law_doors), sl__law_doors⟩)
    (c__law_doors : PySem.W.codeIn K cd__law_doors "_law_doors" = true)
    (k__law_doors : PySem.W.keepIn K (.ref f__law_doors) = true)
    (a__law_fewer : PySem.W.nsIn K mainGlobals "_law_fewer" = some (some (.ref f__law_fewer)))
    (l__law_fewer : K.lookup f__law_fewer = some ⟨oc__law_fewer, od__law_fewer, .func (PySem.W.fnOf "_law_fewer" "_law_fewer" (defArgs sFew) (defBody sFew) (defScope sFew) .none kV__law_fewer dc__law_fewer pm__law_fewer an__law_fewer cd__law_fewer ct__law_fewer), sl__law_fewer⟩)
    (c__law_fewer : PySem.W.codeIn K cd__law_fewer "_law_fewer" = true)
    (k__law_fewer : PySem.W.keepIn K (.ref f__law_fewer) = true)
    (a__law_word : PySem.W.nsIn K mainGlobals "_law_word" = some (some (.ref f__law_word)))
    (l__law_word : K.lookup f__law_word = some ⟨oc__law_word, od__law_word, .func (PySem.W.fnOf "_law_word" "_law_word" (defArgs sLw4) (defBody sLw4) (defScope sLw4) .none kV__law_word dc__law_word pm__law_word an__law_word cd__law_word ct__law_word), sl__law_word⟩)
    (c__law_word : PySem.W.codeIn K cd__law_word "_law_word" = true)
    (k__law_word : PySem.W.keepIn K (.ref f__law_word) = true)
    (a__law_pool : PySem.W.nsIn K mainGlobals "_law_pool" = some (some (.ref f__law_pool)))
    (l__law_pool : K.lookup f__law_pool = some ⟨oc__law_pool, od__law_pool, .func (PySem.W.fnOf "_law_pool" "_law_pool" (defArgs sPo4) (defBody sPo4) (defScope sPo4) .none kV__law_pool dc__law_pool pm__law_pool an__law_pool cd__law_pool ct__law_pool), sl__law_pool⟩)
    (c__law_pool : PySem.W.codeIn K cd__law_pool "_law_pool" = true)
    (k__law_pool : PySem.W.keepIn K (.ref f__law_pool) = true)
    (a__law_length : PySem.W.nsIn K mainGlobals "_law_length" = some (some (.ref f__law_length)))
    (l__law_length : K.lookup f__law_length = some ⟨oc__law_length, od__law_length, .func (PySem.W.fnOf "_law_length" "_law_length" (defArgs sLen) (defBody sLen) (defScope sLen) .none kV__law_length dc__law_length pm__law_length an__law_length cd__law_length ct__law_length), sl__law_length⟩)
    (c__law_length : PySem.W.codeIn K cd__law_length "_law_length" = true)
    (k__law_length : PySem.W.keepIn K (.ref f__law_length) = true)
    (a__law_log : PySem.W.nsIn K mainGlobals "_law_log" = some (some (.ref f__law_log)))
    (l__law_log : K.lookup f__law_log = some ⟨oc__law_log, od__law_log, .func (PySem.W.fnOf "_law_log" "_law_log" (defArgs sLlg) (defBody sLlg) (defScope sLlg) .none kV__law_log dc__law_log pm__law_log an__law_log cd__law_log ct__law_log), sl__law_log⟩)
    (c__law_log : PySem.W.codeIn K cd__law_log "_law_log" = true)
    (k__law_log : PySem.W.keepIn K (.ref f__law_log) = true)
    (a__law_any_log : PySem.W.nsIn K mainGlobals "_law_any_log" = some (some (.ref f__law_any_log)))
    (l__law_any_log : K.lookup f__law_any_log = some ⟨oc__law_any_log, od__law_any_log, .func (PySem.W.fnOf "_law_any_log" "_law_any_log" (defArgs sAny) (defBody sAny) (defScope sAny) .none kV__law_any_log dc__law_any_log pm__law_any_log an__law_any_log cd__law_any_log ct__law_any_log), sl__law_any_log⟩)
    (c__law_any_log : PySem.W.codeIn K cd__law_any_log "_law_any_log" = true)
    (k__law_any_log : PySem.W.keepIn K (.ref f__law_any_log) = true)
    (a__law_calls : PySem.W.nsIn K mainGlobals "_law_calls" = some (some (.ref f__law_calls)))
    (l__law_calls : K.lookup f__law_calls = some ⟨oc__law_calls, od__law_calls, .func (PySem.W.fnOf "_law_calls" "_law_calls" (defArgs sLcs) (defBody sLcs) (defScope sLcs) .none kV__law_calls dc__law_calls pm__law_calls an__law_calls cd__law_calls ct__law_calls), sl__law_calls⟩)
    (c__law_calls : PySem.W.codeIn K cd__law_calls "_law_calls" = true)
    (k__law_calls : PySem.W.keepIn K (.ref f__law_calls) = true)
    (a__law_last : PySem.W.nsIn K mainGlobals "_law_last" = some (some (.ref f__law_last)))
    (l__law_last : K.lookup f__law_last = some ⟨oc__law_last, od__law_last, .func (PySem.W.fnOf "_law_last" "_law_last" (defArgs sLlast) (defBody sLlast) (defScope sLlast) .none kV__law_last dc__law_last pm__law_last an__law_last cd__law_last ct__law_last), sl__law_last⟩)
    (c__law_last : PySem.W.codeIn K cd__law_last "_law_last" = true)
    (k__law_last : PySem.W.keepIn K (.ref f__law_last) = true)
    (a__law_reach : PySem.W.nsIn K mainGlobals "_law_reach" = some (some (.ref f__law_reach)))
    (l__law_reach : K.lookup f__law_reach = some ⟨oc__law_reach, od__law_reach, .func (PySem.W.fnOf "_law_reach" "_law_reach" (defArgs sLre) (defBody sLre) (defScope sLre) .none kV__law_reach dc__law_reach pm__law_reach an__law_reach cd__law_reach ct__law_reach), sl__law_reach⟩)
    (c__law_reach : PySem.W.codeIn K cd__law_reach "_law_reach" = true)
    (k__law_reach : PySem.W.keepIn K (.ref f__law_reach) = true)
    (a__law_quiet : PySem.W.nsIn K mainGlobals "_law_quiet" = some (some (.ref f__law_quiet)))
    (l__law_quiet : K.lookup f__law_quiet = some ⟨oc__law_quiet, od__law_quiet, .func (PySem.W.fnOf "_law_quiet" "_law_quiet" (defArgs sLqu) (defBody sLqu) (defScope sLqu) .none kV__law_quiet dc__law_quiet pm__law_quiet an__law_quiet cd__law_quiet ct__law_quiet), sl__law_quiet⟩)
    (c__law_quiet : PySem.W.codeIn K cd__law_quiet "_law_quiet" = true)
    (k__law_quiet : PySem.W.keepIn K (.ref f__law_quiet) = true)
    (a__law_other : PySem.W.nsIn K mainGlobals "_law_other" = some (some (.ref f__law_other)))
    (l__law_other : K.lookup f__law_other = some ⟨oc__law_other, od__law_other, .func (PySem.W.fnOf "_law_other" "_law_other" (defArgs sLoo) (defBody sLoo) (defScope sLoo) .none kV__law_other dc__law_other pm__law_other an__law_other cd__law_other ct__law_other), sl__law_other⟩)
    (c__law_other : PySem.W.codeIn K cd__law_other "_law_other" = true)
    (k__law_other : PySem.W.keepIn K (.ref f__law_other) = true)
    (a__law_openings : PySem.W.nsIn K mainGlobals "_law_openings" = some (some (.ref f__law_openings)))
    (l__law_openings : K.lookup f__law_openings = some ⟨oc__law_openings, od__law_openings, .func (PySem.W.fnOf "_law_openings" "_law_openings" (defArgs sOps) (defBody sOps) (defScope sOps) .none kV__law_openings dc__law_openings pm__law_openings an__law_openings cd__law_openings ct__law_openings), sl__law_openings⟩)
    (c__law_openings : PySem.W.codeIn K cd__law_openings "_law_openings" = true)
    (k__law_openings : PySem.W.keepIn K (.ref f__law_openings) = true)
    (a__law_pieces : PySem.W.nsIn K mainGlobals "_law_pieces" = some (some (.ref f__law_pieces)))
    (l__law_pieces : K.lookup f__law_pieces = some ⟨oc__law_pieces, od__law_pieces, .func (PySem.W.fnOf "_law_pieces" "_law_pieces" (defArgs sLpc) (defBody sLpc) (defScope sLpc) .none kV__law_pieces dc__law_pieces pm__law_pieces an__law_pieces cd__law_pieces ct__law_pieces), sl__law_pieces⟩)
    (c__law_pieces : PySem.W.codeIn K cd__law_pieces "_law_pieces" = true)
    (k__law_pieces : PySem.W.keepIn K (.ref f__law_pieces) = true)
    (a__law_kept : PySem.W.nsIn K mainGlobals "_law_kept" = some (some (.ref f__law_kept)))
    (l__law_kept : K.lookup f__law_kept = some ⟨oc__law_kept, od__law_kept, .func (PySem.W.fnOf "_law_kept" "_law_kept" (defArgs sKpt) (defBody sKpt) (defScope sKpt) .none kV__law_kept dc__law_kept pm__law_kept an__law_kept cd__law_kept ct__law_kept), sl__law_kept⟩)
    (c__law_kept : PySem.W.codeIn K cd__law_kept "_law_kept" = true)
    (k__law_kept : PySem.W.keepIn K (.ref f__law_kept) = true)
    (a__law_unlike : PySem.W.nsIn K mainGlobals "_law_unlike" = some (some (.ref f__law_unlike)))
    (l__law_unlike : K.lookup f__law_unlike = some ⟨oc__law_unlike, od__law_unlike, .func (PySem.W.fnOf "_law_unlike" "_law_unlike" (defArgs sUnl) (defBody sUnl) (defScope sUnl) .none kV__law_unlike dc__law_unlike pm__law_unlike an__law_unlike cd__law_unlike ct__law_unlike), sl__law_unlike⟩)
    (c__law_unlike : PySem.W.codeIn K cd__law_unlike "_law_unlike" = true)
    (k__law_unlike : PySem.W.keepIn K (.ref f__law_unlike) = true)
    (a__law_telling : PySem.W.nsIn K mainGlobals "_law_telling" = some (some (.ref f__law_telling)))
    (l__law_telling : K.lookup f__law_telling = some ⟨oc__law_telling, od__law_telling, .func (PySem.W.fnOf "_law_telling" "_law_telling" (defArgs sTel) (defBody sTel) (defScope sTel) .none kV__law_telling dc__law_telling pm__law_telling an__law_telling cd__law_telling ct__law_telling), sl__law_telling⟩)
    (c__law_telling : PySem.W.codeIn K cd__law_telling "_law_telling" = true)
    (k__law_telling : PySem.W.keepIn K (.ref f__law_telling) = true)
    (a__law_along : PySem.W.nsIn K mainGlobals "_law_along" = some (some (.ref f__law_along)))
    (l__law_along : K.lookup f__law_along = some ⟨oc__law_along, od__law_along, .func (PySem.W.fnOf "_law_along" "_law_along" (defArgs sAlg) (defBody sAlg) (defScope sAlg) .none kV__law_along dc__law_along pm__law_along an__law_along cd__law_along ct__law_along), sl__law_along⟩)
    (c__law_along : PySem.W.codeIn K cd__law_along "_law_along" = true)
    (k__law_along : PySem.W.keepIn K (.ref f__law_along) = true)
    (a__law_due : PySem.W.nsIn K mainGlobals "_law_due" = some (some (.ref f__law_due)))
    (l__law_due : K.lookup f__law_due = some ⟨oc__law_due, od__law_due, .func (PySem.W.fnOf "_law_due" "_law_due" (defArgs sDue) (defBody sDue) (defScope sDue) .none kV__law_due dc__law_due pm__law_due an__law_due cd__law_due ct__law_due), sl__law_due⟩)
    (c__law_due : PySem.W.codeIn K cd__law_due "_law_due" = true)
    (k__law_due : PySem.W.keepIn K (.ref f__law_due) = true)
    (a__law_same : PySem.W.nsIn K mainGlobals "_law_same" = some (some (.ref f__law_same)))
    (l__law_same : K.lookup f__law_same = some ⟨oc__law_same, od__law_same, .func (PySem.W.fnOf "_law_same" "_law_same" (defArgs sSame) (defBody sSame) (defScope sSame) .none kV__law_same dc__law_same pm__law_same an__law_same cd__law_same ct__law_same), sl__law_same⟩)
    (c__law_same : PySem.W.codeIn K cd__law_same "_law_same" = true)
    (k__law_same : PySem.W.keepIn K (.ref f__law_same) = true)
    (a_words_of : PySem.W.nsIn K mainGlobals "words_of" = some (some (.ref f_words_of)))
    (l_words_of : K.lookup f_words_of = some ⟨oc_words_of, od_words_of, .func (PySem.W.fnOf "words_of" "words_of" (defArgs sWds) (defBody sWds) (defScope sWds) .none kV_words_of dc_words_of pm_words_of an_words_of cd_words_of ct_words_of), sl_words_of⟩)
    (c_words_of : PySem.W.codeIn K cd_words_of "words_of" = true)
    (k_words_of : PySem.W.keepIn K (.ref f_words_of) = true)
    (a_unlike_room : PySem.W.nsIn K mainGlobals "unlike_room" = some (some (.ref f_unlike_room)))
    (l_unlike_room : K.lookup f_unlike_room = some ⟨oc_unlike_room, od_unlike_room, .func (PySem.W.fnOf "unlike_room" "unlike_room" (defArgs sUr) (defBody sUr) (defScope sUr) .none kV_unlike_room dc_unlike_room pm_unlike_room an_unlike_room cd_unlike_room ct_unlike_room), sl_unlike_room⟩)
    (c_unlike_room : PySem.W.codeIn K cd_unlike_room "unlike_room" = true)
    (k_unlike_room : PySem.W.keepIn K (.ref f_unlike_room) = true)
    (a_last_calls : PySem.W.nsIn K mainGlobals "last_calls" = some (some (.ref f_last_calls)))
    (l_last_calls : K.lookup f_last_calls = some ⟨oc_last_calls, od_last_calls, .func (PySem.W.fnOf "last_calls" "last_calls" (defArgs sLast) (defBody sLast) (defScope sLast) .none kV_last_calls dc_last_calls pm_last_calls an_last_calls cd_last_calls ct_last_calls), sl_last_calls⟩)
    (c_last_calls : PySem.W.codeIn K cd_last_calls "last_calls" = true)
    (k_last_calls : PySem.W.keepIn K (.ref f_last_calls) = true)
    (a_last_places : PySem.W.nsIn K mainGlobals "last_places" = some (some (.ref f_last_places)))
    (l_last_places : K.lookup f_last_places = some ⟨oc_last_places, od_last_places, .func (PySem.W.fnOf "last_places" "last_places" (defArgs sLp) (defBody sLp) (defScope sLp) .none kV_last_places dc_last_places pm_last_places an_last_places cd_last_places ct_last_places), sl_last_places⟩)
    (c_last_places : PySem.W.codeIn K cd_last_places "last_places" = true)
    (k_last_places : PySem.W.keepIn K (.ref f_last_places) = true)
    (a_crossed_pairs : PySem.W.nsIn K mainGlobals "crossed_pairs" = some (some (.ref f_crossed_pairs)))
    (l_crossed_pairs : K.lookup f_crossed_pairs = some ⟨oc_crossed_pairs, od_crossed_pairs, .func (PySem.W.fnOf "crossed_pairs" "crossed_pairs" (defArgs sCrp) (defBody sCrp) (defScope sCrp) .none kV_crossed_pairs dc_crossed_pairs pm_crossed_pairs an_crossed_pairs cd_crossed_pairs ct_crossed_pairs), sl_crossed_pairs⟩)
    (c_crossed_pairs : PySem.W.codeIn K cd_crossed_pairs "crossed_pairs" = true)
    (k_crossed_pairs : PySem.W.keepIn K (.ref f_crossed_pairs) = true)
    (a_hall : PySem.W.nsIn K mainGlobals "hall" = some (some (.ref f_hall)))
    (l_hall : K.lookup f_hall = some ⟨oc_hall, od_hall, .func (PySem.W.fnOf "hall" "hall" (defArgs sHall) (defBody sHall) (defScope sHall) .none kV_hall dc_hall pm_hall an_hall cd_hall ct_hall), sl_hall⟩)
    (c_hall : PySem.W.codeIn K cd_hall "hall" = true)
    (k_hall : PySem.W.keepIn K (.ref f_hall) = true)
    (a_first_paths : PySem.W.nsIn K mainGlobals "first_paths" = some (some (.ref f_first_paths)))
    (l_first_paths : K.lookup f_first_paths = some ⟨oc_first_paths, od_first_paths, .func (PySem.W.fnOf "first_paths" "first_paths" (defArgs sFp) (defBody sFp) (defScope sFp) .none kV_first_paths dc_first_paths pm_first_paths an_first_paths cd_first_paths ct_first_paths), sl_first_paths⟩)
    (c_first_paths : PySem.W.codeIn K cd_first_paths "first_paths" = true)
    (k_first_paths : PySem.W.keepIn K (.ref f_first_paths) = true)
    (a_first_path : PySem.W.nsIn K mainGlobals "first_path" = some (some (.ref f_first_path)))
    (l_first_path : K.lookup f_first_path = some ⟨oc_first_path, od_first_path, .func (PySem.W.fnOf "first_path" "first_path" (defArgs sFst) (defBody sFst) (defScope sFst) .none kV_first_path dc_first_path pm_first_path an_first_path cd_first_path ct_first_path), sl_first_path⟩)
    (c_first_path : PySem.W.codeIn K cd_first_path "first_path" = true)
    (k_first_path : PySem.W.keepIn K (.ref f_first_path) = true)
    (a_parting_path : PySem.W.nsIn K mainGlobals "parting_path" = some (some (.ref f_parting_path)))
    (l_parting_path : K.lookup f_parting_path = some ⟨oc_parting_path, od_parting_path, .func (PySem.W.fnOf "parting_path" "parting_path" (defArgs sPp) (defBody sPp) (defScope sPp) .none kV_parting_path dc_parting_path pm_parting_path an_parting_path cd_parting_path ct_parting_path), sl_parting_path⟩)
    (c_parting_path : PySem.W.codeIn K cd_parting_path "parting_path" = true)
    (k_parting_path : PySem.W.keepIn K (.ref f_parting_path) = true)
    (a__law_path_doors : PySem.W.nsIn K mainGlobals "_law_path_doors" = some (some (.ref f__law_path_doors)))
    (l__law_path_doors : K.lookup f__law_path_doors = some ⟨oc__law_path_doors, od__law_path_doors, .func (PySem.W.fnOf "_law_path_doors" "_law_path_doors" (defArgs sPdo) (defBody sPdo) (defScope sPdo) .none kV__law_path_doors dc__law_path_doors pm__law_path_doors an__law_path_doors cd__law_path_doors ct__law_path_doors), sl__law_path_doors⟩)
    (c__law_path_doors : PySem.W.codeIn K cd__law_path_doors "_law_path_doors" = true)
    (k__law_path_doors : PySem.W.keepIn K (.ref f__law_path_doors) = true)
    (a_law : PySem.W.nsIn K mainGlobals "law" = some (some (.ref f_law)))
    (l_law : K.lookup f_law = some ⟨oc_law, od_law, .func (PySem.W.fnOf "law" "law" (defArgs sLaw) (defBody sLaw) (defScope sLaw) .none kV_law dc_law pm_law an_law cd_law ct_law), sl_law⟩)
    (c_law : PySem.W.codeIn K cd_law "law" = true)
    (k_law : PySem.W.keepIn K (.ref f_law) = true)
    (a_m_init_ : PySem.W.findIn K (.ref C) "__init__" = some (some (.ref f_m_init_)))
    (l_m_init_ : K.lookup f_m_init_ = some ⟨oc_m_init_, od_m_init_, .func (PySem.W.fnOf "__init__" "House.__init__" (defArgs sHinit) (defBody sHinit) (defScope sHinit) .none kV_m_init_ dc_m_init_ pm_m_init_ an_m_init_ cd_m_init_ ct_m_init_), sl_m_init_⟩)
    (c_m_init_ : PySem.W.codeIn K cd_m_init_ "House.__init__" = true)
    (k_m_init_ : PySem.W.keepIn K (.ref f_m_init_) = true)
    (i_m_init_ : PySem.W.isFn K (.ref f_m_init_) = true)
    (a_mdoors : PySem.W.findIn K (.ref C) "doors" = some (some (.ref f_mdoors)))
    (l_mdoors : K.lookup f_mdoors = some ⟨oc_mdoors, od_mdoors, .func (PySem.W.fnOf "doors" "House.doors" (defArgs sHdoors) (defBody sHdoors) (defScope sHdoors) .none kV_mdoors dc_mdoors pm_mdoors an_mdoors cd_mdoors ct_mdoors), sl_mdoors⟩)
    (c_mdoors : PySem.W.codeIn K cd_mdoors "House.doors" = true)
    (k_mdoors : PySem.W.keepIn K (.ref f_mdoors) = true)
    (i_mdoors : PySem.W.isFn K (.ref f_mdoors) = true)
    (a_mneighbours : PySem.W.findIn K (.ref C) "neighbours" = some (some (.ref f_mneighbours)))
    (l_mneighbours : K.lookup f_mneighbours = some ⟨oc_mneighbours, od_mneighbours, .func (PySem.W.fnOf "neighbours" "House.neighbours" (defArgs sHnear) (defBody sHnear) (defScope sHnear) .none kV_mneighbours dc_mneighbours pm_mneighbours an_mneighbours cd_mneighbours ct_mneighbours), sl_mneighbours⟩)
    (c_mneighbours : PySem.W.codeIn K cd_mneighbours "House.neighbours" = true)
    (k_mneighbours : PySem.W.keepIn K (.ref f_mneighbours) = true)
    (i_mneighbours : PySem.W.isFn K (.ref f_mneighbours) = true)
    (n_rooms : PySem.W.findIn K (.ref C) "rooms" = some none)
    (n__doors : PySem.W.findIn K (.ref C) "_doors" = some none)
    (n__near : PySem.W.findIn K (.ref C) "_near" = some none)
    (cr1 : PySem.W.readsIn K C (.type "type") = true)
    (cr2 : PySem.W.specialIn K (.ref C) "__getattribute__" = some (some (.builtin "type.__getattribute__")))
    (cv_MOST_ROOMS : PySem.W.findCls K (.ref C) (.type "type") "MOST_ROOMS" = some (.val (.int 12 tk_MOST_ROOMS)))
    (gf_nb : PySem.W.specialIn K (.ref f_mneighbours) "__get__" = some (some (.builtin "function.__get__")))
    (tk_nb : PySem.W.takesIn K (.ref f_mneighbours) = some false)
    (fi_nb : PySem.W.fnIn K f_mneighbours = true)
    (z_len : PySem.W.nsIn K mainGlobals "len" = some none)
    (z_abs : PySem.W.nsIn K mainGlobals "abs" = some none)
    (z_int : PySem.W.nsIn K mainGlobals "int" = some none)
    (z_range : PySem.W.nsIn K mainGlobals "range" = some none)
    (z_list : PySem.W.nsIn K mainGlobals "list" = some none)
    (z_tuple : PySem.W.nsIn K mainGlobals "tuple" = some none)
    (z_min : PySem.W.nsIn K mainGlobals "min" = some none)
    (z_max : PySem.W.nsIn K mainGlobals "max" = some none)
    (z_sorted : PySem.W.nsIn K mainGlobals "sorted" = some none)
    (z_isinstance : PySem.W.nsIn K mainGlobals "isinstance" = some none)
    (z_bool : PySem.W.nsIn K mainGlobals "bool" = some none)
    (z_str : PySem.W.nsIn K mainGlobals "str" = some none)
    (z_set : PySem.W.nsIn K mainGlobals "set" = some none)
    (z_enumerate : PySem.W.nsIn K mainGlobals "enumerate" = some none)
    (z_reversed : PySem.W.nsIn K mainGlobals "reversed" = some none)
    (z_dict : PySem.W.nsIn K mainGlobals "dict" = some none) :
    ∃ fd : FuncData, (∀ (s : Shared) (v : Value), BindsTo s fd ⟨[v], []⟩ [("script", v)]) ∧ ∀ base : Heap, K.In base → base.Ns mainGlobals mg → FnOk l.prog w K mg base CX0 6 fa fd ["script"] (spLaw K) := by
  have e := hfa.symm.trans (PySem.W.mg_of X G a_law)
  cases e
  have T : Bi mg := ⟨PySem.W.mg_none_of X G z_len, PySem.W.mg_none_of X G z_abs, PySem.W.mg_none_of X G z_int, PySem.W.mg_none_of X G z_range, PySem.W.mg_none_of X G z_list, PySem.W.mg_none_of X G z_tuple, PySem.W.mg_none_of X G z_min, PySem.W.mg_none_of X G z_max, PySem.W.mg_none_of X G z_sorted, PySem.W.mg_none_of X G z_isinstance, PySem.W.mg_none_of X G z_bool, PySem.W.mg_none_of X G z_str, PySem.W.mg_none_of X G z_set, PySem.W.mg_none_of X G z_enumerate⟩
  have F_check_room_count := fun_mk (st := sRoom) l_check_room_count c_check_room_count k_check_room_count
  have at_check_room_count := PySem.W.mg_of X G a_check_room_count
  have b_check_room_count := F_check_room_count.binds (ps := ["rooms"]) fun _ _ _ _ _ _ us hl => match us, hl with | [_], _ => rfl
  have F_checked_doors := fun_mk (st := sChk) l_checked_doors c_checked_doors k_checked_doors
  have at_checked_doors := PySem.W.mg_of X G a_checked_doors
  have b_checked_doors := F_checked_doors.binds (ps := ["rooms", "doors"]) fun _ _ _ _ _ _ us hl => match us, hl with | [_, _], _ => rfl
  have F__law_cell := fun_mk (st := sCell) l__law_cell c__law_cell k__law_cell
  have at__law_cell := PySem.W.mg_of X G a__law_cell
  have b__law_cell := F__law_cell.binds (ps := ["script", "k"]) fun _ _ _ _ _ _ us hl => match us, hl with | [_, _], _ => rfl
  have F__law_numbers := fun_mk (st := sNum) l__law_numbers c__law_numbers k__law_numbers
  have at__law_numbers := PySem.W.mg_of X G a__law_numbers
  have b__law_numbers := F__law_numbers.binds (ps := ["cell", "count"]) fun _ _ _ _ _ _ us hl => match us, hl with | [_, _], _ => rfl
  have F__law_names := fun_mk (st := sNam) l__law_names c__law_names k__law_names
  have at__law_names := PySem.W.mg_of X G a__law_names
  have b__law_names := F__law_names.binds (ps := ["numbers", "at", "rooms"]) fun _ _ _ _ _ _ us hl => match us, hl with | [_, _, _], _ => rfl
  have F__law_joined := fun_mk (st := sJnd) l__law_joined c__law_joined k__law_joined
  have at__law_joined := PySem.W.mg_of X G a__law_joined
  have b__law_joined := F__law_joined.binds (ps := ["kind", "a", "b", "rooms", "number", "parent"]) fun _ _ _ _ _ _ us hl => match us, hl with | [_, _, _, _, _, _], _ => rfl
  have F__law_doors := fun_mk (st := sDrs) l__law_doors c__law_doors k__law_doors
  have at__law_doors := PySem.W.mg_of X G a__law_doors
  have b__law_doors := F__law_doors.binds (ps := ["numbers", "rooms"]) fun _ _ _ _ _ _ us hl => match us, hl with | [_, _], _ => rfl
  have F__law_fewer := fun_mk (st := sFew) l__law_fewer c__law_fewer k__law_fewer
  have at__law_fewer := PySem.W.mg_of X G a__law_fewer
  have b__law_fewer := F__law_fewer.binds (ps := ["doors", "most", "number"]) fun _ _ _ _ _ _ us hl => match us, hl with | [_, _, _], _ => rfl
  have F__law_word := fun_mk (st := sLw4) l__law_word c__law_word k__law_word
  have at__law_word := PySem.W.mg_of X G a__law_word
  have b__law_word := F__law_word.binds (ps := ["numbers", "at"]) fun _ _ _ _ _ _ us hl => match us, hl with | [_, _], _ => rfl
  have F__law_pool := fun_mk (st := sPo4) l__law_pool c__law_pool k__law_pool
  have at__law_pool := PySem.W.mg_of X G a__law_pool
  have b__law_pool := F__law_pool.binds (ps := ["cell"]) fun _ _ _ _ _ _ us hl => match us, hl with | [_], _ => rfl
  have F__law_length := fun_mk (st := sLen) l__law_length c__law_length k__law_length
  have at__law_length := PySem.W.mg_of X G a__law_length
  have b__law_length := F__law_length.binds (ps := ["numbers", "at"]) fun _ _ _ _ _ _ us hl => match us, hl with | [_, _], _ => rfl
  have F__law_log := fun_mk (st := sLlg) l__law_log c__law_log k__law_log
  have at__law_log := PySem.W.mg_of X G a__law_log
  have b__law_log := F__law_log.binds (ps := ["numbers", "at", "many", "rooms", "words"]) fun _ _ _ _ _ _ us hl => match us, hl with | [_, _, _, _, _], _ => rfl
  have F__law_any_log := fun_mk (st := sAny) l__law_any_log c__law_any_log k__law_any_log
  have at__law_any_log := PySem.W.mg_of X G a__law_any_log
  have b__law_any_log := F__law_any_log.binds (ps := ["cell", "rooms", "words"]) fun _ _ _ _ _ _ us hl => match us, hl with | [_, _, _], _ => rfl
  have F__law_calls := fun_mk (st := sLcs) l__law_calls c__law_calls k__law_calls
  have at__law_calls := PySem.W.mg_of X G a__law_calls
  have b__law_calls := F__law_calls.binds (ps := ["script", "at", "rooms", "words", "most"]) fun _ _ _ _ _ _ us hl => match us, hl with | [_, _, _, _, _], _ => rfl
  have F__law_last := fun_mk (st := sLlast) l__law_last c__law_last k__law_last
  have at__law_last := PySem.W.mg_of X G a__law_last
  have b__law_last := F__law_last.binds (ps := ["log"]) fun _ _ _ _ _ _ us hl => match us, hl with | [_], _ => rfl
  have F__law_reach := fun_mk (st := sLre) l__law_reach c__law_reach k__law_reach
  have at__law_reach := PySem.W.mg_of X G a__law_reach
  have b__law_reach := F__law_reach.binds (ps := ["doors", "start", "inside"]) fun _ _ _ _ _ _ us hl => match us, hl with | [_, _, _], _ => rfl
  have F__law_quiet := fun_mk (st := sLqu) l__law_quiet c__law_quiet k__law_quiet
  have at__law_quiet := PySem.W.mg_of X G a__law_quiet
  have b__law_quiet := F__law_quiet.binds (ps := ["doors", "rooms", "calls", "numbers"]) fun _ _ _ _ _ _ us hl => match us, hl with | [_, _, _, _], _ => rfl
  have F__law_other := fun_mk (st := sLoo) l__law_other c__law_other k__law_other
  have at__law_other := PySem.W.mg_of X G a__law_other
  have b__law_other := F__law_other.binds (ps := ["cell", "log", "rooms", "words", "doors"]) fun _ _ _ _ _ _ us hl => match us, hl with | [_, _, _, _, _], _ => rfl
  have F__law_openings := fun_mk (st := sOps) l__law_openings c__law_openings k__law_openings
  have at__law_openings := PySem.W.mg_of X G a__law_openings
  have b__law_openings := F__law_openings.binds (ps := ["doors"]) fun _ _ _ _ _ _ us hl => match us, hl with | [_], _ => rfl
  have F__law_pieces := fun_mk (st := sLpc) l__law_pieces c__law_pieces k__law_pieces
  have at__law_pieces := PySem.W.mg_of X G a__law_pieces
  have b__law_pieces := F__law_pieces.binds (ps := ["doors", "rooms"]) fun _ _ _ _ _ _ us hl => match us, hl with | [_, _], _ => rfl
  have F__law_kept := fun_mk (st := sKpt) l__law_kept c__law_kept k__law_kept
  have at__law_kept := PySem.W.mg_of X G a__law_kept
  have b__law_kept := F__law_kept.binds (ps := ["areas", "rooms", "log"]) fun _ _ _ _ _ _ us hl => match us, hl with | [_, _, _], _ => rfl
  have F__law_unlike := fun_mk (st := sUnl) l__law_unlike c__law_unlike k__law_unlike
  have at__law_unlike := PySem.W.mg_of X G a__law_unlike
  have b__law_unlike := F__law_unlike.binds (ps := ["rooms", "logs", "opening"]) fun _ _ _ _ _ _ us hl => match us, hl with | [_, _, _], _ => rfl
  have F__law_telling := fun_mk (st := sTel) l__law_telling c__law_telling k__law_telling
  have at__law_telling := PySem.W.mg_of X G a__law_telling
  have b__law_telling := F__law_telling.binds (ps := ["rooms", "doors", "logs"]) fun _ _ _ _ _ _ us hl => match us, hl with | [_, _, _], _ => rfl
  have F__law_along := fun_mk (st := sAlg) l__law_along c__law_along k__law_along
  have at__law_along := PySem.W.mg_of X G a__law_along
  have b__law_along := F__law_along.binds (ps := ["opening"]) fun _ _ _ _ _ _ us hl => match us, hl with | [_], _ => rfl
  have F__law_due := fun_mk (st := sDue) l__law_due c__law_due k__law_due
  have at__law_due := PySem.W.mg_of X G a__law_due
  have b__law_due := F__law_due.binds (ps := ["rooms", "logs", "telling"]) fun _ _ _ _ _ _ us hl => match us, hl with | [_, _, _], _ => rfl
  have F__law_same := fun_mk (st := sSame) l__law_same c__law_same k__law_same
  have at__law_same := PySem.W.mg_of X G a__law_same
  have b__law_same := F__law_same.binds (ps := ["got", "due"]) fun _ _ _ _ _ _ us hl => match us, hl with | [_, _], _ => rfl
  have F_words_of := fun_mk (st := sWds) l_words_of c_words_of k_words_of
  have at_words_of := PySem.W.mg_of X G a_words_of
  have b_words_of := F_words_of.binds (ps := ["house", "log"]) fun _ _ _ _ _ _ us hl => match us, hl with | [_, _], _ => rfl
  have F_unlike_room := fun_mk (st := sUr) l_unlike_room c_unlike_room k_unlike_room
  have at_unlike_room := PySem.W.mg_of X G a_unlike_room
  have b_unlike_room := F_unlike_room.binds (ps := ["house", "first", "second"]) fun _ _ _ _ _ _ us hl => match us, hl with | [_, _, _], _ => rfl
  have F_last_calls := fun_mk (st := sLast) l_last_calls c_last_calls k_last_calls
  have at_last_calls := PySem.W.mg_of X G a_last_calls
  have b_last_calls := F_last_calls.binds (ps := ["log"]) fun _ _ _ _ _ _ us hl => match us, hl with | [_], _ => rfl
  have F_last_places := fun_mk (st := sLp) l_last_places c_last_places k_last_places
  have at_last_places := PySem.W.mg_of X G a_last_places
  have b_last_places := F_last_places.binds (ps := ["log"]) fun _ _ _ _ _ _ us hl => match us, hl with | [_], _ => rfl
  have F_crossed_pairs := fun_mk (st := sCrp) l_crossed_pairs c_crossed_pairs k_crossed_pairs
  have at_crossed_pairs := PySem.W.mg_of X G a_crossed_pairs
  have b_crossed_pairs := F_crossed_pairs.binds (ps := ["first", "second"]) fun _ _ _ _ _ _ us hl => match us, hl with | [_, _], _ => rfl
  have F_hall := fun_mk (st := sHall) l_hall c_hall k_hall
  have at_hall := PySem.W.mg_of X G a_hall
  have b_hall := F_hall.binds (ps := ["house", "first", "second", "pair"]) fun _ _ _ _ _ _ us hl => match us, hl with | [_, _, _, _], _ => rfl
  have F_first_paths := fun_mk (st := sFp) l_first_paths c_first_paths k_first_paths
  have at_first_paths := PySem.W.mg_of X G a_first_paths
  have b_first_paths := F_first_paths.binds (ps := ["steps", "start", "inside"]) fun _ _ _ _ _ _ us hl => match us, hl with | [_, _, _], _ => rfl
  have F_first_path := fun_mk (st := sFst) l_first_path c_first_path k_first_path
  have at_first_path := PySem.W.mg_of X G a_first_path
  have b_first_path := F_first_path.binds (ps := ["house", "start", "goal", "inside"]) fun _ _ _ _ _ _ us hl => match us, hl with | [_, _, _, _], _ => rfl
  have F_parting_path := fun_mk (st := sPp) l_parting_path c_parting_path k_parting_path
  have at_parting_path := PySem.W.mg_of X G a_parting_path
  have b_parting_path := F_parting_path.binds (ps := ["house", "first", "second"]) fun _ _ _ _ _ _ us hl => match us, hl with | [_, _, _], _ => rfl
  have F__law_path_doors := fun_mk (st := sPdo) l__law_path_doors c__law_path_doors k__law_path_doors
  have at__law_path_doors := PySem.W.mg_of X G a__law_path_doors
  have b__law_path_doors := F__law_path_doors.binds (ps := ["path"]) fun _ _ _ _ _ _ us hl => match us, hl with | [_], _ => rfl
  have F_law := fun_mk (st := sLaw) l_law c_law k_law
  have at_law := PySem.W.mg_of X G a_law
  have F_m_init_ := fun_mk (st := sHinit) l_m_init_ c_m_init_ k_m_init_
  have b_m_init_ := F_m_init_.binds (ps := ["self", "rooms", "doors"]) fun _ _ _ _ _ _ us hl => match us, hl with | [_, _, _], _ => rfl
  have mk_ : Mk K C f_m_init_ := ⟨mk, a_m_init_, i_m_init_, kc⟩
  have F_mdoors := fun_mk (st := sHdoors) l_mdoors c_mdoors k_mdoors
  have b_mdoors := F_mdoors.binds (ps := ["self"]) fun _ _ _ _ _ _ us hl => match us, hl with | [_], _ => rfl
  have mt_mdoors : Meth K C "doors" f_mdoors := ⟨a_mdoors, i_mdoors, k_mdoors⟩
  have F_mneighbours := fun_mk (st := sHnear) l_mneighbours c_mneighbours k_mneighbours
  have b_mneighbours := F_mneighbours.binds (ps := ["self", "room"]) fun _ _ _ _ _ _ us hl => match us, hl with | [_, _], _ => rfl
  have mt_mneighbours : Meth K C "neighbours" f_mneighbours := ⟨a_mneighbours, i_mneighbours, k_mneighbours⟩
  have U : Hs K mg C := ⟨⟨pg, hd, po, sa⟩, n_rooms, n__doors, n__near, PySem.W.mg_of X G aC, ⟨.type "type", _, ⟨cr1, cr2⟩, ⟨cv_MOST_ROOMS, ⟨_, rfl⟩⟩⟩⟩
  refine ⟨PySem.W.fnOf "law" "law" (defArgs sLaw) (defBody sLaw) (defScope sLaw) .none kV_law dc_law pm_law an_law cd_law ct_law, fun s v => .of_eq rfl, fun base _ _ => ?_⟩
  have bm : BMeth K C "neighbours" f_mneighbours := ⟨mt_mneighbours, gf_nb, tk_nb, by decide +kernel, fi_nb⟩
  have D_check_room_count : Df l.prog w K mg base "check_room_count" _ 1 spRoom _ _ := ⟨at_check_room_count, k_check_room_count, b_check_room_count, ok_room F_check_room_count U⟩
  have D_checked_doors : Df l.prog w K mg base "checked_doors" _ 1 spChk _ _ := ⟨at_checked_doors, k_checked_doors, b_checked_doors, ok_chk F_checked_doors T⟩
  have GI := ok_hinit (P := l.prog) (w := w) (base := base) F_m_init_ T U D_check_room_count D_checked_doors
  have M_doors : Md l.prog w K mg base C "doors" _ 1 (spHdoors C) _ _ := ⟨mt_mdoors, b_mdoors, ok_hdoors F_mdoors T U⟩
  have GN := ok_hnear (P := l.prog) (w := w) (base := base) F_mneighbours T U
  have M_neighbours : Md l.prog w K mg base C "neighbours" _ 1 (spHnear C) _ _ := ⟨mt_mneighbours, b_mneighbours, GN⟩
  have D__law_cell : Df l.prog w K mg base "_law_cell" _ 1 (spCell K) _ _ := ⟨at__law_cell, k__law_cell, b__law_cell, ok_cell F__law_cell T⟩
  have D__law_numbers : Df l.prog w K mg base "_law_numbers" _ 1 (spNum K) _ _ := ⟨at__law_numbers, k__law_numbers, b__law_numbers, ok_num F__law_numbers T⟩
  have D__law_names : Df l.prog w K mg base "_law_names" _ 1 (spNam K) _ _ := ⟨at__law_names, k__law_names, b__law_names, ok_nam F__law_names T⟩
  have D__law_joined : Df l.prog w K mg base "_law_joined" _ 1 spJnd _ _ := ⟨at__law_joined, k__law_joined, b__law_joined, ok_jnd F__law_joined T⟩
  have D__law_doors : Df l.prog w K mg base "_law_doors" _ 2 (spDrs K) _ _ := ⟨at__law_doors, k__law_doors, b__law_doors, ok_drs F__law_doors T D__law_names D__law_joined⟩
  have D__law_fewer : Df l.prog w K mg base "_law_fewer" _ 1 (spFew K) _ _ := ⟨at__law_fewer, k__law_fewer, b__law_fewer, ok_few F__law_fewer T⟩
  have D__law_word : Df l.prog w K mg base "_law_word" _ 1 (spSp2 K) _ _ := ⟨at__law_word, k__law_word, b__law_word, ok_lw4 F__law_word T⟩
  have D__law_pool : Df l.prog w K mg base "_law_pool" _ 2 spPo4 _ _ := ⟨at__law_pool, k__law_pool, b__law_pool, ok_po4 F__law_pool T D__law_numbers D__law_word⟩
  have D__law_length : Df l.prog w K mg base "_law_length" _ 1 (spLen K) _ _ := ⟨at__law_length, k__law_length, b__law_length, ok_len F__law_length T⟩
  have D__law_log : Df l.prog w K mg base "_law_log" _ 1 (spLlg K) _ _ := ⟨at__law_log, k__law_log, b__law_log, ok_llg F__law_log T⟩
  have D__law_any_log : Df l.prog w K mg base "_law_any_log" _ 2 spAny _ _ := ⟨at__law_any_log, k__law_any_log, b__law_any_log, ok_any F__law_any_log T D__law_numbers D__law_length D__law_log⟩
  have D__law_calls : Df l.prog w K mg base "_law_calls" _ 2 (spLcs K) _ _ := ⟨at__law_calls, k__law_calls, b__law_calls, ok_lcs F__law_calls T D__law_cell⟩
  have D__law_last : Df l.prog w K mg base "_law_last" _ 1 spLast _ _ := ⟨at__law_last, k__law_last, b__law_last, ok_llast F__law_last T⟩
  have D__law_reach : Df l.prog w K mg base "_law_reach" _ 1 (spLre K) _ _ := ⟨at__law_reach, k__law_reach, b__law_reach, ok_lre F__law_reach T⟩
  have D__law_quiet : Df l.prog w K mg base "_law_quiet" _ 2 spLqu _ _ := ⟨at__law_quiet, k__law_quiet, b__law_quiet, ok_lqu F__law_quiet T D__law_reach⟩
  have D__law_other : Df l.prog w K mg base "_law_other" _ 3 spLoo _ _ := ⟨at__law_other, k__law_other, b__law_other, ok_loo F__law_other T D__law_numbers D__law_length D__law_log D__law_last D__law_names D__law_quiet⟩
  have D__law_openings : Df l.prog w K mg base "_law_openings" _ 1 spOps _ _ := ⟨at__law_openings, k__law_openings, b__law_openings, ok_ops F__law_openings T⟩
  have D__law_pieces : Df l.prog w K mg base "_law_pieces" _ 2 (spLpc K) _ _ := ⟨at__law_pieces, k__law_pieces, b__law_pieces, ok_lpc F__law_pieces T D__law_reach⟩
  have D__law_kept : Df l.prog w K mg base "_law_kept" _ 1 spKpt _ _ := ⟨at__law_kept, k__law_kept, b__law_kept, ok_kpt F__law_kept T⟩
  have D__law_unlike : Df l.prog w K mg base "_law_unlike" _ 3 spUnl _ _ := ⟨at__law_unlike, k__law_unlike, b__law_unlike, ok_unl F__law_unlike T D__law_pieces D__law_kept⟩
  have D__law_telling : Df l.prog w K mg base "_law_telling" _ 4 spTel _ _ := ⟨at__law_telling, k__law_telling, b__law_telling, ok_tel F__law_telling T D__law_openings D__law_unlike⟩
  have D__law_along : Df l.prog w K mg base "_law_along" _ 1 spAlg _ _ := ⟨at__law_along, k__law_along, b__law_along, ok_alg F__law_along T⟩
  have D__law_due : Df l.prog w K mg base "_law_due" _ 4 spDue _ _ := ⟨at__law_due, k__law_due, b__law_due, ok_due F__law_due T D__law_unlike D__law_along⟩
  have D__law_same : Df l.prog w K mg base "_law_same" _ 4 (spSame 3) _ _ := ⟨at__law_same, k__law_same, b__law_same, ok_same F__law_same T b__law_same at__law_same 3⟩
  have D_words_of : Df l.prog w K mg base "words_of" _ 1 (spWds C) _ _ := ⟨at_words_of, k_words_of, b_words_of, ok_wds F_words_of U⟩
  have D_unlike_room : Df l.prog w K mg base "unlike_room" _ 2 (spUr C) _ _ := ⟨at_unlike_room, k_unlike_room, b_unlike_room, ok_ur F_unlike_room T U D_words_of⟩
  have D_last_calls : Df l.prog w K mg base "last_calls" _ 1 spLast _ _ := ⟨at_last_calls, k_last_calls, b_last_calls, ok_last F_last_calls T (PySem.W.mg_none_of X G z_reversed)⟩
  have D_last_places : Df l.prog w K mg base "last_places" _ 1 spLp _ _ := ⟨at_last_places, k_last_places, b_last_places, ok_lp F_last_places T⟩
  have D_crossed_pairs : Df l.prog w K mg base "crossed_pairs" _ 2 spCrp _ _ := ⟨at_crossed_pairs, k_crossed_pairs, b_crossed_pairs, ok_crp F_crossed_pairs T (PySem.W.mg_none_of X G z_dict) D_last_calls D_last_places⟩
  have D_hall : Df l.prog w K mg base "hall" _ 2 (spHall C) _ _ := ⟨at_hall, k_hall, b_hall, ok_hall F_hall T U D_last_places⟩
  have D_first_paths : Df l.prog w K mg base "first_paths" _ 2 (spFq K C f_mneighbours) _ _ := ⟨at_first_paths, k_first_paths, b_first_paths, ok_fq F_first_paths T U bm GN b_mneighbours⟩
  have D_first_path : Df l.prog w K mg base "first_path" _ 3 (spFst K C) _ _ := ⟨at_first_path, k_first_path, b_first_path, ok_fst F_first_path T U bm D_first_paths⟩
  have D_parting_path : Df l.prog w K mg base "parting_path" _ 4 (spPp C) _ _ := ⟨at_parting_path, k_parting_path, b_parting_path, ok_pp (g := f_mneighbours) F_parting_path T U D_unlike_room D_crossed_pairs D_hall D_first_path⟩
  have D__law_path_doors : Df l.prog w K mg base "_law_path_doors" _ 1 spPdo _ _ := ⟨at__law_path_doors, k__law_path_doors, b__law_path_doors, ok_pdo F__law_path_doors T⟩
  exact ok_law F_law T U mk_ GI b_m_init_ M_doors D__law_cell D__law_numbers D__law_doors D__law_fewer D__law_pool D__law_any_log D__law_calls D__law_other D__law_last D__law_telling D__law_due D__law_same D_parting_path D__law_unlike D__law_path_doors
theorem walk {l : PySem.W.OpenLaw} {q : Program} {loose : List Str} {XP : (Str → Option Value) → Heap → Prop} {YP : World → Heap → Prop} {d : DefRec} {K : Params → PySem.W.Frag} (hn : l.most = some 63) (hdf : d.params.defaults = [])
    (hY : ∀ (w : World) (h : Heap), YP w h → (K w.params).In h)
    (F : ∀ (w : World) (mg : Str → Option Value) (fa : Addr) (h : Heap), (K w.params).In h → h.Ns mainGlobals mg → mg d.name = some (.ref fa) →
      ∃ fd : FuncData, (∀ (s : Shared) (u : Value), BindsTo s fd ⟨[u], []⟩ [("script", u)]) ∧ ∀ base : Heap, (K w.params).In base → base.Ns mainGlobals mg → FnOk l.prog w (K w.params) mg base CX0 6 fa fd ["script"] (spLaw (K w.params))) :
    PySem.W.WalkO q loose XP YP l.row.toRowW d [] (fun f vs => PySem.call f vs) :=
  L2.walk_of (n := 63) (k := 6) (x := "script") (CX := fun _ => CX0) (sp := fun w => spLaw (K w.params)) hn (by decide) hdf ⟨rfl, by decide, by decide⟩ hY F (fun _ _ a ns hl _ hS => ⟨a, ns, rfl, hS, hl, fun _ => rfl⟩) fun _ _ _ _ _ z => z
end My

open PySem PySem.W PyProof.Rows in
set_option maxRecDepth 100000 in
set_option maxHeartbeats 0 in
theorem PySem.Challenge.cw_callsheard_k21_whole_fewest_open_doors_holds : PySem.Challenge.rw_callsheard_k21_whole_fewest_open_doors.Holds := by
  w_on; o_law; k_head; (case hw => w_witness2)
  k_fill
  refine My.walk (l := PySem.Challenge.rw_callsheard_k21_whole_fewest_open_doors) rfl rfl (fun w h Y => PySem.W.kIn_of Y) ?F
  case F =>
    intro w mg fa h KX G hmg
    refine' My.all_mk KX G hmg ?aC ?pg ?hd ?po ?sa ?mk ?kc ?a_check_room_count ?l_check_room_count ?c_check_room_count ?k_check_room_count ?a_checked_doors ?l_checked_doors ?c_checked_doors ?k_checked_doors ?a__law_cell ?l__law_cell ?c__law_cell ?k__law_cell ?a__law_numbers ?l__law_numbers ?c__law_numbers ?k__law_numbers ?a__law_names ?l__law_names ?c__law_names ?k__law_names ?a__law_joined ?l__law_joined ?c__law_joined ?k__law_joined ?a__law_doors ?l__law_doors ?c__law_doors ?k__law_doors ?a__law_fewer ?l__law_fewer ?c__law_fewer ?k__law_fewer ?a__law_word ?l__law_word ?c__law_word ?k__law_word ?a__law_pool ?l__law_pool ?c__law_pool ?k__law_pool ?a__law_length ?l__law_length ?c__law_length ?k__law_length ?a__law_log ?l__law_log ?c__law_log ?k__law_log ?a__law_any_log ?l__law_any_log ?c__law_any_log ?k__law_any_log ?a__law_calls ?l__law_calls ?c__law_calls ?k__law_calls ?a__law_last ?l__law_last ?c__law_last ?k__law_last ?a__law_reach ?l__law_reach ?c__law_reach ?k__law_reach ?a__law_quiet ?l__law_quiet ?c__law_quiet ?k__law_quiet ?a__law_other ?l__law_other ?c__law_other ?k__law_other ?a__law_openings ?l__law_openings ?c__law_openings ?k__law_openings ?a__law_pieces ?l__law_pieces ?c__law_pieces ?k__law_pieces ?a__law_kept ?l__law_kept ?c__law_kept ?k__law_kept ?a__law_unlike ?l__law_unlike ?c__law_unlike ?k__law_unlike ?a__law_telling ?l__law_telling ?c__law_telling ?k__law_telling ?a__law_along ?l__law_along ?c__law_along ?k__law_along ?a__law_due ?l__law_due ?c__law_due ?k__law_due ?a__law_same ?l__law_same ?c__law_same ?k__law_same ?a_words_of ?l_words_of ?c_words_of ?k_words_of ?a_unlike_room ?l_unlike_room ?c_unlike_room ?k_unlike_room ?a_last_calls ?l_last_calls ?c_last_calls ?k_last_calls ?a_last_places ?l_last_places ?c_last_places ?k_last_places ?a_crossed_pairs ?l_crossed_pairs ?c_crossed_pairs ?k_crossed_pairs ?a_hall ?l_hall ?c_hall ?k_hall ?a_first_paths ?l_first_paths ?c_first_paths ?k_first_paths ?a_first_path ?l_first_path ?c_first_path ?k_first_path ?a_parting_path ?l_parting_path ?c_parting_path ?k_parting_path ?a__law_path_doors ?l__law_path_doors ?c__law_path_doors ?k__law_path_doors ?a_law ?l_law ?c_law ?k_law ?a_m_init_ ?l_m_init_ ?c_m_init_ ?k_m_init_ ?i_m_init_ ?a_mdoors ?l_mdoors ?c_mdoors ?k_mdoors ?i_mdoors ?a_mneighbours ?l_mneighbours ?c_mneighbours ?k_mneighbours ?i_mneighbours ?n_rooms ?n__doors ?n__near ?cr1 ?cr2 ?cv_MOST_ROOMS ?gf_nb ?tk_nb ?fi_nb ?z_len ?z_abs ?z_int ?z_range ?z_list ?z_tuple ?z_min ?z_max ?z_sorted ?z_isinstance ?z_bool ?z_str ?z_set ?z_enumerate ?z_reversed ?z_dict
    (case aC => k_is)
    (case pg => k_is)
    (case hd => k_is)
    (case po => k_is)
    (case sa => k_is)
    (case mk => k_is)
    (case kc => k_is)
    (case a_check_room_count => k_is)
    (case l_check_room_count => k_is)
    (case c_check_room_count => k_is)
    (case k_check_room_count => k_is)
    (case a_checked_doors => k_is)
    (case l_checked_doors => k_is)
    (case c_checked_doors => k_is)
    (case k_checked_doors => k_is)
    (case a__law_cell => k_is)
    (case l__law_cell => k_is)
    (case c__law_cell => k_is)
    (case k__law_cell => k_is)
    (case a__law_numbers => k_is)
    (case l__law_numbers => k_is)
    (case c__law_numbers => k_is)
    (case k__law_numbers => k_is)
    (case a__law_names => k_is)
    (case l__law_names => k_is)
    (case c__law_names => k_is)
    (case k__law_names => k_is)
    (case a__law_joined => k_is)
    (case l__law_joined => k_is)
    (case c__law_joined => k_is)
    (case k__law_joined => k_is)
    (case a__law_doors => k_is)
    (case l__law_doors => k_is)
    (case c__law_doors => k_is)
    (case k__law_doors => k_is)
    (case a__law_fewer => k_is)
    (case l__law_fewer => k_is)
    (case c__law_fewer => k_is)
    (case k__law_fewer => k_is)
    (case a__law_word => k_is)
    (case l__law_word => k_is)
    (case c__law_word => k_is)
    (case k__law_word => k_is)
    (case a__law_pool => k_is)
    (case l__law_pool => k_is)
    (case c__law_pool => k_is)
    (case k__law_pool => k_is)
    (case a__law_length => k_is)
    (case l__law_length => k_is)
    (case c__law_length => k_is)
    (case k__law_length => k_is)
    (case a__law_log => k_is)
    (case l__law_log => k_is)
    (case c__law_log => k_is)
    (case k__law_log => k_is)
    (case a__law_any_log => k_is)
    (case l__law_any_log => k_is)
    (case c__law_any_log => k_is)
    (case k__law_any_log => k_is)
    (case a__law_calls => k_is)
    (case l__law_calls => k_is)
    (case c__law_calls => k_is)
    (case k__law_calls => k_is)
    (case a__law_last => k_is)
    (case l__law_last => k_is)
    (case c__law_last => k_is)
    (case k__law_last => k_is)
    (case a__law_reach => k_is)
    (case l__law_reach => k_is)
    (case c__law_reach => k_is)
    (case k__law_reach => k_is)
    (case a__law_quiet => k_is)
    (case l__law_quiet => k_is)
    (case c__law_quiet => k_is)
    (case k__law_quiet => k_is)
    (case a__law_other => k_is)
    (case l__law_other => k_is)
    (case c__law_other => k_is)
    (case k__law_other => k_is)
    (case a__law_openings => k_is)
    (case l__law_openings => k_is)
    (case c__law_openings => k_is)
    (case k__law_openings => k_is)
    (case a__law_pieces => k_is)
    (case l__law_pieces => k_is)
    (case c__law_pieces => k_is)
    (case k__law_pieces => k_is)
    (case a__law_kept => k_is)
    (case l__law_kept => k_is)
    (case c__law_kept => k_is)
    (case k__law_kept => k_is)
    (case a__law_unlike => k_is)
    (case l__law_unlike => k_is)
    (case c__law_unlike => k_is)
    (case k__law_unlike => k_is)
    (case a__law_telling => k_is)
    (case l__law_telling => k_is)
    (case c__law_telling => k_is)
    (case k__law_telling => k_is)
    (case a__law_along => k_is)
    (case l__law_along => k_is)
    (case c__law_along => k_is)
    (case k__law_along => k_is)
    (case a__law_due => k_is)
    (case l__law_due => k_is)
    (case c__law_due => k_is)
    (case k__law_due => k_is)
    (case a__law_same => k_is)
    (case l__law_same => k_is)
    (case c__law_same => k_is)
    (case k__law_same => k_is)
    (case a_words_of => k_is)
    (case l_words_of => k_is)
    (case c_words_of => k_is)
    (case k_words_of => k_is)
    (case a_unlike_room => k_is)
    (case l_unlike_room => k_is)
    (case c_unlike_room => k_is)
    (case k_unlike_room => k_is)
    (case a_last_calls => k_is)
    (case l_last_calls => k_is)
    (case c_last_calls => k_is)
    (case k_last_calls => k_is)
    (case a_last_places => k_is)
    (case l_last_places => k_is)
    (case c_last_places => k_is)
    (case k_last_places => k_is)
    (case a_crossed_pairs => k_is)
    (case l_crossed_pairs => k_is)
    (case c_crossed_pairs => k_is)
    (case k_crossed_pairs => k_is)
    (case a_hall => k_is)
    (case l_hall => k_is)
    (case c_hall => k_is)
    (case k_hall => k_is)
    (case a_first_paths => k_is)
    (case l_first_paths => k_is)
    (case c_first_paths => k_is)
    (case k_first_paths => k_is)
    (case a_first_path => k_is)
    (case l_first_path => k_is)
    (case c_first_path => k_is)
    (case k_first_path => k_is)
    (case a_parting_path => k_is)
    (case l_parting_path => k_is)
    (case c_parting_path => k_is)
    (case k_parting_path => k_is)
    (case a__law_path_doors => k_is)
    (case l__law_path_doors => k_is)
    (case c__law_path_doors => k_is)
    (case k__law_path_doors => k_is)
    (case a_law => k_is)
    (case l_law => k_is)
    (case c_law => k_is)
    (case k_law => k_is)
    (case a_m_init_ => k_is)
    (case l_m_init_ => k_is)
    (case c_m_init_ => k_is)
    (case k_m_init_ => k_is)
    (case i_m_init_ => k_is)
    (case a_mdoors => k_is)
    (case l_mdoors => k_is)
    (case c_mdoors => k_is)
    (case k_mdoors => k_is)
    (case i_mdoors => k_is)
    (case a_mneighbours => k_is)
    (case l_mneighbours => k_is)
    (case c_mneighbours => k_is)
    (case k_mneighbours => k_is)
    (case i_mneighbours => k_is)
    (case n_rooms => k_is)
    (case n__doors => k_is)
    (case n__near => k_is)
    (case cr1 => k_is)
    (case cr2 => k_is)
    (case cv_MOST_ROOMS => k_is)
    (case gf_nb => k_is)
    (case tk_nb => k_is)
    (case fi_nb => k_is)
    (case z_len => k_is)
    (case z_abs => k_is)
    (case z_int => k_is)
    (case z_range => k_is)
    (case z_list => k_is)
    (case z_tuple => k_is)
    (case z_min => k_is)
    (case z_max => k_is)
    (case z_sorted => k_is)
    (case z_isinstance => k_is)
    (case z_bool => k_is)
    (case z_str => k_is)
    (case z_set => k_is)
    (case z_enumerate => k_is)
    (case z_reversed => k_is)
    (case z_dict => k_is)


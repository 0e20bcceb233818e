import PyProof.Rows.All
import Wide.All
import OpenK.AllK
import Wide.FinOn
import HandS.ForMost
import HandS.SortRule
import HandS.IsInst
import HandS.Deep
import HandS.Property
import HandS.TupSets
import HandS.Style
import HandS.Conv
import HandS.Evl
import HandS.ClsMeth
import HandS.Strs
import HandS.Rev
import HandS.SetFor
import HandS.Zip
import KE.DataCmp
import HandS.DictComp
import KE.DataMinMax
import HandS.TupAny
import HandS.More
import PySem.Challenge.RW_callsheard_k63_whole_cuts_answer
set_option Elab.async false
set_option linter.all false
set_option maxRecDepth 100000
namespace My
open PySem PySem.Spec PyProof.Rows L2
theorem cxK {CX : CXT} {P : Program} {w : World} {K : PySem.W.Frag} {mg : Str → Option Value} {base : Heap} {N : List Str} {q : Str} {sc : Scope} {f : Addr} {cdv : Value} {A : Around} {outer : List Env} {s : Shared} {H : Hp} {E : XK} : (cxOf CX P w K mg base N q sc f cdv A outer s H E).nox.K = K := rfl
theorem cxK2 {CX : CXT} {P : Program} {w : World} {K : PySem.W.Frag} {mg : Str → Option Value} {base : Heap} {N : List Str} {q : Str} {sc : Scope} {f : Addr} {cdv : Value} {A : Around} {outer : List Env} {s : Shared} {H : Hp} {E : XK} : (cxOf CX P w K mg base N q sc f cdv A outer s H E).K = K := rfl
theorem cxP {CX : CXT} {P : Program} {w : World} {K : PySem.W.Frag} {mg : Str → Option Value} {base : Heap} {N : List Str} {q : Str} {sc : Scope} {f : Addr} {cdv : Value} {A : Around} {outer : List Env} {s : Shared} {H : Hp} {E : XK} : (cxOf CX P w K mg base N q sc f cdv A outer s H E).prog = P := rfl
theorem cxW {CX : CXT} {P : Program} {w : World} {K : PySem.W.Frag} {mg : Str → Option Value} {base : Heap} {N : List Str} {q : Str} {sc : Scope} {f : Addr} {cdv : Value} {A : Around} {outer : List Env} {s : Shared} {H : Hp} {E : XK} : (cxOf CX P w K mg base N q sc f cdv A outer s H E).w = w := rfl
/-- built-in names that the text has not bound -/
structure Bi (mg : Str → Option Value) : Prop where
  len : mg "len" = none
  abs : mg "abs" = none
  int : mg "int" = none
  range : mg "range" = none
  list : mg "list" = none
  tuple : mg "tuple" = none
  min : mg "min" = none
  max : mg "max" = none
  sorted : mg "sorted" = none
  isinstance : mg "isinstance" = none
  bool : mg "bool" = none
  str : mg "str" = none
  set : mg "set" = none
  enumerate : mg "enumerate" = none
/-- a def of the text, bound in the module, that keeps a promise -/
structure Df (P : Program) (w : World) (K : PySem.W.Frag) (mg : Str → Option Value) (base : Heap) (x : Str) (ps : List Str) (k : Nat) (sp : Sp) (f : Addr) (fd : FuncData) : Prop where
  at_ : mg x = some (.ref f)
  kp : PySem.W.keepIn K (.ref f) = true
  b : Binds K fd ps []
  ok : FnOk P w K mg base CX0 k f fd ps sp
local macro_rules | `(tactic| walk_at "rd") => `(tactic| try simp only [cxK, cxK2, cxP, cxW, L2.start, List.length_cons, List.length_nil, List.replicate_succ, List.replicate_zero, List.map_cons, List.map_nil, List.cons_append, List.nil_append, tVar, tC, tAdd, tSub, t2I, tIsN, tNotN, tB, tAnd, tOr, tNot, tAndV, tOrV, tNotV, tIf, tNext, tSeq, tBreak, tCont, tDrop, tRet, tRetN, tIfS, gName, gNil, gCons, gTup, gSub, tAsg, tOp, tUn, rI, rI0, rU, tTest, tChain, tNil, tCons, tTup, tLst, tCall, tCB, tNoPart, tPart, tSl, rIxL, rIxT, rIxS, rSetL, rAppend, rExtend, tBM, tBM0, tFld, tMeth, tMake, sFld, tYes, tLstRg, tRg1, tRg2, rSlL, iRng1, iRng2, iList, List.getElem?_cons_zero, List.getElem?_cons_succ, Option.some.injEq, List.cons.injEq, V.int.injEq, V.ref.injEq, V.bl.injEq, V.str.injEq, exists_eq_left', exists_eq_left, exists_eq_right, exists_eq_right', true_and, and_true, and_assoc, exists_and_left, exists_and_right, List.set_cons_zero, List.set_cons_succ, List.append_nil, reduceCtorEq, false_and, and_false, exists_false, or_false, false_or, decide_eq_true_eq, Nat.reduceAdd, Nat.reduceSub])
section
variable {X : Cx}
theorem cr_intI : CallR X (.type "int") (fun xs H Q => ∃ i, xs = [.int i] ∧ Q (.int i) H) := fun pins s σ H xs us Q I r h => call_int1 pins s σ H xs us Q I r (.inl h)
theorem op_eqI : OpR X (compareOp .Eq) (rI0 fun i j => .bl (decide (i = j))) := fun pins s σ H x y v u Q I rx ry h => by
  obtain ⟨i, j, rfl, rfl, q⟩ := h
  have e : decide (i = j) = decide (V.int i = V.int j) := by
    by_cases h : i = j
    · subst h
      rw [decide_eq_true rfl, decide_eq_true rfl]
    · rw [decide_eq_false h, decide_eq_false (fun z => h (V.int.inj z))]
  exact op_eq pins s σ H _ _ v u Q I rx ry ⟨rfl, by rw [← e]; exact q⟩
theorem op_neI : OpR X (compareOp .NotEq) (rI0 fun i j => .bl (!decide (i = j))) := fun pins s σ H x y v u Q I rx ry h => by
  obtain ⟨i, j, rfl, rfl, q⟩ := h
  have e : decide (i = j) = decide (V.int i = V.int j) := by
    by_cases h : i = j
    · subst h
      rw [decide_eq_true rfl, decide_eq_true rfl]
    · rw [decide_eq_false h, decide_eq_false (fun z => h (V.int.inj z))]
  exact op_ne pins s σ H _ _ v u Q I rx ry ⟨rfl, by rw [← e]; exact q⟩
def rIsT : R2 := fun x y H Q => ∃ b : Bool, y = .bl b ∧ Q (.bl (decide (x = .bl b))) H
/-- x is True, x is False -/
theorem op_isT : OpR X (compareOp .Is) rIsT := by
  intro pins s σ H x y v u Q I rx ry h
  obtain ⟨b, rfl, q⟩ := h
  cases (show u = Value.bool b from ry)
  cases x with
  | non => cases (show v = Value.none from rx); exact wpAny_is_other rfl (fun z => nomatch z) ⟨.bl false, H, I, rfl, by simpa using q⟩
  | bl a =>
    cases (show v = Value.bool a from rx)
    by_cases e : a = b
    · subst e
      exact wpAny_is_self rfl ⟨.bl true, H, I, rfl, by simpa using q⟩
    · exact wpAny_is_other rfl (fun z => e (Value.bool.inj z)) ⟨.bl false, H, I, rfl, by simpa [e] using q⟩
  | int i => obtain ⟨t, e⟩ := (show ∃ t, v = Value.int i t from rx); cases e; exact wpAny_is_other rfl (fun z => nomatch z) ⟨.bl false, H, I, rfl, by simpa using q⟩
  | str i => obtain ⟨t, e⟩ := (show ∃ t, v = Value.str i t from rx); cases e; exact wpAny_is_other rfl (fun z => nomatch z) ⟨.bl false, H, I, rfl, by simpa using q⟩
  | byt i => obtain ⟨t, e⟩ := (show ∃ t, v = Value.bytes i t from rx); cases e; exact wpAny_is_other rfl (fun z => nomatch z) ⟨.bl false, H, I, rfl, by simpa using q⟩
  | flt i => obtain ⟨t, e⟩ := (show ∃ t, v = Value.float i t from rx); cases e; exact wpAny_is_other rfl (fun z => nomatch z) ⟨.bl false, H, I, rfl, by simpa using q⟩
  | ref a => cases (show v = Value.ref a from rx); exact wpAny_is_other rfl (fun z => nomatch z) ⟨.bl false, H, I, rfl, by simpa using q⟩
  | ty n => cases (show v = Value.type n from rx); exact wpAny_is_other rfl (fun z => nomatch z) ⟨.bl false, H, I, rfl, by simpa using q⟩
end
theorem same_upd {H : Hp} {p : Addr} {o : HO} (h : H p = none) : Same H (upd H p o) := fun b x e => by
  rw [upd_ne (ne_of_none e h)]
  exact e
/-- a list that was new and is changed: what stood before stands -/
theorem same_ch {H0 H : Hp} {p : Addr} {o : HO} (s : Same H0 H) (n : H0 p = none) : Same H0 (upd H p o) := fun b x e => by
  rw [upd_ne (ne_of_none e n)]
  exact s _ _ e
theorem ixn {n j : Nat} {z : Int} (e : z = (j : Int)) (hj : j < n) : ixN n z = some j := by
  rw [e]
  unfold ixN
  rw [if_pos (by omega), if_pos (by omega)]
  simp
theorem len_big {n : Nat} (h : n ≤ 100000) : n < sizeLine := Nat.lt_of_le_of_lt h (by decide)
theorem mem_ix {α : Type} {l : List α} {i : Nat} (h : i < l.length) : ∃ x, l[i]? = some x ∧ x ∈ l := ⟨l[i], List.getElem?_eq_getElem h, List.getElem_mem h⟩

def topS (i : Nat) : Stmt := PySem.Challenge.pw_callsheard_k63_whole_cuts_answer.main.body.getD i (.Pass ⟨0, 0, 0, 0⟩)
abbrev sCell : Stmt := topS 9
abbrev sNum : Stmt := topS 10
def cellN (ns : List Int) (k : Nat) : Int := (ns.getD k 0).natAbs
theorem cellN_nn (ns : List Int) (k : Nat) : 0 ≤ cellN ns k := Int.natCast_nonneg _
section
variable {P : Program} {w : World} {K : PySem.W.Frag} {mg : Str → Option Value} {base : Heap}
theorem scCell : FnScope ["script", "k"] ["script", "k"] (defScope sCell) := ⟨rfl, rfl, rfl, by decide +kernel, rfl, by decide +kernel, by decide +kernel⟩
def spCell (K : PySem.W.Frag) : Sp := fun vs H Q _ => ∃ (a : Addr) (ns : List Int) (k : Nat), vs = [.ref a, .int k] ∧ SqL K H a (ns.map V.int) ∧ ∀ c, 0 ≤ c → Q (.int c) H
theorem ok_cell {f : Addr} {fd : FuncData} (F : Fun K "_law_cell" "_law_cell" sCell f fd) (T : Bi mg) : FnOk P w K mg base CX0 1 f fd ["script", "k"] (spCell K) := by
  refine F.ok scCell (fun vs H Q E h => ?_) (fun cdv A outer s H vs Q E hr h => ?_)
  · obtain ⟨a, ns, k, rfl, _⟩ := h
    rfl
  · obtain ⟨a, ns, k, rfl, hS, q⟩ := h
    refine ⟨_, (pss_cons (ps_if (pt_cmpR op_lt (pv 1) (pe_callB call_len_seq (by rfl) T.len (by decide +kernel) (pa_cons (pv 0) pa_nil)) (nomark _))
      (pss_one (ps_ret (pe_callB call_abs (by rfl) T.abs (by decide +kernel) (pa_cons (pe_callTy cr_intI (by rfl) T.int (by decide +kernel) (pa_cons (pe_ix ix_list (pv 0) (pv 1) (fun _ _ => rfl)) pa_nil)) pa_nil))))
      pss_nil)
      (pss_one (ps_ret pe_int))), ?_⟩
    walk_at "rd"
    refine ⟨_, .inl hS, ?_⟩
    rw [List.length_map]
    refine ite2 (fun hk => ?_) (fun _ => q _ (Int.le_refl _))
    have hk2 : k < ns.length := by omega
    refine ⟨_, hS, V.int ns[k], atI_nat (by rw [List.getElem?_map, List.getElem?_eq_getElem hk2]; rfl), _, rfl, ?_⟩
    refine q _ ?_
    split <;> omega
theorem scNum : FnScope ["cell", "count", "numbers", "rest", "mixed", "k"] ["cell", "count"] (defScope sNum) := ⟨rfl, rfl, rfl, by decide +kernel, rfl, by decide +kernel, by decide +kernel⟩
/-- n ints from 0 on below 997 -/
def Nums (n : Nat) (ns : List Int) : Prop := ns.length = n ∧ ∀ x ∈ ns, 0 ≤ x ∧ x < 997
def spNum (K : PySem.W.Frag) : Sp := fun vs H Q _ => ∃ (c : Int) (n : Nat), vs = [.int c, .int n] ∧ n ≤ 1000 ∧ ∀ ns p H', Nums n ns → Same H H' → H p = none → H' p = some (.lst (ns.map V.int)) → Q (.ref p) H'
theorem ok_num {f : Addr} {fd : FuncData} (F : Fun K "_law_numbers" "_law_numbers" sNum f fd) (T : Bi mg) : FnOk P w K mg base CX0 1 f fd ["cell", "count"] (spNum K) := by
  refine F.ok scNum (fun vs H Q E h => ?_) (fun cdv A outer s H vs Q E hr h => ?_)
  · obtain ⟨c, n, rfl, _⟩ := h
    rfl
  · obtain ⟨c, n, rfl, hn, q⟩ := h
    refine ⟨_, (pss_cons (ps_set (i := 2) scNum.nd rfl (Or.inl rfl) (pe_lst pa_nil))
      (pss_cons (ps_set (i := 3) scNum.nd rfl (Or.inl rfl) (pv 0))
      (pss_cons (ps_set (i := 4) scNum.nd rfl (Or.inl rfl) (pe_op op_mod (pe_callTy cr_intI (by rfl) T.int (by decide +kernel) (pa_cons (pe_op op_add (pe_op op_mul (pv 0) pe_int) pe_int) pa_nil)) pe_int))
      (pss_cons (ps_for PassesOwn.never rfl (pi_range1 (by rfl) T.range (pa_cons (pv 1) pa_nil)) (pg_name (i := 5) scNum.nd rfl (Or.inl rfl))
      (pss_cons (ps_set (i := 4) scNum.nd rfl (Or.inl rfl) (pe_op op_mod (pe_callTy cr_intI (by rfl) T.int (by decide +kernel) (pa_cons (pe_op op_add (pe_op op_add (pe_op op_mul (pv 4) pe_int) (pe_op op_mul pe_int (pv 5))) pe_int) pa_nil)) pe_int))
        (pss_one (ps_if (pt_cmpR op_ge (pv 0) (pe_op op_pow pe_int pe_int) (nomark _))
        (pss_cons (ps_expr (pe_bm PySem.F.plainAttrs_list PySem.F.slot_list_append PySem.F.type_list_append mt_append (pv 2) (pa_cons (pe_op op_mod (pe_callTy cr_intI (by rfl) T.int (by decide +kernel) (pa_cons (pv 3) pa_nil)) pe_int) pa_nil)))
          (pss_one (ps_set (i := 3) scNum.nd rfl (Or.inl rfl) (pe_op op_fdiv (pv 3) pe_int))))
        (pss_one (ps_expr (pe_bm PySem.F.plainAttrs_list PySem.F.slot_list_append PySem.F.type_list_append mt_append (pv 2) (pa_cons (pe_op op_mod (pe_callTy cr_intI (by rfl) T.int (by decide +kernel) (pa_cons (pe_op op_fdiv (pv 4) pe_int) pa_nil)) pe_int) pa_nil))))))))
      (pss_one (ps_ret (pv 2))))))), ?_⟩
    walk_at "rd"
    refine ⟨by decide, fun p np => ⟨.inr (by decide), by decide, ?_⟩⟩
    refine ⟨_, rfl, _, rfl, by omega, by omega, for_range (lo := 0) (n := (n : Int).toNat) (fun i σ H' => ∃ (ns : List Int) (rest mixed : Int) (v : Option V), σ = [some (.int c), some (.int n), some (.ref p), some (.int rest), some (.int mixed), v] ∧ Nums i ns ∧ Same H H' ∧ H' p = some (.lst (ns.map V.int)))
      ⟨[], c, _, none, rfl, ⟨rfl, fun x hx => by cases hx⟩, same_upd np, upd_same⟩ ?_ ?_⟩
    · rintro i σ H' hi ⟨ns, rest, mixed, v, rfl, hns, sm, hp⟩
      have small : (List.map V.int ns).length < sizeLine := len_big (by rw [List.length_map, hns.1]; omega)
      have next : ∀ y, 0 ≤ y → y < 997 → Nums (i + 1) (ns ++ [y]) := fun y h0 h1 => by
        refine ⟨by rw [List.length_append, hns.1]; rfl, fun x hx => ?_⟩
        rcases List.mem_append.mp hx with hx | hx
        · exact hns.2 x hx
        · rw [List.mem_singleton.mp hx]
          exact ⟨h0, h1⟩
      have ty : tyV K "list" (.ref p) H' := .inl ⟨rfl, _, SqL.of hp⟩
      walk_at "rd"
      refine ⟨.inr (by decide), .inl (by decide), by decide, ⟨by decide, by decide, by decide⟩, ite2 (fun _ => ?_) (fun _ => ?_)⟩
      · refine ⟨ty, by decide, _, hp, small, ⟨by decide, by decide⟩, ns ++ [rest % 997], next _ (Int.emod_nonneg _ (by decide)) (Int.emod_lt_of_pos _ (by decide)), same_ch sm np, ?_⟩
        rw [upd_same, List.map_append]
        rfl
      · refine ⟨ty, ⟨by decide, by decide⟩, by decide, _, hp, small, ns ++ [(mixed * 48271 + 7919 * (0 + (i : Int)) + 12345) % 2147483647 / 1009 % 997], next _ (Int.emod_nonneg _ (by decide)) (Int.emod_lt_of_pos _ (by decide)), same_ch sm np, ?_⟩
        rw [upd_same, List.map_append]
        rfl
    · rintro σ H' ⟨ns, rest, mixed, v, rfl, hns, sm, hp⟩
      walk_at "rd"
      exact q ns p H' (by simpa using hns) sm np hp
end

/-! ### pairs of ints in the heap -/
abbrev Pr := Int × Int
/-- v is a tuple of the two ints -/
def IsP (H : Hp) (v : V) (d : Pr) : Prop := ∃ t, v = .ref t ∧ H t = some (.tup [.int d.1, .int d.2])
def PL (H : Hp) (vs : List V) (D : List Pr) : Prop := Paired (IsP H) vs D
def kH (H : Hp) (v : V) : Pr := match v with
  | .ref t => match H t with
    | some (.tup [.int x, .int y]) => (x, y)
    | _ => (0, 0)
  | _ => (0, 0)
theorem IsP.k {H : Hp} {v : V} {d : Pr} (h : IsP H v d) : kH H v = d := by
  obtain ⟨t, rfl, e⟩ := h
  unfold kH
  simp only [e]
/-- tuples stand -/
def KT (H H' : Hp) : Prop := ∀ t xs, H t = some (.tup xs) → H' t = some (.tup xs)
theorem KT.refl (H : Hp) : KT H H := fun _ _ h => h
theorem KT.trans {H H1 H2 : Hp} (a : KT H H1) (b : KT H1 H2) : KT H H2 := fun t xs h => b t xs (a t xs h)
theorem KT.same {H H' : Hp} (s : Same H H') : KT H H' := fun t xs h => s t _ h
theorem KT.new {H : Hp} {p : Addr} {o : HO} (n : H p = none) : KT H (upd H p o) := KT.same (same_upd n)
theorem KT.ch {H : Hp} {p : Addr} {o o' : HO} (n : H p = some o') (ho : ∀ xs, o' ≠ .tup xs) : KT H (upd H p o) := fun t xs h => by
  rw [upd_ne]
  · exact h
  · rintro rfl
    rw [h] at n
    exact ho xs (Option.some.inj n).symm
theorem KT.lst {H : Hp} {p : Addr} {o : HO} {vs : List V} (n : H p = some (.lst vs)) : KT H (upd H p o) := KT.ch n (fun _ h => by cases h)
theorem IsP.kt {H H' : Hp} {v : V} {d : Pr} (h : IsP H v d) (k : KT H H') : IsP H' v d := by
  obtain ⟨t, e, h⟩ := h
  exact ⟨t, e, k _ _ h⟩
theorem PL.kt {H H' : Hp} {vs : List V} {D : List Pr} (h : PL H vs D) (k : KT H H') : PL H' vs D := Paired.mapP h fun _ _ q => q.kt k
theorem PL.len {H : Hp} {vs : List V} {D : List Pr} (h : PL H vs D) : vs.length = D.length := Paired.length h
theorem PL.nil0 (H : Hp) : PL H [] [] := Paired.nil
theorem PL.snoc {H : Hp} {vs : List V} {D : List Pr} {v : V} {d : Pr} (h : PL H vs D) (q : IsP H v d) : PL H (vs ++ [v]) (D ++ [d]) := Paired.snoc h q
theorem PL.get : ∀ {H : Hp} {vs : List V} {D : List Pr} {i : Nat} {v : V}, PL H vs D → vs[i]? = some v → ∃ d, D[i]? = some d ∧ IsP H v d
  | _, _, _, _, _, Paired.nil, e => by simp at e
  | _, _, _, 0, v, .cons r _, e => by
    have e2 := Option.some.inj e
    subst e2
    exact ⟨_, rfl, r⟩
  | _, _, _, i + 1, v, .cons _ t, e => PL.get (i := i) t e
theorem PL.get2 : ∀ {H : Hp} {vs : List V} {D : List Pr} {i : Nat} {d : Pr}, PL H vs D → D[i]? = some d → ∃ v, vs[i]? = some v ∧ IsP H v d
  | _, _, _, _, _, Paired.nil, e => by simp at e
  | _, _, _, 0, v, .cons r _, e => by
    have e2 := Option.some.inj e
    subst e2
    exact ⟨_, rfl, r⟩
  | _, _, _, i + 1, v, .cons _ t, e => PL.get2 (i := i) t e
theorem PL.toK : ∀ {H : Hp} {vs : List V} {D : List Pr}, PL H vs D → D = vs.map (kH H) ∧ ∀ v ∈ vs, IsP H v (kH H v)
  | _, _, _, Paired.nil => ⟨rfl, fun v hv => by cases hv⟩
  | H, _, _, .cons r t => by
    obtain ⟨e, h⟩ := PL.toK t
    have q := r.k
    refine ⟨by rw [List.map_cons, ← e, q], fun v hv => ?_⟩
    rcases List.mem_cons.mp hv with rfl | hv
    · rw [q]
      exact r
    · exact h v hv
theorem PL.ofK {H : Hp} : ∀ {vs : List V}, (∀ v ∈ vs, IsP H v (kH H v)) → PL H vs (vs.map (kH H))
  | [], _ => Paired.nil
  | v :: vs, h => .cons (h v List.mem_cons_self) (PL.ofK fun u hu => h u (List.mem_cons_of_mem _ hu))
/-! ### sorted lists of pairs -/
def lt2 (p q : Pr) : Prop := p.1 < q.1 ∨ (p.1 = q.1 ∧ p.2 < q.2)
def Asc (D : List Pr) : Prop := D.Pairwise lt2
theorem lt2_irr (p : Pr) : ¬ lt2 p p := by
  unfold lt2
  omega
theorem lt2_ne {p q : Pr} (h : lt2 p q) : p ≠ q := by
  rintro rfl
  exact lt2_irr p h
theorem Asc.nodup {D : List Pr} (h : Asc D) : D.Nodup := List.Pairwise.imp lt2_ne h
theorem asc_of {D : List Pr} (nd : D.Nodup) (h : D.Pairwise fun x y => ¬ lt2 y x) : Asc D := by
  induction D with
  | nil => exact List.Pairwise.nil
  | cons p D ih =>
    obtain ⟨h1, h2⟩ := List.pairwise_cons.mp h
    obtain ⟨n1, n2⟩ := List.nodup_cons.mp nd
    refine List.pairwise_cons.mpr ⟨fun q hq => ?_, ih n2 h2⟩
    have a := h1 q hq
    have b : p ≠ q := fun e => n1 (by rw [e]; exact hq)
    unfold lt2 at a ⊢
    obtain ⟨p1, p2⟩ := p
    obtain ⟨q1, q2⟩ := q
    have c : ¬ (p1 = q1 ∧ p2 = q2) := fun ⟨e1, e2⟩ => b (by rw [e1, e2])
    simp only at a ⊢
    omega
/-- two ascending lists with the same pairs are one -/
theorem asc_uniq : ∀ {D E : List Pr}, Asc D → Asc E → (∀ p, p ∈ D ↔ p ∈ E) → D = E
  | [], [], _, _, _ => rfl
  | [], q :: E, _, _, h => by
    have := (h q).mpr List.mem_cons_self
    cases this
  | p :: D, [], _, _, h => by
    have := (h p).mp List.mem_cons_self
    cases this
  | p :: D, q :: E, hD, hE, h => by
    obtain ⟨a1, a2⟩ := List.pairwise_cons.mp hD
    obtain ⟨b1, b2⟩ := List.pairwise_cons.mp hE
    have e : p = q := by
      rcases List.mem_cons.mp ((h p).mp List.mem_cons_self) with e | hp
      · exact e
      · rcases List.mem_cons.mp ((h q).mpr List.mem_cons_self) with e | hq
        · exact e.symm
        · have c1 := b1 p hp
          have c2 := a1 q hq
          unfold lt2 at c1 c2
          omega
    subst e
    rw [asc_uniq a2 b2 fun z => ?_]
    constructor
    · intro hz
      rcases List.mem_cons.mp ((h z).mp (List.mem_cons_of_mem _ hz)) with e | hz2
      · subst e
        exact absurd (a1 z hz) (lt2_irr z)
      · exact hz2
    · intro hz
      rcases List.mem_cons.mp ((h z).mpr (List.mem_cons_of_mem _ hz)) with e | hz2
      · subst e
        exact absurd (b1 z hz) (lt2_irr z)
      · exact hz2
theorem srtd_asc {H : Hp} {ys : List V} (nd : (ys.map (kH H)).Nodup) (h : SrtO.Srtd (ltP (kH H)) ys) : Asc (ys.map (kH H)) := by
  refine asc_of nd (List.pairwise_map.mpr (List.Pairwise.imp (fun {x y} h => ?_) h))
  exact SrtO.lexB_no.mp h
/-- doors of a house with r rooms -/
structure Drs (r : Nat) (D : List Pr) : Prop where
  asc : Asc D
  ok : ∀ d ∈ D, 0 ≤ d.1 ∧ d.1 < d.2 ∧ d.2 < r
def cd (d : Pr) : Nat := (d.1 * 12 + d.2).toNat
theorem drs_len' {r : Nat} {D : List Pr} (hr : r ≤ 12) (nd : D.Nodup) (ok : ∀ d ∈ D, 0 ≤ d.1 ∧ d.1 < d.2 ∧ d.2 < r) : D.length ≤ 66 := by
  have h1 : (D.map cd).Nodup := by
    refine List.pairwise_map.mpr (List.Pairwise.imp_of_mem (fun {x y} hx hy hne e => ?_) nd)
    have a := ok x hx
    have b := ok y hy
    unfold cd at e
    obtain ⟨x1, x2⟩ := x
    obtain ⟨y1, y2⟩ := y
    simp only at a b e
    have : x1 = y1 ∧ x2 = y2 := by omega
    exact hne (by rw [this.1, this.2])
  have h2 : ∀ c ∈ D.map cd, c ∈ (List.range 144).filter fun c => c / 12 < c % 12 := fun c hc => by
    obtain ⟨d, hd, rfl⟩ := List.mem_map.mp hc
    have a := ok d hd
    refine List.mem_filter.mpr ⟨List.mem_range.mpr ?_, ?_⟩
    · unfold cd
      omega
    · rw [decide_eq_true_eq]
      unfold cd
      omega
  have h3 := nat_nodup_len (D.map cd) _ h1 h2
  rw [List.length_map] at h3
  exact Nat.le_trans h3 (by decide)
theorem Drs.len {r : Nat} {D : List Pr} (hr : r ≤ 12) (h : Drs r D) : D.length ≤ 66 := drs_len' hr h.asc.nodup h.ok

abbrev sNam : Stmt := topS 0
theorem sub_lt_of {i n : Nat} (h : i < n) : (0 : Int) < (n : Int) - (i : Int) := by omega
/-- the ints from 0 on below n -/
def rg (n : Nat) : List Int := (List.range n).map Int.ofNat
theorem rg_len (n : Nat) : (rg n).length = n := by unfold rg; rw [List.length_map, List.length_range]
theorem rgV_rg (n : Nat) : rgV 0 (n : Int) = (rg n).map V.int := by
  unfold rgV rg
  rw [List.map_map]
  show List.map _ (List.range ((n : Int) - 0).toNat) = _
  rw [show ((n : Int) - 0).toNat = n by omega]
  refine List.map_congr_left fun i _ => ?_
  show V.int (0 + (i : Int)) = V.int (i : Int)
  rw [Int.zero_add]
theorem set_map {α β : Type} (f : α → β) (l : List α) (i : Nat) (x : α) : (l.map f).set i (f x) = (l.set i x).map f := by
  rw [List.map_set]
section
variable {P : Program} {w : World} {K : PySem.W.Frag} {mg : Str → Option Value} {base : Heap}
end

abbrev sDrs : Stmt := topS 0
/-- min and max of the two names -/
def mm (xs : List Int) (p : Nat × Nat) : Pr := (if xs.getD p.2 0 < xs.getD p.1 0 then xs.getD p.2 0 else xs.getD p.1 0, if xs.getD p.2 0 > xs.getD p.1 0 then xs.getD p.2 0 else xs.getD p.1 0)
/-- pairs that have been met when the outer loop stands at b, the inner at a -/
structure Vis (r b a : Nat) (L : List (Nat × Nat)) : Prop where
  ok : ∀ p ∈ L, p.1 < p.2 ∧ p.2 < r ∧ (p.2 < b ∨ (p.2 = b ∧ p.1 < a))
  nd : L.Nodup
theorem Vis.zero (r : Nat) : Vis r 1 0 [] := ⟨fun p h => (by cases h), List.nodup_nil⟩
theorem Vis.skip {r b a : Nat} {L : List (Nat × Nat)} (h : Vis r b a L) : Vis r b (a + 1) L := by
  refine ⟨fun p hp => ?_, h.nd⟩
  have := h.ok p hp
  omega
theorem Vis.row {r b : Nat} {L : List (Nat × Nat)} (h : Vis r b b L) : Vis r (b + 1) 0 L := by
  refine ⟨fun p hp => ?_, h.nd⟩
  have := h.ok p hp
  omega
theorem Vis.more {r b a : Nat} {L : List (Nat × Nat)} (h : Vis r b a L) (hb : b < r) (ha : a < b) : Vis r b (a + 1) (L ++ [(a, b)]) := by
  refine ⟨fun p hp => ?_, ?_⟩
  · rcases List.mem_append.mp hp with hp | hp
    · have := h.ok p hp
      omega
    · rw [List.mem_singleton.mp hp]
      exact ⟨ha, hb, .inr ⟨rfl, Nat.lt_succ_self a⟩⟩
  · refine List.nodup_append.mpr ⟨h.nd, by simp, fun p hp q hq => ?_⟩
    rw [List.mem_singleton.mp hq]
    rintro rfl
    have := h.ok _ hp
    simp only at this
    omega
theorem rg_nodup (n : Nat) : (rg n).Nodup := by
  unfold rg
  exact List.pairwise_map.mpr (List.Pairwise.imp (fun {x y} h e => h (Int.ofNat.inj e)) List.nodup_range)
theorem rg_mem {n : Nat} {x : Int} (h : x ∈ rg n) : 0 ≤ x ∧ x < n := by
  obtain ⟨i, hi, rfl⟩ := List.mem_map.mp h
  have := List.mem_range.mp hi
  show 0 ≤ (i : Int) ∧ (i : Int) < n
  omega
/-- names: each room once -/
structure Nms (r : Nat) (xs : List Int) : Prop where
  pm : xs.Perm (rg r)
theorem Nms.len {r : Nat} {xs : List Int} (h : Nms r xs) : xs.length = r := by rw [h.pm.length_eq, rg_len]
theorem Nms.nd {r : Nat} {xs : List Int} (h : Nms r xs) : xs.Nodup := h.pm.nodup_iff.mpr (rg_nodup r)
theorem Nms.bd {r : Nat} {xs : List Int} (h : Nms r xs) {i : Nat} (hi : i < r) : 0 ≤ xs.getD i 0 ∧ xs.getD i 0 < r := by
  have hl := h.len
  have e : xs.getD i 0 = xs[i] := by rw [List.getD_eq_getElem?_getD, List.getElem?_eq_getElem (by omega)]; rfl
  rw [e]
  exact rg_mem (h.pm.mem_iff.mp (List.getElem_mem _))
theorem Nms.inj {r : Nat} {xs : List Int} (h : Nms r xs) {i j : Nat} (hi : i < r) (hj : j < r) (e : xs.getD i 0 = xs.getD j 0) : i = j := by
  have hl := h.len
  have e1 : xs.getD i 0 = xs[i] := by rw [List.getD_eq_getElem?_getD, List.getElem?_eq_getElem (by omega)]; rfl
  have e2 : xs.getD j 0 = xs[j] := by rw [List.getD_eq_getElem?_getD, List.getElem?_eq_getElem (by omega)]; rfl
  rw [e1, e2] at e
  refine nd_ix h.nd (List.getElem?_eq_getElem (by omega)) ?_
  rw [e]
  exact List.getElem?_eq_getElem (by omega)
theorem mm_ok {r : Nat} {xs : List Int} (h : Nms r xs) {p : Nat × Nat} (h1 : p.1 < p.2) (h2 : p.2 < r) : 0 ≤ (mm xs p).1 ∧ (mm xs p).1 < (mm xs p).2 ∧ (mm xs p).2 < r := by
  have a := h.bd (i := p.1) (by omega)
  have b := h.bd (i := p.2) h2
  have ne : xs.getD p.1 0 ≠ xs.getD p.2 0 := fun e => by
    have := h.inj (i := p.1) (j := p.2) (by omega) h2 e
    omega
  unfold mm
  simp only
  split <;> split <;> omega
theorem mm_inj {r : Nat} {xs : List Int} (h : Nms r xs) {p q : Nat × Nat} (p1 : p.1 < p.2) (p2 : p.2 < r) (q1 : q.1 < q.2) (q2 : q.2 < r) (e : mm xs p = mm xs q) : p = q := by
  have e1 := congrArg Prod.fst e
  have e2 := congrArg Prod.snd e
  unfold mm at e1 e2
  simp only at e1 e2
  have k : (xs.getD p.1 0 = xs.getD q.1 0 ∧ xs.getD p.2 0 = xs.getD q.2 0) ∨ (xs.getD p.1 0 = xs.getD q.2 0 ∧ xs.getD p.2 0 = xs.getD q.1 0) := by
    split at e1 <;> split at e1 <;> split at e2 <;> split at e2 <;> omega
  rcases k with ⟨k1, k2⟩ | ⟨k1, k2⟩
  · have a := h.inj (by omega) (by omega) k1
    have b := h.inj (by omega) (by omega) k2
    exact Prod.ext a b
  · have a := h.inj (by omega) (by omega) k1
    have b := h.inj (by omega) (by omega) k2
    omega
theorem vis_nd {r b a : Nat} {xs : List Int} {L : List (Nat × Nat)} (h : Nms r xs) (v : Vis r b a L) : (L.map (mm xs)).Nodup := by
  refine List.pairwise_map.mpr (List.Pairwise.imp_of_mem (fun {p q} hp hq hne e => ?_) v.nd)
  have a := v.ok p hp
  have b := v.ok q hq
  exact hne (mm_inj h a.1 a.2.1 b.1 b.2.1 e)
theorem vis_ok {r b a : Nat} {xs : List Int} {L : List (Nat × Nat)} (h : Nms r xs) (v : Vis r b a L) : ∀ d ∈ L.map (mm xs), 0 ≤ d.1 ∧ d.1 < d.2 ∧ d.2 < r := fun d hd => by
  obtain ⟨p, hp, rfl⟩ := List.mem_map.mp hd
  have a := v.ok p hp
  exact mm_ok h a.1 a.2.1
theorem tri {b : Nat} (h : b ≤ 11) : (b : Int) * ((b : Int) - 1) / 2 ≤ 55 ∧ 0 ≤ (b : Int) * ((b : Int) - 1) / 2 := by
  have : b = 0 ∨ b = 1 ∨ b = 2 ∨ b = 3 ∨ b = 4 ∨ b = 5 ∨ b = 6 ∨ b = 7 ∨ b = 8 ∨ b = 9 ∨ b = 10 ∨ b = 11 := by omega
  rcases this with rfl | rfl | rfl | rfl | rfl | rfl | rfl | rfl | rfl | rfl | rfl | rfl <;> decide
section
variable {P : Program} {w : World} {K : PySem.W.Frag} {mg : Str → Option Value} {base : Heap}
end

abbrev sSame : Stmt := topS 17
/-- isinstance of built-in kinds -/
def isTy (m n : String) : Bool := m == n || (m == "bool" && n == "int")
theorem kit5 {K : PySem.W.Frag} {m n : String} (hm : m = "bool" ∨ m = "int" ∨ m = "str" ∨ m = "list" ∨ m = "tuple") (hn : n = "bool" ∨ n = "int" ∨ n = "str" ∨ n = "list" ∨ n = "tuple") : PySem.W.kitOne K (.type m) (.type n) = some (isTy m n) := by
  rcases hm with rfl | rfl | rfl | rfl | rfl <;> rcases hn with rfl | rfl | rfl | rfl | rfl <;> exact kit_ty (by decide +kernel)
def rIs5 (K : PySem.W.Frag) : List V → Hp → VK → Prop := fun xs H Q => ∃ (x : V) (n m : String), xs = [x, .ty n] ∧ TyX K H x (.type m) ∧ (m = "bool" ∨ m = "int" ∨ m = "str" ∨ m = "list" ∨ m = "tuple") ∧ (n = "bool" ∨ n = "int" ∨ n = "str" ∨ n = "list" ∨ n = "tuple") ∧ Q (.bl (isTy m n)) H
theorem cr_is5 {X : Cx} : CallR X (.builtin "isinstance") (rIs5 X.K) := fun pins s σ H xs us Q I r h => by
  obtain ⟨x, n, m, rfl, ty, hm, hn, q⟩ := h
  exact call_isi pins s σ H _ us Q I r ⟨x, .ty n, _, _, _, rfl, .ty n, ty, kit5 hm hn, q⟩
theorem is5_of {K : PySem.W.Frag} {H : Hp} {x : V} {n m : String} {Q : VK} (ty : TyX K H x (.type m)) (hm : m = "bool" ∨ m = "int" ∨ m = "str" ∨ m = "list" ∨ m = "tuple") (hn : n = "bool" ∨ n = "int" ∨ n = "str" ∨ n = "list" ∨ n = "tuple") (q : Q (.bl (isTy m n)) H) : rIs5 K [x, .ty n] H Q :=
  ⟨x, n, m, rfl, ty, hm, hn, q⟩
theorem eqS_of {H : Hp} {x : V} {Q : VK} (h : scal x x = true) (q : Q (.bl true) H) : rEq x x H Q := ⟨h, by rw [decide_eq_true rfl]; exact q⟩
local macro_rules | `(tactic| walk_at "i5") => `(tactic| ((first | refine is5_of (.base (.int _)) (by decide) (by decide) ?_ | refine is5_of (.base (.str _)) (by decide) (by decide) ?_ | refine is5_of (.base (.bl _)) (by decide) (by decide) ?_ | refine is5_of (.base (.lst (by assumption))) (by decide) (by decide) ?_ | refine is5_of (.base (.tup (by assumption))) (by decide) (by decide) ?_)))
local macro_rules | `(tactic| walk_at "i6") => `(tactic| (simp only [rIsT, isTy, String.reduceBEq, Bool.or_false, Bool.or_true, Bool.and_false, Bool.and_true, Bool.true_or, Bool.false_or, Bool.true_and, Bool.false_and, reduceCtorEq, decide_false, decide_true, V.bl.injEq, exists_eq_left', if_true, if_false, Bool.false_eq_true, ↓reduceIte, Bool.not_true, Bool.not_false, ite_self]))
def flat4 : V → Bool
  | .non => true
  | .bl _ => true
  | .int _ => true
  | .str _ => true
  | _ => false
/-- the same data, of at most this depth, the lists and tuples tracked -/
def Sm (H : Hp) : Nat → V → V → Prop
  | 0, x, y => x = y ∧ flat4 x = true
  | n + 1, x, y => (x = y ∧ flat4 x = true) ∨ ∃ a b xs ys, x = .ref a ∧ y = .ref b ∧ ((H a = some (.lst xs) ∧ H b = some (.lst ys)) ∨ (H a = some (.tup xs) ∧ H b = some (.tup ys))) ∧ Paired (Sm H n) xs ys ∧ xs.length ≤ 100000
theorem Sm.flat {H : Hp} {n : Nat} {x : V} (h : flat4 x = true) : Sm H n x x := by
  cases n with
  | zero => exact ⟨rfl, h⟩
  | succ n => exact .inl ⟨rfl, h⟩
theorem paired_get {α β : Type} {F : α → β → Prop} : ∀ {xs : List α} {ys : List β} {i : Nat}, Paired F xs ys → i < xs.length → ∃ x y, xs[i]? = some x ∧ ys[i]? = some y ∧ F x y
  | _, _, _, .nil, h => by cases h
  | _, _, 0, .cons r _, _ => ⟨_, _, rfl, rfl, r⟩
  | _, _, i + 1, .cons _ t, h => paired_get (i := i) t (Nat.lt_of_succ_lt_succ h)
section
variable {P : Program} {w : World} {K : PySem.W.Frag} {mg : Str → Option Value} {base : Heap}
theorem scSame : FnScope ["got", "due", "k"] ["got", "due"] (defScope sSame) := ⟨rfl, rfl, rfl, by decide +kernel, rfl, by decide +kernel, by decide +kernel⟩
def spSame (n : Nat) : Sp := fun vs H Q _ => ∃ x y, vs = [x, y] ∧ Sm H n x y ∧ Q (.bl true) H
theorem ok_same {f : Addr} {fd : FuncData} (F : Fun K "_law_same" "_law_same" sSame f fd) (T : Bi mg) (bd : Binds K fd ["got", "due"] []) (hmg : mg "_law_same" = some (.ref f)) : ∀ n, FnOk P w K mg base CX0 (n + 1) f fd ["got", "due"] (spSame n) := by
  intro n
  induction n with
  | zero =>
    refine F.ok scSame (fun vs H Q E h => ?_) (fun cdv A outer s H vs Q E hr h => ?_)
    · obtain ⟨x, y, rfl, _⟩ := h
      rfl
    · obtain ⟨x, y, rfl, ⟨rfl, hf⟩, q⟩ := h
      refine ⟨_, (pss_cons (ps_if (pt_cmpR op_isN (pv 1) pe_non (nomark _))
      (pss_one (ps_ret (pe_cmpR op_isN (pv 0) pe_non (nomark _))))
      pss_nil)
      (pss_cons (ps_if (pt_cmpR op_isT (pv 1) pe_bl (nomark _))
      (pss_one (ps_ret (pe_cmpR op_isT (pv 0) pe_bl (nomark _))))
      pss_nil)
      (pss_cons (ps_if (pt_cmpR op_isT (pv 1) pe_bl (nomark _))
      (pss_one (ps_ret (pe_cmpR op_isT (pv 0) pe_bl (nomark _))))
      pss_nil)
      (pss_cons (ps_if (pt_val (pe_callB cr_is5 (by rfl) T.isinstance (by decide +kernel) (pa_cons (pv 1) (pa_cons (pe_bltn (v := .ty "int") (by rfl) T.int (by decide +kernel) rfl) pa_nil))))
      (pss_one (ps_ret (pe_and (pe_callB cr_is5 (by rfl) T.isinstance (by decide +kernel) (pa_cons (pv 0) (pa_cons (pe_bltn (v := .ty "int") (by rfl) T.int (by decide +kernel) rfl) pa_nil))) (pe_and (pe_not (pe_callB cr_is5 (by rfl) T.isinstance (by decide +kernel) (pa_cons (pv 0) (pa_cons (pe_bltn (v := .ty "bool") (by rfl) T.bool (by decide +kernel) rfl) pa_nil)))) (pe_one (pe_cmpR op_eq (pv 0) (pv 1) (nomark _)))))))
      pss_nil)
      (pss_cons (ps_if (pt_val (pe_callB cr_is5 (by rfl) T.isinstance (by decide +kernel) (pa_cons (pv 1) (pa_cons (pe_bltn (v := .ty "str") (by rfl) T.str (by decide +kernel) rfl) pa_nil))))
      (pss_one (ps_ret (pe_and (pe_callB cr_is5 (by rfl) T.isinstance (by decide +kernel) (pa_cons (pv 0) (pa_cons (pe_bltn (v := .ty "str") (by rfl) T.str (by decide +kernel) rfl) pa_nil))) (pe_one (pe_cmpR op_eq (pv 0) (pv 1) (nomark _))))))
      pss_nil)
      (pss_cons (ps_if (PW.pt (pw_and (pt_val (pe_callB cr_is5 (by rfl) T.isinstance (by decide +kernel) (pa_cons (pv 1) (pa_cons (pe_bltn (v := .ty "list") (by rfl) T.list (by decide +kernel) rfl) pa_nil)))) (pw_and1 (pt_not (pt_val (pe_callB cr_is5 (by rfl) T.isinstance (by decide +kernel) (pa_cons (pv 0) (pa_cons (pe_bltn (v := .ty "list") (by rfl) T.list (by decide +kernel) rfl) pa_nil))))))))
      (pss_one (ps_ret pe_bl))
      pss_nil)
      (pss_cons (ps_if (PW.pt (pw_and (pt_val (pe_callB cr_is5 (by rfl) T.isinstance (by decide +kernel) (pa_cons (pv 1) (pa_cons (pe_bltn (v := .ty "tuple") (by rfl) T.tuple (by decide +kernel) rfl) pa_nil)))) (pw_and1 (pt_not (pt_val (pe_callB cr_is5 (by rfl) T.isinstance (by decide +kernel) (pa_cons (pv 0) (pa_cons (pe_bltn (v := .ty "tuple") (by rfl) T.tuple (by decide +kernel) rfl) pa_nil))))))))
      (pss_one (ps_ret pe_bl))
      pss_nil)
      (pss_cons (ps_if (pt_cmpR op_neI (pe_callB call_len_seq (by rfl) T.len (by decide +kernel) (pa_cons (pv 0) pa_nil)) (pe_callB call_len_seq (by rfl) T.len (by decide +kernel) (pa_cons (pv 1) pa_nil)) (nomark _))
      (pss_one (ps_ret pe_bl))
      pss_nil)
      (pss_cons (ps_never)
      (pss_one (ps_ret pe_bl))))))))))), ?_⟩
      walk_at "rd"
      cases x with
      | non => walk_at "i6"; exact q
      | bl b =>
        cases b with
        | true => walk_at "i6"; exact q
        | false => walk_at "i6"; exact q
      | int i =>
        walk_at "i6"
        repeat (walk_at "i5"; walk_at "i6")
        exact eqS_of rfl q
      | str z =>
        walk_at "i6"
        repeat (walk_at "i5"; walk_at "i6")
        exact eqS_of rfl q
      | _ => cases hf
  | succ n ih =>
    refine F.ok scSame (fun vs H Q E h => ?_) (fun cdv A outer s H vs Q E hr h => ?_)
    · obtain ⟨x, y, rfl, _⟩ := h
      rfl
    · obtain ⟨x, y, rfl, hs, q⟩ := h
      refine ⟨_, (pss_cons (ps_if (pt_cmpR op_isN (pv 1) pe_non (nomark _))
      (pss_one (ps_ret (pe_cmpR op_isN (pv 0) pe_non (nomark _))))
      pss_nil)
      (pss_cons (ps_if (pt_cmpR op_isT (pv 1) pe_bl (nomark _))
      (pss_one (ps_ret (pe_cmpR op_isT (pv 0) pe_bl (nomark _))))
      pss_nil)
      (pss_cons (ps_if (pt_cmpR op_isT (pv 1) pe_bl (nomark _))
      (pss_one (ps_ret (pe_cmpR op_isT (pv 0) pe_bl (nomark _))))
      pss_nil)
      (pss_cons (ps_if (pt_val (pe_callB cr_is5 (by rfl) T.isinstance (by decide +kernel) (pa_cons (pv 1) (pa_cons (pe_bltn (v := .ty "int") (by rfl) T.int (by decide +kernel) rfl) pa_nil))))
      (pss_one (ps_ret (pe_and (pe_callB cr_is5 (by rfl) T.isinstance (by decide +kernel) (pa_cons (pv 0) (pa_cons (pe_bltn (v := .ty "int") (by rfl) T.int (by decide +kernel) rfl) pa_nil))) (pe_and (pe_not (pe_callB cr_is5 (by rfl) T.isinstance (by decide +kernel) (pa_cons (pv 0) (pa_cons (pe_bltn (v := .ty "bool") (by rfl) T.bool (by decide +kernel) rfl) pa_nil)))) (pe_one (pe_cmpR op_eq (pv 0) (pv 1) (nomark _)))))))
      pss_nil)
      (pss_cons (ps_if (pt_val (pe_callB cr_is5 (by rfl) T.isinstance (by decide +kernel) (pa_cons (pv 1) (pa_cons (pe_bltn (v := .ty "str") (by rfl) T.str (by decide +kernel) rfl) pa_nil))))
      (pss_one (ps_ret (pe_and (pe_callB cr_is5 (by rfl) T.isinstance (by decide +kernel) (pa_cons (pv 0) (pa_cons (pe_bltn (v := .ty "str") (by rfl) T.str (by decide +kernel) rfl) pa_nil))) (pe_one (pe_cmpR op_eq (pv 0) (pv 1) (nomark _))))))
      pss_nil)
      (pss_cons (ps_if (PW.pt (pw_and (pt_val (pe_callB cr_is5 (by rfl) T.isinstance (by decide +kernel) (pa_cons (pv 1) (pa_cons (pe_bltn (v := .ty "list") (by rfl) T.list (by decide +kernel) rfl) pa_nil)))) (pw_and1 (pt_not (pt_val (pe_callB cr_is5 (by rfl) T.isinstance (by decide +kernel) (pa_cons (pv 0) (pa_cons (pe_bltn (v := .ty "list") (by rfl) T.list (by decide +kernel) rfl) pa_nil))))))))
      (pss_one (ps_ret pe_bl))
      pss_nil)
      (pss_cons (ps_if (PW.pt (pw_and (pt_val (pe_callB cr_is5 (by rfl) T.isinstance (by decide +kernel) (pa_cons (pv 1) (pa_cons (pe_bltn (v := .ty "tuple") (by rfl) T.tuple (by decide +kernel) rfl) pa_nil)))) (pw_and1 (pt_not (pt_val (pe_callB cr_is5 (by rfl) T.isinstance (by decide +kernel) (pa_cons (pv 0) (pa_cons (pe_bltn (v := .ty "tuple") (by rfl) T.tuple (by decide +kernel) rfl) pa_nil))))))))
      (pss_one (ps_ret pe_bl))
      pss_nil)
      (pss_cons (ps_if (pt_cmpR op_neI (pe_callB call_len_seq (by rfl) T.len (by decide +kernel) (pa_cons (pv 0) pa_nil)) (pe_callB call_len_seq (by rfl) T.len (by decide +kernel) (pa_cons (pv 1) pa_nil)) (nomark _))
      (pss_one (ps_ret pe_bl))
      pss_nil)
      (pss_cons (ps_for PassesOwn.never rfl (pi_range1 (by rfl) T.range (pa_cons (pe_callB call_len_seq (by rfl) T.len (by decide +kernel) (pa_cons (pv 1) pa_nil)) pa_nil)) (pg_name (i := 2) scSame.nd rfl (Or.inl rfl))
      (pss_one (ps_if (pt_not (pt_val (pe_call ih hr (by rfl) hmg F.kp bd .nil pass0 (pa_cons (pe_ix ix_seq (pv 0) (pv 2) (fun _ _ => rfl)) (pa_cons (pe_ix ix_seq (pv 1) (pv 2) (fun _ _ => rfl)) pa_nil)))))
        (pss_one (ps_ret pe_bl))
        pss_nil)))
      (pss_one (ps_ret pe_bl))))))))))), ?_⟩
      walk_at "rd"
      rcases hs with ⟨rfl, hf⟩ | ⟨a, b, xs, ys, rfl, rfl, hk, pr, hl⟩
      · skip
        cases x with
        | non => walk_at "i6"; exact q
        | bl b =>
          cases b with
          | true => walk_at "i6"; exact q
          | false => walk_at "i6"; exact q
        | int i =>
          walk_at "i6"
          repeat (walk_at "i5"; walk_at "i6")
          exact eqS_of rfl q
        | str z =>
          walk_at "i6"
          repeat (walk_at "i5"; walk_at "i6")
          exact eqS_of rfl q
        | _ => cases hf
      · have el : xs.length = ys.length := pr.length
        have hx : SqL K H a xs ∨ SqT K H a xs := by
          rcases hk with ⟨ha, _⟩ | ⟨ha, _⟩
          · exact .inl (SqL.of ha)
          · exact .inr (SqT.of ha)
        have hy : SqL K H b ys ∨ SqT K H b ys := by
          rcases hk with ⟨_, ha⟩ | ⟨_, ha⟩
          · exact .inl (SqL.of ha)
          · exact .inr (SqT.of ha)
        have ix : ∀ {zs : List V} {k : Nat} {p : Addr} {v : V} {Q : VK}, (SqL K H p zs ∨ SqT K H p zs) → zs[k]? = some v → Q v H → rIx K (.ref p) (.int k) H Q := fun hz hv hq => by
          rcases hz with hz | hz
          · exact .inl ⟨_, _, _, _, rfl, rfl, hz, atI_nat hv, hq⟩
          · exact .inr (.inl ⟨_, _, _, _, rfl, rfl, hz, atI_nat hv, hq⟩)
        rcases hk with ⟨ha, hb⟩ | ⟨ha, hb⟩
        all_goals
          walk_at "i6"
          repeat (walk_at "i5"; walk_at "i6")
          refine ⟨_, rfl, _, hx, _, rfl, _, hy, ?_⟩
          rw [el, decide_eq_true rfl]
          refine iteF ?_
          obtain ⟨Pv, hPv⟩ : ∃ Pv : Nat → L2.St → Hp → Prop, Pv = (fun i σ H' => ∃ v : Option V, σ = [some (.ref a), some (.ref b), v] ∧ H' = H) := ⟨_, rfl⟩
          refine ⟨_, rfl, b, rfl, ys, hy, ys.length, rfl, by omega, by omega, for_range (lo := 0) (n := ((ys.length : Nat) : Int).toNat) Pv (by rw [hPv]; exact ⟨none, rfl, rfl⟩) ?_ ?_⟩
          · rintro i σ H' hi pv
            have nxt : ∀ v, Pv (i + 1) [some (.ref a), some (.ref b), v] H := fun v => by
              rw [hPv]
              exact ⟨v, rfl, rfl⟩
            rw [hPv] at pv
            obtain ⟨v, rfl, rfl⟩ := pv
            obtain ⟨x1, y1, g1, g2, sm⟩ := paired_get (i := i) pr (by omega)
            walk_at "rd"
            rw [Int.zero_add]
            refine ix hx g1 (ix hy g2 ⟨_, _, rfl, sm, ?_⟩)
            exact ⟨true, rfl, iteF (nxt _)⟩
          · rintro σ H' pv
            rw [hPv] at pv
            obtain ⟨v, rfl, rfl⟩ := pv
            walk_at "rd"
            exact q
end

/-! ### a set of tuples of ints, whatever their number (the table's masks: 7, 31, 127) -/
structure PsR (P : Program) (w : World) (h : Heap) (a : Addr) (L : List (Addr × List Int)) (es : Array (Int × Value)) (ep : Nat) (t : SetTable) : Prop where
  obj : ∃ o, h.get? a = some o ∧ o.ExactSet ∧ o.data = .set es ep t
  rw_ : es.toList = rowsOf P w L
  tb : TabOk t (L.map fun p => thash P w p.2)
  nod : (L.map (·.2)).Nodup
  tps : ∀ p ∈ L, IsT P w h p.2 p.1
  pln : t.plain = true
  ld : w.params.followText "set-order" = true ∨ t.led = true
  rm : L.length * 5 < t.mask * 3
section
variable {P : Program} {w : World} {A : Around} {E : Value → Shared → Prop} {s : Shared}
variable {a : Addr} {L : List (Addr × List Int)} {es : Array (Int × Value)} {ep : Nat} {t : SetTable}
theorem PsR.sz (R : PsR P w s.heap a L es ep t) : es.size = L.length := by
  have e := congrArg List.length R.rw_
  rw [Array.length_toList] at e
  rw [e]
  exact List.length_map _
theorem PsR.psz (R : PsR P w s.heap a L es ep t) : t.place.size = L.length := by
  have e := R.tb.sz
  rw [List.length_map] at e
  exact e
theorem PsR.fts (R : PsR P w s.heap a L es ep t) : t.fits es.size = true := by
  have e1 := R.psz
  have e2 := R.sz
  have e3 := R.rm
  have e4 : t.fill = t.place.size := by
    show t.place.size + t.dummies.size = t.place.size
    rw [R.tb.dm]
    rfl
  show (t.place.size == es.size && decide (t.fill ≤ t.mask)) = true
  rw [e4, e1, e2, beq_self_eq_true, Bool.true_and, decide_eq_true_eq]
  omega
theorem PsR.ent (R : PsR P w s.heap a L es ep t) {i : Nat} {p : Addr × List Int} (g : L[i]? = some p) : es[i]? = some (thash P w p.2, Value.ref p.1) := by
  have e : (rowsOf P w L)[i]? = some (thash P w p.2, Value.ref p.1) := by
    show (L.map _)[i]? = _
    rw [List.getElem?_map, g]
    rfl
  rw [← R.rw_, Array.getElem?_toList] at e
  exact e
theorem PsR.odd (R : PsR P w s.heap a L es ep t) : ¬ t.gaveWay = true := fun z => by
  have m := mask_odd R.tb.mok
  have z2 : (t.mask % 2 == 0) = true := z
  rw [m] at z2
  cases z2
/-- the c-th state of the search for the tuple k -/
abbrev stAt (P : Program) (w : World) (t : SetTable) (k : List Int) (c : Nat) : SetTable.Probe := nth t.mask (t.probeStart (thash P w k)) c
abbrev slAt (P : Program) (w : World) (t : SetTable) (k : List Int) (c : Nat) : Nat := (stAt P w t k c).j
theorem stAt_dm (k : List Int) (c : Nat) : (stAt P w t k c).dummy = none := by
  have all : ∀ (n : Nat) (p : SetTable.Probe), p.dummy = none → (nth t.mask p n).dummy = none := by
    intro n
    induction n with
    | zero => exact fun _ e => e
    | succ n ih =>
      intro p e
      show (nth t.mask (adv t.mask p) n).dummy = none
      exact ih _ (by rw [← adv_eq, advance_dummy]; exact e)
  exact all c _ rfl
theorem stAt_add (k : List Int) (c q : Nat) : nth t.mask (stAt P w t k c) q = stAt P w t k (c + q) := (nth_add t.mask c _ q).symm
theorem psearch (R : PsR P w s.heap a L es ep t) {x : Addr} {k : List Int} (hx : IsT P w s.heap k x) (hu : A.units < cLine) (ad : Bool) {N : Nat} (hN : N < 10 * SetTable.turns t.mask)
    (free : slAt P w t k N ∉ t.place.toList) (full : ∀ c, c < N → slAt P w t k c ∈ t.place.toList) {Q : SetFound → Shared → Prop}
    (yes : ∀ i, k ∈ L.map (·.2) → Q (.there (if ad then none else some i)) s) (no : k ∉ L.map (·.2) → Q (.free (slAt P w t k N) false) s) :
    ∀ (f c : Nat) (st : Option SetTable.Probe), st.getD (t.probeStart (thash P w k)) = stAt P w t k c → c ≤ N → N < f + c →
      (∀ (i : Nat) p, L[i]? = some p → p.2 = k → ∃ c', c ≤ c' ∧ c' < N ∧ t.place.toList[i]? = some (slAt P w t k c')) →
      wpAny (model P w) A (setSearchFrom a (.ref x) (thash P w k) ad f st) Q E s := by
  intro f
  induction f with
  | zero => intro c st _ h1 h2 _; omega
  | succ f ih =>
    intro c st est hc hf ahead
    obtain ⟨o, ho, hex, hd⟩ := R.obj
    rw [setSearchFrom_succ]
    refine wpAny_bind (wpAny_setState_of ho hd R.fts ?_)
    dsimp only
    refine wp_if_neg R.odd ?_
    try refine wpAny_bind (wpAny_pure ?_)
    have hashes : ∀ (i : Nat) p, L[i]? = some p → (es[i]?.map (·.1)).getD 0 = thash P w p.2 := fun i p g => by
      rw [R.ent g]
      rfl
    have spec := go_spec t R.tb.ris R.tb.dm (fun i => (es[i]?.map (·.1)).getD 0) (thash P w k) (10 * SetTable.turns t.mask) (N - c) (stAt P w t k c) (stAt_dm k c) (by omega)
      (fun q hq => by rw [stAt_add]; exact full (c + q) (by omega)) (by rw [stAt_add, Nat.add_sub_cancel' hc]; exact free)
    rw [est]
    simp only [stAt_add] at spec
    rcases spec with ⟨q, i, hq, hi, _, early, pr⟩ | ⟨early, pr⟩
    · -- an entry of this hash stands there
      have pr2 : t.probe (fun i => (es[i]?.map (·.1)).getD 0) (thash P w k) (stAt P w t k c) = _ := pr
      rw [pr2]
      dsimp only
      have il : i < L.length := by
        have e := (List.getElem?_eq_some_iff.mp hi).1
        rw [Array.length_toList, R.psz] at e
        exact e
      obtain ⟨p, gp⟩ : ∃ p, L[i]? = some p := ⟨_, List.getElem?_eq_getElem il⟩
      have mp : p ∈ L := List.mem_of_getElem? gp
      have live : t.slot (slAt P w t k (c + q)) = .live i := slot_live R.tb.ris hi
      have go : wpAny (model P w) A (searchRest a (.ref x) (thash P w k) ad f es t (slAt P w t k (c + q)) i (stAt P w t k (c + (q + 1)))) Q E s := by
        unfold searchRest
        rw [R.ent gp]
        dsimp only
        refine wpAny_bind (wpAny_holding (wpAny_eqBool_tuple hu (R.tps p mp) hx ?_))
        refine wpAny_bind (wpAny_setState_of ho hd R.fts ?_)
        dsimp only
        have later : p.2 ≠ k → wpAny (model P w) A (setSearchFrom a (.ref x) (thash P w k) ad f (some (stAt P w t k (c + (q + 1))))) Q E s := fun ne => by
          refine ih (c + (q + 1)) _ rfl (by omega) (by omega) fun i2 p2 g2 e2 => ?_
          obtain ⟨c2, b1, b2, b3⟩ := ahead i2 p2 g2 e2
          refine ⟨c2, ?_, b2, b3⟩
          refine Classical.byContradiction fun lt => ?_
          by_cases hc2 : c2 < c + q
          · refine early (c2 - c) i2 (by omega) (by rw [Nat.add_sub_cancel' b1]; exact b3) ?_
            rw [hashes i2 p2 g2, e2]
          · have e3 : c2 = c + q := by omega
            rw [e3] at b3
            have l2 := slot_live R.tb.ris b3
            rw [live] at l2
            injection l2 with l2
            rw [← l2, gp] at g2
            rw [Option.some.inj g2] at ne
            exact ne e2
        by_cases hk : p.2 = k
        · have mk : k ∈ L.map (·.2) := List.mem_map.mpr ⟨p, mp, hk⟩
          cases ad with
          | true =>
            refine wp_if_pos (by simp [hk]) ?_
            exact wpAny_pure (yes i mk)
          | false =>
            refine wp_if_neg (by simp) ?_
            try refine wpAny_bind (wpAny_pure ?_)
            rw [sameMem]
            dsimp only
            simp only [if_true, live, R.ent gp]
            refine wpAny_bind (wpAny_isSame_ref_self (wpAny_bind (wpAny_pure ?_)))
            rw [if_pos rfl]
            dsimp only
            rw [if_pos (decide_eq_true hk)]
            exact wpAny_pure (yes i mk)
        · refine wp_if_neg (by simp [hk]) ?_
          try refine wpAny_bind (wpAny_pure ?_)
          rw [sameMem]
          dsimp only
          simp only [if_true, live, R.ent gp]
          refine wpAny_bind (wpAny_isSame_ref_self (wpAny_bind (wpAny_pure ?_)))
          rw [if_pos rfl]
          dsimp only
          rw [if_neg (by rw [decide_eq_true_eq]; exact hk)]
          exact later hk
      by_cases hl : t.led = true
      · refine wp_if_neg (by rw [hl]; decide) ?_
        try refine wpAny_bind (wpAny_pure ?_)
        exact go
      · refine wp_if_pos (by simp [hl]) ?_
        refine wpAny_bind (seen_tup hx (fun y hy => ?_) ?_)
        · obtain ⟨e, he, rfl⟩ := List.mem_map.mp hy
          have he2 : e ∈ es.toList := by
            have := (Array.mem_filter.mp (Array.mem_toList_iff.mp he)).1
            exact Array.mem_toList_iff.mpr this
          rw [R.rw_] at he2
          obtain ⟨p2, m2, rfl⟩ := List.mem_map.mp he2
          exact ⟨p2.2, p2.1, rfl, R.tps p2 m2⟩
        · refine wp_if_neg Bool.false_ne_true ?_
          try refine wpAny_bind (wpAny_pure ?_)
          exact go
    · -- the empty slot
      have pr2 : t.probe (fun i => (es[i]?.map (·.1)).getD 0) (thash P w k) (stAt P w t k c) = _ := pr
      rw [pr2, Nat.add_sub_cancel' hc]
      dsimp only
      refine wpAny_pure (no fun hm => ?_)
      obtain ⟨p, mp, e⟩ := List.mem_map.mp hm
      obtain ⟨i, gp⟩ := List.getElem?_of_mem mp
      obtain ⟨c2, b1, b2, b3⟩ := ahead i p gp e
      refine early (c2 - c) i (by omega) (by rw [Nat.add_sub_cancel' b1]; exact b3) ?_
      rw [hashes i p gp, e]
/-- the search as it is asked for -/
theorem psearch0 (R : PsR P w s.heap a L es ep t) {x : Addr} {k : List Int} (hx : IsT P w s.heap k x) (hu : A.units < cLine) (ad : Bool) {Q : SetFound → Shared → Prop}
    (yes : ∀ i, k ∈ L.map (·.2) → Q (.there (if ad then none else some i)) s)
    (no : ∀ N, k ∉ L.map (·.2) → slAt P w t k N ∉ t.place.toList → (∀ c, c < N → slAt P w t k c ∈ t.place.toList) → Q (.free (slAt P w t k N) false) s) :
    wpAny (model P w) A (setSearch a (.ref x) (thash P w k) ad) Q E s := by
  have few := R.rm
  obtain ⟨N, n1, n2, n3⟩ := R.tb.first (by rw [List.length_map]; omega) (thash P w k)
  have n4 : N < 100000 := by
    have e : 10 * SetTable.turns t.mask ≤ 1420 := by
      unfold SetTable.turns
      rcases R.tb.mok with e | e | e <;> omega
    omega
  unfold setSearch
  refine psearch R hx hu ad n1 n2 n3 yes (fun z => no N z n2 n3) 100000 0 none rfl (Nat.zero_le _) (by omega) fun i p gp e => ?_
  have g1 : (L.map fun p => thash P w p.2)[i]? = some (thash P w k) := by
    rw [List.getElem?_map, gp, ← e]
    rfl
  have g2 : i < t.place.toList.length := by
    rw [Array.length_toList, R.psz]
    exact (List.getElem?_eq_some_iff.mp gp).1
  obtain ⟨c, c1, c2⟩ := R.tb.before n2 g1 (List.getElem?_eq_getElem g2)
  refine ⟨c, Nat.zero_le _, c1, ?_⟩
  rw [List.getElem?_eq_getElem g2]
  exact congrArg some c2.symm
end

section
variable {P : Program} {w : World} {A : Around} {E : Value → Shared → Prop} {s : Shared}
variable {a : Addr} {L : List (Addr × List Int)} {es : Array (Int × Value)} {ep : Nat} {t : SetTable}
theorem PsR.ty (R : PsR P w s.heap a L es ep t) : s.TypeIs (.ref a) "set" := by
  obtain ⟨o, ho, hx, _⟩ := R.obj
  exact ⟨o, ho, hx.1⟩
theorem PsR.nodict (R : PsR P w s.heap a L es ep t) : ∀ b, Value.ref a = .ref b → ∃ ob, s.heap.get? b = some ob ∧ ob.dict = none := fun b e => by
  injection e with e
  subst e
  obtain ⟨o, ho, hx, _⟩ := R.obj
  exact ⟨o, ho, hx.2.1⟩
/-- who is sought among tuples -/
theorem pfind (R : PsR P w s.heap a L es ep t) {x : Addr} {k : List Int} (hx : IsT P w s.heap k x) (hu : A.units < cLine) {Q : Option Nat → Shared → Prop}
    (h : ∀ r : Option Nat, r.isSome = decide (k ∈ L.map (·.2)) → Q r s) : wpAny (model P w) A (setFind a (.ref x) (thash P w k)) Q E s := by
  obtain ⟨o, ho, hex, hd⟩ := R.obj
  show wpAny (model P w) A (setFindIn a (.ref x) (thash P w k) (99999 + 1)) Q E s
  unfold setFindIn
  refine wpAny_bind (wpAny_setState_of ho hd R.fts ?_)
  dsimp only
  refine wp_if_neg (by simp [byScan, Value.scannable]) ?_
  try refine wpAny_bind (wpAny_pure ?_)
  refine wpAny_bind (psearch0 R hx hu false (fun i m => ?_) fun N m _ _ => ?_)
  · dsimp only
    exact wpAny_pure (h (some i) (by rw [decide_eq_true m]; rfl))
  · dsimp only
    exact wpAny_pure (h none (by rw [decide_eq_false m]; rfl))
theorem pis_in (R : PsR P w s.heap a L es ep t) {x : Addr} {k : List Int} (hx : IsT P w s.heap k x) (hu : A.units + 4 < cLine) {Q : Value → Shared → Prop}
    (h : Q (.bool (decide (k ∈ L.map (·.2)))) { s with toks := s.toks + (k.length + 1) }) : wpAny (model P w) A (compareOp .In (.ref x) (.ref a)) Q E s := by
  have ty := R.ty
  have ask : wpAny (model P w) A.in1 (Builtin.«frozenset.__contains__» ⟨[.ref a, .ref x], []⟩) (fun fin s' => ∃ v, fin = .done (.ret v) ∧ wpAny (model P w) A (truthy v) (fun c s' => wpAny (model P w) A (pure (Value.bool c)) Q E s') E s') E s := by
    simp only [Builtin.«frozenset.__contains__», Builtin.Frozenset.oneOther, Builtin.Frozenset.addrOf, Builtin.Frozenset.withSetAsKey, setContains, List.isEmpty_nil, bind_assoc]
    refine wpAny_bind (wpAny_pure ?_); try dsimp only
    refine wpAny_bind (wpAny_pure ?_); try dsimp only
    refine wpAny_bind (wpAny_tryCatch (wpAny_holding (wpAny_bind (wpAny_pyHash_tuple (by show A.units + 1 < cLine; omega) hx ?_))))
    refine wpAny_bind (pfind (s := { s with toks := s.toks + (k.length + 1) }) R hx (by show A.units + 1 < cLine; omega) fun r er => wpAny_pure ?_)
    show wpAny _ _ (ret (Value.bool r.isSome)) _ _ _
    rw [er]
    exact wpAny_pure ⟨_, rfl, wpAny_truthy_bool (wpAny_pure h)⟩
  show wpAny _ _ (contains (.ref a) (.ref x) >>= fun b => pure (Value.bool b)) Q E s
  refine wpAny_bind ?_
  unfold contains
  try with_reducible refine wpAny_holding ?_
  refine wpAny_bind (wpAny_specialOf ty F.slot_set_contains.lookup ?_)
  refine wp_if_neg (by rw [beq_builtin_none]; decide) (wpAny_bind (wpAny_callSpecialUnlessNone?_slot (name := Str.ofString "__contains__") ty F.slot_set_contains (wpAny_call_entry F.slot_set_contains ty entry_set_contains ask (F.args_set_contains_2 _ _))))
end

section
variable {P : Program} {w : World} {A : Around} {E : Value → Shared → Prop} {s : Shared}
variable {a : Addr} {L : List (Addr × List Int)} {es : Array (Int × Value)} {ep : Nat} {t : SetTable}
theorem PsR.small {h : Heap} (R : PsR P w h a L es ep t) (few : L.length < 64) : SetTR P w h a L es ep t := ⟨R.obj, R.rw_, R.tb, R.nod, R.tps, R.pln, R.ld, R.rm, few⟩
theorem PsR.of {h : Heap} (R : SetTR P w h a L es ep t) : PsR P w h a L es ep t := ⟨R.ob, R.rows, R.tab, R.nd, R.tup, R.plain, R.led, R.room⟩
/-- one more tuple -/
theorem padd (R : PsR P w s.heap a L es ep t) {x : Addr} {k : List Int} (hx : IsT P w s.heap k x) (hu : A.units < cLine) (bnd : L.length + 1 ≤ 76) {Q : Bool → Shared → Prop}
    (h : ∀ b h' L' es' ep' t', Heap.SameBut a s.heap h' → PsR P w h' a L' es' ep' t' → (k ∈ L.map (·.2) → L' = L) → (k ∉ L.map (·.2) → L'.Perm ((x, k) :: L)) → Q b { s with heap := h' }) :
    wpAny (model P w) A (setAddHashed a (.ref x) (thash P w k)) Q E s := by
  by_cases few : L.length + 1 < 64
  · exact add_at (R.small (by omega)) hx hu few fun b h' L' es' ep' t' sb R' c1 c2 => h b h' L' es' ep' t' sb (PsR.of R') c1 c2
  · obtain ⟨o, ho, hex, hd⟩ := R.obj
    have m127 : t.mask = 127 := by
      have := R.rm
      rcases R.tb.mok with e | e | e <;> omega
    unfold setAddHashed
    refine wpAny_holding ?_
    show wpAny (model P w) A (setAddHashedIn a (.ref x) (thash P w k) (99999 + 1)) Q E s
    rw [setAddHashedIn_succ]
    refine wpAny_bind (wpAny_setState_of ho hd R.fts ?_)
    dsimp only
    refine wp_if_neg (by simp [byScan, Value.scannable]) ?_
    try refine wpAny_bind (wpAny_pure ?_)
    refine wpAny_bind (psearch0 R hx hu true (fun i m => ?_) fun N m n1 n2 => ?_)
    · dsimp only
      exact wpAny_pure (h false s.heap L es ep t (Heap.SameBut.refl a s.heap) R (fun _ => rfl) fun z => absurd m z)
    · dsimp only
      refine wpAny_bind (wpAny_setState_of ho hd R.fts ?_)
      dsimp only
      obtain ⟨q1, q2, q3, q4, q5, q6, q7, q8, q9⟩ := R.tb.put n1 n2
      have e0 : way t.mask (thash P w k) N = slAt P w t k N := rfl
      rw [e0] at q1 q2 q3 q4 q5 q6 q7 q8 q9
      generalize slAt P w t k N = sl at q1 q2 q3 q4 q5 q6 q7 q8 q9 ⊢
      rw [q1]
      generalize (t.put sl).1 = t1 at q3 q4 q5 q6 q7 q8 q9 ⊢
      generalize SetTable.below t.place sl = b at q2 q3 ⊢
      have plain1 : t1.plain = true := by rw [q6]; exact R.pln
      refine wp_if_pos plain1 (wpAny_bind (hashBy_tup hx ?_))
      simp only [if_true, Bool.not_false, Bool.true_and]
      have pm : (L.take b ++ (x, k) :: L.drop b).Perm ((x, k) :: L) := put_perm L b (x, k)
      have rows : (SetTable.insertAt es b (thash P w k, Value.ref x)).toList = rowsOf P w (L.take b ++ (x, k) :: L.drop b) := by
        rw [rows_put, ← R.rw_]
        exact SetTable.toList_insertAt _ _ _
      have tabs : TabOk t1 ((L.take b ++ (x, k) :: L.drop b).map fun p => thash P w p.2) := by
        rw [List.map_append, List.map_cons, List.map_take, List.map_drop]
        exact q3
      generalize SetTable.insertAt es b (thash P w k, Value.ref x) = es1 at rows ⊢
      generalize L.take b ++ (x, k) :: L.drop b = L1 at pm rows tabs
      have len1 : L1.length = L.length + 1 := pm.length_eq
      have size1 : es1.size = L.length + 1 := by
        have e := congrArg List.length rows
        rw [Array.length_toList] at e
        rw [e, ← len1]
        exact List.length_map _
      have notFull : ¬ t1.tooFull = true := fun z => by
        have z2 : decide (t1.fill * 5 ≥ t1.mask * 3) = true := z
        rw [decide_eq_true_eq, q9, List.length_map, q4, m127] at z2
        omega
      refine wpAny_bind (wpAny_storeSet_of ho hd ?_ (by rw [size1, sizeLine_eq]; omega))
      refine wp_if_neg notFull ?_
      have sb : Heap.SameBut a s.heap (s.heap.update a (Obj.putSet es1 t1)) := Heap.SameBut.update ..
      refine wpAny_pure (h true _ L1 es1 (ep + 1) t1 sb ⟨⟨_, store_at ho hd, ⟨hex.1, hex.2.1, hex.2.2⟩, rfl⟩, rows, tabs, ?_, fun p hp => ?_, plain1, by rw [q5]; exact R.ld, by rw [len1, q4, m127]; omega⟩ (fun z => absurd z m) fun _ => pm)
      · refine (pm.map (·.2)).nodup_iff.mpr ?_
        rw [List.map_cons]
        exact List.nodup_cons.mpr ⟨m, R.nod⟩
      · rcases List.mem_cons.mp (pm.mem_iff.mp hp) with e | hp2
        · rw [e]
          exact isT_same hx ho hd sb
        · exact isT_same (R.tps p hp2) ho hd sb
end

/-! ### as rules of the layer: a set of pairs of ints -/
theorem perm_map {α β : Type} {f : α → β} {l m : List β} (h : l.Perm m) : ∀ L : List α, m = L.map f → ∃ L' : List α, List.Perm L' L ∧ l = List.map f L' := by
  induction h with
  | nil => intro L e; exact ⟨[], by rw [List.map_eq_nil_iff.mp e.symm], rfl⟩
  | cons x _ ih =>
    intro L e
    cases L with
    | nil => cases e
    | cons y L =>
      obtain ⟨e1, e2⟩ := List.cons.inj e
      obtain ⟨L', p, e3⟩ := ih L e2
      exact ⟨y :: L', p.cons y, by rw [List.map_cons, e1, e3]⟩
  | swap x y l =>
    intro L e
    match L, e with
    | y' :: x' :: L, e =>
      obtain ⟨e1, e2⟩ := List.cons.inj e
      obtain ⟨e3, e4⟩ := List.cons.inj e2
      exact ⟨x' :: y' :: L, List.Perm.swap y' x' L, by rw [List.map_cons, List.map_cons, ← e1, ← e3, ← e4]⟩
  | trans _ _ ih1 ih2 =>
    intro L e
    obtain ⟨L1, p1, e1⟩ := ih2 L e
    obtain ⟨L2, p2, e2⟩ := ih1 L1 e1
    exact ⟨L2, p2.trans p1, e2⟩
def pr2 : List Int → Pr
  | [x, y] => (x, y)
  | _ => (0, 0)
section
variable {P : Program} {w : World} {A : Around} {E : Value → Shared → Prop} {s : Shared}
variable {a : Addr} {L : List (Addr × List Int)} {es : Array (Int × Value)} {ep : Nat} {t : SetTable}
theorem IsT.pair {h : Heap} {b : Addr} {x y : Int} (q : IsT P w h [x, y] b) : Srt.IsPair h (.ref b) x y := by
  obtain ⟨o, items, n, ho, hc, hd, hi⟩ := q
  obtain ⟨its⟩ := items
  cases hi with
  | cons h1 h2 =>
    cases h2 with
    | cons h3 h4 =>
      cases h4
      obtain ⟨t1, rfl⟩ := Value.isInt_shape h1
      obtain ⟨t2, rfl⟩ := Value.isInt_shape h3
      exact ⟨b, o, t1, t2, n, rfl, ho, hc, hd⟩
/-- the pair that stands at a value -/
def kL (L : List (Addr × List Int)) (v : Value) : Pr := match v with
  | .ref b => pr2 ((L.lookup b).getD [])
  | _ => (0, 0)
theorem kL_of {h : Heap} (tps : ∀ p ∈ L, IsT P w h p.2 p.1) {q : Addr × List Int} (m : q ∈ L) : kL L (.ref q.1) = pr2 q.2 := by
  have key : ∀ L : List (Addr × List Int), (∀ p ∈ L, IsT P w h p.2 p.1) → q ∈ L → L.lookup q.1 = some q.2 := by
    intro L
    induction L with
    | nil => intro _ z; cases z
    | cons p L ih =>
      intro tps m
      obtain ⟨b, k⟩ := p
      by_cases e : q.1 = b
      · have t1 := tps _ m
        have t2 := tps (b, k) List.mem_cons_self
        rw [e] at t1
        have e2 : q.2 = k := t1.inj t2
        rw [List.lookup_cons, e, beq_self_eq_true, e2]
      · have m2 : q ∈ L := by
          rcases List.mem_cons.mp m with z | z
          · rw [z] at e
            exact absurd rfl e
          · exact z
        rw [List.lookup_cons, beq_eq_false_iff_ne.mpr e]
        exact ih (fun p hp => tps p (List.mem_cons_of_mem _ hp)) m2
  show pr2 ((L.lookup q.1).getD []) = _
  rw [key L tps m]
  rfl
/-- sorted(set) -/
theorem psorted (R : PsR P w s.heap a L es ep t) (hh : A.handled = none) (two : ∀ p ∈ L, ∃ x y, p.2 = [x, y]) (few : L.length ≤ 1000) {Q : Value → Shared → Prop}
    (h : ∀ s' p c (L' : List (Addr × List Int)), (∀ b o, s.heap.get? b = some o → s'.heap.get? b = some o) → s'.gens = s.gens → s'.os = s.os → s.heap.objs.size ≤ p → s'.heap.get? p = some (seqObj "list" (L'.map fun q => Value.ref q.1).toArray c) → L'.Perm L →
      L'.Pairwise (fun q r => ¬ lt2 (pr2 r.2) (pr2 q.2)) → Q (.ref p) s') : wpAny (model P w) A (call (.builtin "sorted") [.ref a]) Q E s := by
  obtain ⟨o, ho, hex, hd⟩ := R.obj
  have sz := R.sz
  refine Calls.call_function_entry kind_sorted plain_sorted entry_sorted (args_sorted1 _) ?_
  unfold Builtin.«sorted»; refine wpAny_bind (m := checkCount "sorted" 1 1 _) (wpAny_pure ?_)
  refine wpAny_bind (collect_set (A := A.in1) hh ⟨o, ho, hex.1, hd⟩ R.fts (by rw [sz]; unfold scanBound; omega) R.tb.ris R.ld fun s1 vs keep grow g1 o1 pm => ?_)
  have e1 : es.toList.map (·.2) = L.map fun q => Value.ref q.1 := by
    rw [R.rw_]
    show List.map _ (L.map _) = _
    rw [List.map_map]
    rfl
  rw [e1] at pm
  have lv : vs.length ≤ sizeLine := by
    rw [pm.length_eq, List.length_map, sizeLine_eq]
    omega
  refine wpAny_bind (wpAny_newList ?_ lv)
  have new : (s1.heap.push (seqObj "list" vs.toArray 0)).get? s1.heap.objs.size = some (seqObj "list" vs.toArray 0) := Heap.get?_push_size _ rfl
  have pairs : ∀ v ∈ vs, Srt.IsPair (s1.heap.push (seqObj "list" vs.toArray 0)) v (kL L v).1 (kL L v).2 := fun v hv => by
    obtain ⟨q, hq, rfl⟩ := List.mem_map.mp (pm.mem_iff.mp hv)
    rw [kL_of R.tps hq]
    obtain ⟨x, y, e2⟩ := two q hq
    have t1 := R.tps q hq
    rw [e2] at t1 ⊢
    exact Srt.IsPair.keeps (IsT.pair t1) fun b u e _ => Heap.get?_push_of_some _ (keep b u e)
  refine wpAny_bind (wpAny_holding (wpAny_call_entry slot_list_sort ⟨_, new, rfl⟩ entry_list_sort (SrtO.list_sort_ord (s := { s1 with heap := s1.heap.push (seqObj "list" vs.toArray 0) }) (SrtO.swo_lex (kL L)) new lv (fun h2 => SrtO.pairs_sortableO (by omega) pairs fun o e c => ?_) fun out so st => ⟨_, rfl, ?_⟩) (args_list_sort _)))
  · have e3 : some o = some (seqObj "list" vs.toArray 0) := e.symm.trans new
    cases e3
    exact absurd (Value.type.inj c) (by decide)
  · obtain ⟨L', p1, p2⟩ := perm_map (st.perm.trans pm) L rfl
    obtain ⟨c, hc⟩ := sortedHeap_at (vs := vs) (out := out.toArray) new
    refine wpAny_pure ⟨_, rfl, h _ s1.heap.objs.size c L' (fun b u e => ?_) g1 o1 grow ?_ p1 ?_⟩
    · have e4 := keep b u e
      have lt := Heap.lt_size e4
      show (sortedHeap (s1.heap.push (seqObj "list" vs.toArray 0)) s1.heap.objs.size vs out.toArray).get? b = some u
      rw [sortedHeap_old (Nat.ne_of_lt lt) (by rw [size_push']; exact Nat.lt_succ_of_lt lt)]
      exact Heap.get?_push_of_some _ e4
    · rw [← p2]
      exact hc
    · rw [p2] at so
      refine List.Pairwise.imp_of_mem (fun {q r} hq hr z => ?_) (List.pairwise_map.mp so)
      have z2 : SrtO.lexB (kL L (Value.ref r.1)) (kL L (Value.ref q.1)) = false := z
      rw [kL_of R.tps (p1.mem_iff.mp hq), kL_of R.tps (p1.mem_iff.mp hr)] at z2
      exact SrtO.lexB_no.mp z2
end
/-- the set at a without its tuples -/
structure Ps0 (P : Program) (w : World) (h : Heap) (a : Addr) (L : List (Addr × List Int)) : Prop where
  ex : ∃ (es : Array (Int × Value)) (ep : Nat) (t : SetTable), (∃ o, h.get? a = some o ∧ o.ExactSet ∧ o.data = .set es ep t) ∧ es.toList = rowsOf P w L ∧ TabOk t (L.map fun p => thash P w p.2) ∧ (L.map (·.2)).Nodup ∧ t.plain = true ∧ (w.params.followText "set-order" = true ∨ t.led = true) ∧ L.length * 5 < t.mask * 3
def PsO (P : Program) (w : World) (a : Addr) (L : List (Addr × List Int)) : HO := .ext fun h => Ps0 P w h a L
theorem PsR.p0 {P : Program} {w : World} {h : Heap} {a : Addr} {L : List (Addr × List Int)} {es : Array (Int × Value)} {ep : Nat} {t : SetTable} (R : PsR P w h a L es ep t) : Ps0 P w h a L := ⟨es, ep, t, R.obj, R.rw_, R.tb, R.nod, R.pln, R.ld, R.rm⟩
theorem Ps0.full {P : Program} {w : World} {h : Heap} {a : Addr} {L : List (Addr × List Int)} (R : Ps0 P w h a L) (tp : ∀ p ∈ L, IsT P w h p.2 p.1) : ∃ es ep t, PsR P w h a L es ep t := by
  obtain ⟨es, ep, t, h1, h2, h3, h4, h5, h6, h7⟩ := R.ex
  exact ⟨es, ep, t, ⟨h1, h2, h3, h4, tp, h5, h6, h7⟩⟩
theorem psO_new {P : Program} {w : World} {H : Hp} {h : Heap} {a : Addr} {L : List (Addr × List Int)} (R : Ps0 P w h a L) : ObjOk P w H h a (PsO P w a L) := by
  refine ⟨R, ?_, fun h1 h2 p k => ?_⟩
  · obtain ⟨_, _, _, ⟨o, ho, _⟩, _⟩ := R.ex
    exact ⟨o, ho⟩
  · obtain ⟨es, ep, t, ⟨o, ho, r⟩, q⟩ := Ps0.ex p
    exact ⟨es, ep, t, ⟨o, k o ho, r⟩, q⟩
section
variable {X : Cx}
theorem ps_get {pins : List (Addr × Obj)} {σ : L2.St} {H : Hp} {s : Shared} {a : Addr} {L : List (Addr × List Int)} (I : Inv X pins σ H s) (ha : H a = some (PsO X.prog X.w a L)) (tp : ∀ p ∈ L, SqT X.K H p.1 (p.2.map V.int)) : ∃ es ep t, PsR X.prog X.w s.heap a L es ep t :=
  Ps0.full (I.hok a _ ha).1 fun p hp => I.isT (tp p hp)
/-- set(), to be filled with pairs -/
def rPs0 (P : Program) (w : World) : List V → Hp → VK → Prop := fun xs H Q => xs = [] ∧ ∀ p, H p = none → Q (.ref p) (upd H p (PsO P w p []))
theorem cr_ps0 : CallR X (.type "set") (rPs0 X.prog X.w) := by
  intro pins s σ H xs us Q I r h
  obtain ⟨rfl, q⟩ := h
  cases r
  refine setR_new fun _ => ?_
  exact ⟨.ref _, upd H s.heap.objs.size (PsO X.prog X.w s.heap.objs.size []), I.laid (t' := s.toks) (fun b u e => Heap.get?_push_of_some _ e) (Nat.le_refl _) (psO_new (PsR.of (setTR_fresh (Heap.get?_push_size _ rfl))).p0), rfl, q _ (I.hok.fresh (Nat.le_refl _))⟩
/-- (a, b) in seen -/
def rPsIn (K : PySem.W.Frag) (P : Program) (w : World) : V → V → Hp → VK → Prop := fun x y H Q => ∃ b k a L, x = V.ref b ∧ y = V.ref a ∧ H a = some (PsO P w a L) ∧ (∀ p ∈ L, SqT K H p.1 (p.2.map V.int)) ∧ SqT K H b (k.map V.int) ∧ Q (.bl (decide (k ∈ L.map (·.2)))) H
theorem op_psIn (hu : X.A.units + 64 < cLine) : OpR X (compareOp .In) (rPsIn X.K X.prog X.w) := by
  intro pins s σ H x y v u Q I rx ry h
  obtain ⟨b, k, a, L, rfl, rfl, ha, tp, hb, q⟩ := h
  cases (show v = Value.ref b from rx)
  cases (show u = Value.ref a from ry)
  obtain ⟨es, ep, t, R⟩ := ps_get I ha tp
  exact pis_in R (I.isT hb) (by omega) ⟨.bl _, H, I.tok _, rfl, q⟩
/-- seen.add((a, b)) -/
def rPsAdd (K : PySem.W.Frag) (P : Program) (w : World) : V → List V → Hp → VK → Prop := fun x xs H Q => ∃ b k a L, x = V.ref a ∧ xs = [V.ref b] ∧ H a = some (PsO P w a L) ∧ (∀ p ∈ L, SqT K H p.1 (p.2.map V.int)) ∧ SqT K H b (k.map V.int) ∧ L.length + 1 ≤ 76 ∧
  ∀ L', (k ∈ L.map (·.2) → L' = L) → (k ∉ L.map (·.2) → L'.Perm ((b, k) :: L)) → Q .non (upd H a (PsO P w a L'))
theorem mt_psAdd (hu : X.A.units + 64 < cLine) : MtR X "set.add" (rPsAdd X.K X.prog X.w) := by
  intro pins s σ H x xs v us Q I rx rxs h
  obtain ⟨b, k, a, L, rfl, rfl, ha, tp, hb, bnd, q⟩ := h
  cases rx
  cases rxs with
  | cons ry rt =>
    cases rt
    cases (show _ = Value.ref b from ry)
    obtain ⟨es, ep, t, R⟩ := ps_get I ha tp
    have hx := I.isT hb
    refine wpAny_call_entry F.slot_set_add R.ty F.entry_set_add ?_ (F.args_set_add_2 _ _)
    simp only [Builtin.«set.add», Builtin.Frozenset.oneOther, Builtin.Frozenset.addrOf, setAdd, List.isEmpty_nil, bind_assoc]
    refine wpAny_bind (wpAny_pure ?_); try dsimp only
    refine wpAny_bind (wpAny_pure ?_); try dsimp only
    refine wpAny_bind (wpAny_holding (wpAny_bind (wpAny_pyHash_tuple (by show X.A.units + 1 < cLine; omega) hx ?_)))
    refine padd (s := { s with toks := s.toks + (k.length + 1) }) R hx (by show X.A.units + 1 < cLine; omega) bnd fun c h' L' es' ep' t' sb R' c1 c2 => ?_
    show wpAny _ _ (ret Value.none) _ _ _
    have he : ∃ u, h'.get? a = some u := by
      obtain ⟨o, ho, _⟩ := R'.obj
      exact ⟨o, ho⟩
    exact wpAny_pure ⟨_, rfl, .non, upd H a (PsO X.prog X.w a L'), I.write (e := a) (t' := s.toks + (k.length + 1)) (by rw [ha]; trivial) (.inl rfl) (fun b u hb hu => (sb.2 b hb).trans hu) he (psO_new R'.p0), rfl, q L' c1 c2⟩
/-- sorted(seen) -/
def rPsSort (K : PySem.W.Frag) (P : Program) (w : World) : List V → Hp → VK → Prop := fun vs H Q => ∃ a L, vs = [V.ref a] ∧ H a = some (PsO P w a L) ∧ (∀ p ∈ L, SqT K H p.1 (p.2.map V.int)) ∧ (∀ p ∈ L, ∃ x y, p.2 = [x, y]) ∧ L.length ≤ 1000 ∧
  ∀ (L' : List (Addr × List Int)) (p : Addr), L'.Perm L → (L'.map (·.2)).Nodup → L'.Pairwise (fun q r => ¬ lt2 (pr2 r.2) (pr2 q.2)) → H p = none → Q (.ref p) (upd H p (.lst (L'.map fun q => V.ref q.1)))
theorem cr_psSort (hc : X.calm = true) : CallR X (.builtin "sorted") (rPsSort X.K X.prog X.w) := by
  intro pins s σ H vs us Q I r h
  obtain ⟨a, L, rfl, ha, tp, two, few, q⟩ := h
  obtain ⟨es, ep, t, R⟩ := ps_get I ha tp
  rw [Vals.ref1 r]
  refine psorted R (I.ok.hd hc) two few fun s' p c L' keep g o hp hg pm pw => ?_
  have hn : H p = none := I.hok.fresh hp
  have ll : (L'.map fun q => V.ref q.1).length ≤ sizeLine := by
    rw [List.length_map, pm.length_eq, sizeLine_eq]
    omega
  have J : Inv X pins σ (upd H p (.lst (L'.map fun q => V.ref q.1))) { s with heap := s'.heap, gens := s'.gens, drawn := s'.drawn, toks := s'.toks } :=
    I.call (ch := []) (Un.laid keep hp hn) (I.hok.laid keep hp ⟨ll, _, c, vals_of_refs L', hg⟩) (by rw [g]; exact I.bare) (fun _ z => nomatch z)
  have e : s' = { s with heap := s'.heap, gens := s'.gens, drawn := s'.drawn, toks := s'.toks } := by
    cases s'
    cases s
    cases o
    rfl
  rw [e]
  exact ⟨.ref p, _, J, rfl, q L' p pm ((pm.map (·.2)).nodup_iff.mpr R.nod) pw hn⟩
/-- the call of the method -/
def tPsAdd (K : PySem.W.Frag) (P : Program) (w : World) (to : TE) (t : TA) : TE := fun σ H Q => to σ H fun x H1 => (∃ a L, x = V.ref a ∧ H1 a = some (PsO P w a L)) ∧ t σ H1 fun xs H2 => rPsAdd K P w x xs H2 Q
theorem ps_look {pins : List (Addr × Obj)} {σ : L2.St} {H : Hp} {s : Shared} {a : Addr} {L : List (Addr × List Int)} (I : Inv X pins σ H s) (ha : H a = some (PsO X.prog X.w a L)) : s.TypeIs (.ref a) "set" ∧ ∀ b, Value.ref a = .ref b → ∃ ob, s.heap.get? b = some ob ∧ ob.dict = none := by
  obtain ⟨_, _, _, ⟨o, ho, hx, _⟩, _⟩ := Ps0.ex (I.hok a _ ha).1
  refine ⟨⟨o, ho, hx.1⟩, fun b e => ?_⟩
  injection e with e
  subst e
  exact ⟨o, ho, hx.2.1⟩
theorem pe_psAdd {o e : Expr} {es : List Expr} {to : TE} {t : TA} {apos cpos : Pos} (hu : X.A.units + 64 < cLine) (ho : PE X o to) (ha : PA X (e :: es) t)
    (b1 : attributeBase o "add" X.env (eval o X.env) = eval o X.env := by rfl)
    (b2 : ((backTo cpos (starEach (e :: es) X.env)).all (fun x => !x.1) && (backToKw cpos (keywordEach [] X.env)).all (fun x => x.1.isSome) && decide ((e :: es).length + ([] : List Keyword).length + (if ([] : List Keyword).isEmpty then 0 else 1) < 30)) = true := by rfl)
    (b3 : (apos.endLine == cpos.line) = true := by rfl) (b4 : starEach (e :: es) X.env = (false, eval e X.env) :: starEach es X.env := by rfl) (b5 : (backTo cpos (starEach es X.env)).any (·.1) = false := by rfl) :
    PE X (.Call (.Attribute o "add" apos) (e :: es) [] cpos) (tPsAdd X.K X.prog X.w to t) := by
  refine ⟨fun pins s σ H Q I h => wpAny_Call_method_late b1 b2 b3 rfl (thn (ho.run pins s σ H _ I h) ?_)⟩
  rintro v s1 ⟨x, H1, I1, r1, ⟨a, L, rfl, hka⟩, q1⟩
  cases r1
  obtain ⟨k1, k2⟩ := ps_look I1 hka
  refine ⟨"set", "set.add", F.plainAttrs_set, F.slot_set_add, F.type_set_add, k1, k2, ?_⟩
  have run := ha.run cpos pins s1 σ H1 _ I1 q1
  rw [b4] at run ⊢
  refine Calls.callWith_builtin ?_ (Calls.evalArgs_plain (thn run ?_))
  · show (false || (backTo cpos (starEach es X.env)).any (·.1)) = false
    rw [b5]
    rfl
  · rintro us s2 ⟨vs, H2, I2, r2, q2⟩
    exact mt_psAdd hu pins s2 σ H2 (.ref a) vs (.ref a) us Q I2 rfl r2 q2
end

abbrev sHouse : Stmt := topS 0
abbrev sHinit : Stmt := inClass sHouse 0
abbrev sHcount : Stmt := inClass sHouse 0
abbrev sHdoors : Stmt := inClass sHouse 0
abbrev sHnear : Stmt := inClass sHouse 0
abbrev sHhas : Stmt := inClass sHouse 0
abbrev sRoom : Stmt := topS 0
abbrev sChk : Stmt := topS 0
/-- what the walk asks of the class House -/
structure Hs (K : PySem.W.Frag) (mg : Str → Option Value) (C : Addr) : Prop where
  cl : Cls K C
  nR : NoAttr K C "rooms"
  nD : NoAttr K C "_doors"
  nN : NoAttr K C "_near"
  mgC : mg "House" = some (.ref C)
  rd : ∃ mc u, ClX.CRead K C mc ∧ ClX.CVal K C mc "MOST_ROOMS" (.int 12) u
theorem for_enum {K : PySem.W.Frag} {a : Addr} {xs : List V} {g : TG} {tb : TS} {D : Ends} {σ : L2.St} {H : Hp} (Pv : Nat → L2.St → Hp → Prop) (h0 : Pv 0 σ H) (hl : ∀ i σ H, Pv i σ H → SqL K H a xs)
    (hs : ∀ (i : Nat) (x : V) (t : Addr) (σ : L2.St) (H : Hp), xs[i]? = some x → Pv i σ H → H t = none → g (.ref t) σ (upd H t (.tup [.int (i : Nat), x])) fun σ2 H2 => tb { D with nx := Pv (i + 1), ct := Pv (i + 1), bk := D.nx } σ2 H2) (hd : ∀ σ H, Pv xs.length σ H → D.nx σ H) :
    tFor (fun _ H R => R (Ite K a) H) g tb D σ H := by
  refine ⟨fun i m σ H => m = xs.length - i ∧ i ≤ xs.length ∧ Pv i σ H, ⟨xs.length, rfl, Nat.zero_le _, h0⟩, ?_⟩
  rintro i m σ H ⟨rfl, hi, p⟩
  have q := hl i σ H p
  by_cases lt : i < xs.length
  · refine .inr ⟨⟨xs, xs[i], q, List.getElem?_eq_getElem lt⟩, Pv (i + 1), fun σ' H' p' => ⟨xs.length - (i + 1), by omega, rfl, lt, p'⟩, ?_⟩
    rintro v H' ⟨t, x, rfl, nt, rfl, f⟩
    exact hs i x t σ H (f xs q) p nt
  · have e : i = xs.length := by omega
    subst e
    exact .inl ⟨⟨xs, q, Nat.le_refl _⟩, hd σ H p⟩
section
variable {P : Program} {w : World} {K : PySem.W.Frag} {mg : Str → Option Value} {base : Heap}
end

/-! ### the house as an object -/
def hf (r : Int) (l m : Addr) : List (Str × V) := putF "_near" (.ref m) (putF "_doors" (.ref l) (putF "rooms" (.int r) []))
theorem hn1 : ¬ (("rooms" : Str) = "_doors") := by decide +kernel
theorem hn2 : ¬ (("rooms" : Str) = "_near") := by decide +kernel
theorem hn3 : ¬ (("_doors" : Str) = "_near") := by decide +kernel
theorem hf_rooms (r : Int) (l m : Addr) : (hf r l m).lookup ("rooms" : Str) = some (.int r) := by
  unfold hf
  rw [lookup_putF, if_neg hn2, lookup_putF, if_neg hn1, lookup_putF, if_pos rfl]
theorem hf_doors (r : Int) (l m : Addr) : (hf r l m).lookup ("_doors" : Str) = some (.ref l) := by
  unfold hf
  rw [lookup_putF, if_neg hn3, lookup_putF, if_pos rfl]
theorem hf_near (r : Int) (l m : Addr) : (hf r l m).lookup ("_near" : Str) = some (.ref m) := by
  unfold hf
  rw [lookup_putF, if_pos rfl]
theorem hf_no (r : Int) (l m : Addr) {x : Str} (h1 : ¬ x = "_near") (h2 : ¬ x = "_doors") (h3 : ¬ x = "rooms") : (hf r l m).lookup x = none := by
  unfold hf
  rw [lookup_putF, if_neg h1, lookup_putF, if_neg h2, lookup_putF, if_neg h3]
  rfl
/-- the neighbours of room i by the doors D, in the order in which they are met -/
def nearF (i : Int) (D : List Pr) : List Int := D.filterMap fun d => if d.1 = i then some d.2 else if d.2 = i then some d.1 else none
/-- a house with these rooms and doors stands at p -/
structure HouseAt (C : Addr) (H : Hp) (p : Addr) (r : Nat) (D : List Pr) (own : List Addr) : Prop where
  ex : ∃ (dx l m : Addr) (ls : List V) (ns : List Addr), H p = some (.ins C dx (hf r l m)) ∧ H l = some (.lst ls) ∧ PL H ls D ∧ H m = some (.lst (ns.map V.ref)) ∧ ns.length = r ∧ (∀ i n, ns[i]? = some n → H n = some (.lst ((nearF (i : Nat) D).map V.int))) ∧ own = p :: l :: m :: ns
  ok : Drs r D
  r1 : 1 ≤ r
  r12 : r ≤ 12
theorem nearF_snoc (j : Int) (D : List Pr) (d : Pr) : nearF j (D ++ [d]) = nearF j D ++ (if d.1 = j then [d.2] else if d.2 = j then [d.1] else []) := by
  unfold nearF
  rw [List.filterMap_append]
  congr 1
  show List.filterMap _ [d] = _
  rw [List.filterMap_cons]
  by_cases h1 : d.1 = j
  · simp [h1]
  · by_cases h2 : d.2 = j
    · simp [h1, h2]
    · simp [h1, h2]
def mm2 (d : Pr) : Pr := (if d.2 < d.1 then d.2 else d.1, if d.2 > d.1 then d.2 else d.1)
section
variable {P : Program} {w : World} {K : PySem.W.Frag} {mg : Str → Option Value} {base : Heap}
end

theorem HouseAt.keep {C : Addr} {H H' : Hp} {p : Addr} {r : Nat} {D : List Pr} {own : List Addr} (h : HouseAt C H p r D own) (k : ∀ b o, b ∈ own → H b = some o → H' b = some o) (kt : KT H H') : HouseAt C H' p r D own := by
  obtain ⟨dx, l, m, ls, ns, h1, h2, h3, h4, h5, h6, rfl⟩ := h.ex
  refine ⟨⟨dx, l, m, ls, ns, k _ _ List.mem_cons_self h1, k _ _ (by simp) h2, h3.kt kt, k _ _ (by simp) h4, h5, fun i n g => k _ _ (by have := List.mem_of_getElem? g; simp [this]) (h6 i n g), rfl⟩, h.ok, h.r1, h.r12⟩
theorem HouseAt.same {C : Addr} {H H' : Hp} {p : Addr} {r : Nat} {D : List Pr} {own : List Addr} (h : HouseAt C H p r D own) (s : Same H H') : HouseAt C H' p r D own := h.keep (fun b o _ e => s b o e) (KT.same s)
theorem HouseAt.stands {C : Addr} {H : Hp} {p : Addr} {r : Nat} {D : List Pr} {own : List Addr} (h : HouseAt C H p r D own) : ∀ b ∈ own, ∃ o, H b = some o := by
  obtain ⟨dx, l, m, ls, ns, h1, h2, h3, h4, h5, h6, rfl⟩ := h.ex
  intro b hb
  rcases List.mem_cons.mp hb with z | hb
  · exact ⟨_, by rw [z]; exact h1⟩
  · rcases List.mem_cons.mp hb with z | hb
    · exact ⟨_, by rw [z]; exact h2⟩
    · rcases List.mem_cons.mp hb with z | hb
      · exact ⟨_, by rw [z]; exact h4⟩
      · obtain ⟨i, g⟩ := List.getElem?_of_mem hb
        exact ⟨_, h6 i b g⟩
section
variable {P : Program} {w : World} {K : PySem.W.Frag} {mg : Str → Option Value} {base : Heap}
end

/-! ### pieces of a house -/
def Adj (D : List Pr) (a b : Int) : Prop := (a, b) ∈ D ∨ (b, a) ∈ D
theorem mem_nearF {D : List Pr} {a b : Int} (ok : ∀ d ∈ D, d.1 < d.2) : b ∈ nearF a D ↔ Adj D a b := by
  unfold nearF Adj
  rw [List.mem_filterMap]
  constructor
  · rintro ⟨d, hd, e⟩
    by_cases h1 : d.1 = a
    · rw [if_pos h1] at e
      have e := Option.some.inj e
      subst h1
      subst e
      exact .inl hd
    · rw [if_neg h1] at e
      by_cases h2 : d.2 = a
      · rw [if_pos h2] at e
        have e := Option.some.inj e
        subst h2
        subst e
        exact .inr hd
      · rw [if_neg h2] at e
        cases e
  · rintro (h | h)
    · exact ⟨_, h, if_pos rfl⟩
    · have := ok _ h
      refine ⟨_, h, ?_⟩
      rw [if_neg (by simp only at this ⊢; omega), if_pos rfl]
inductive Rch (D : List Pr) (R : List Int) (s : Int) : Int → Prop
  | base : s ∈ R → Rch D R s s
  | step {a b : Int} : Rch D R s a → Adj D a b → b ∈ R → Rch D R s b
theorem Rch.mem {D : List Pr} {R : List Int} {s x : Int} (h : Rch D R s x) : x ∈ R := by
  cases h with
  | base h => exact h
  | step _ _ h => exact h
theorem Rch.start {D : List Pr} {R : List Int} {s x : Int} (h : Rch D R s x) : s ∈ R := by
  induction h with
  | base h => exact h
  | step _ _ _ ih => exact ih
theorem Rch.trans {D : List Pr} {R : List Int} {s x y : Int} (h : Rch D R s x) (k : Rch D R x y) : Rch D R s y := by
  induction k with
  | base _ => exact h
  | step _ a b ih => exact ih.step a b
theorem Rch.symm {D : List Pr} {R : List Int} {s x : Int} (h : Rch D R s x) : Rch D R x s := by
  induction h with
  | base h => exact .base h
  | step k a b ih => exact Rch.trans (.step (.base b) a.symm k.mem) ih
theorem Rch.mono {D : List Pr} {R R' : List Int} {s x : Int} (h : Rch D R s x) (m : ∀ x, x ∈ R → x ∈ R') : Rch D R' s x := by
  induction h with
  | base h => exact .base (m _ h)
  | step _ a b ih => exact ih.step a (m _ b)
theorem pw_uniq {α : Type} {r : α → α → Prop} (asy : ∀ a b, r a b → r b a → False) : ∀ {D E : List α}, D.Pairwise r → E.Pairwise r → (∀ p, p ∈ D ↔ p ∈ E) → D = E
  | [], [], _, _, _ => rfl
  | [], q :: E, _, _, h => by
    have := (h q).mpr List.mem_cons_self
    cases this
  | p :: D, [], _, _, h => by
    have := (h p).mp List.mem_cons_self
    cases this
  | p :: D, q :: E, hD, hE, h => by
    obtain ⟨a1, a2⟩ := List.pairwise_cons.mp hD
    obtain ⟨b1, b2⟩ := List.pairwise_cons.mp hE
    have e : p = q := by
      rcases List.mem_cons.mp ((h p).mp List.mem_cons_self) with e | hp
      · exact e
      · rcases List.mem_cons.mp ((h q).mpr List.mem_cons_self) with e | hq
        · exact e.symm
        · exact (asy _ _ (b1 p hp) (a1 q hq)).elim
    subst e
    rw [pw_uniq asy a2 b2 fun z => ?_]
    constructor
    · intro hz
      rcases List.mem_cons.mp ((h z).mp (List.mem_cons_of_mem _ hz)) with e | m
      · subst e
        exact (asy _ _ (a1 z hz) (a1 z hz)).elim
      · exact m
    · intro hz
      rcases List.mem_cons.mp ((h z).mpr (List.mem_cons_of_mem _ hz)) with e | m
      · subst e
        exact (asy _ _ (b1 z hz) (b1 z hz)).elim
      · exact m
def Up (ys : List Int) : Prop := ys.Pairwise (· < ·)
theorem up_uniq {ys zs : List Int} (h1 : Up ys) (h2 : Up zs) (h : ∀ x, x ∈ ys ↔ x ∈ zs) : ys = zs := pw_uniq (fun a b h1 h2 => by omega) h1 h2 h
def hdI : List Int → Int
  | [] => 0
  | x :: _ => x
theorem hdI_mem {ys : List Int} {x : Int} (h : x ∈ ys) : hdI ys ∈ ys := by
  cases ys with
  | nil => cases h
  | cons y ys => exact List.mem_cons_self
theorem hdI_le {ys : List Int} {x : Int} (u : Up ys) (h : x ∈ ys) : hdI ys ≤ x := by
  cases ys with
  | nil => cases h
  | cons y ys =>
    rcases List.mem_cons.mp h with e | m
    · rw [e]; exact Int.le_refl _
    · exact Int.le_of_lt ((List.pairwise_cons.mp u).1 x m)
/-- the piece of s among the rooms R -/
def Pc (D : List Pr) (R : List Int) (s : Int) (ys : List Int) : Prop := Up ys ∧ ∀ x, x ∈ ys ↔ Rch D R s x
/-- all pieces of the rooms R, by their least rooms -/
structure Pcs (D : List Pr) (R : List Int) (P : List (List Int)) : Prop where
  pc : ∀ ys ∈ P, ∃ s ∈ R, Pc D R s ys
  cov : ∀ s ∈ R, ∃ ys ∈ P, s ∈ ys
  asc : P.Pairwise fun a b => hdI a < hdI b
theorem Pc.of {D : List Pr} {R : List Int} {s t : Int} {ys : List Int} (h : Pc D R s ys) (m : t ∈ ys) : Pc D R t ys :=
  ⟨h.1, fun x => ⟨fun hx => (((h.2 t).mp m).symm).trans ((h.2 x).mp hx), fun hx => (h.2 x).mpr (((h.2 t).mp m).trans hx)⟩⟩
theorem Pc.congr {D : List Pr} {R R' : List Int} {s : Int} {ys : List Int} (h : Pc D R s ys) (e : ∀ x, x ∈ R ↔ x ∈ R') : Pc D R' s ys :=
  ⟨h.1, fun x => (h.2 x).trans ⟨fun z => z.mono fun x => (e x).mp, fun z => z.mono fun x => (e x).mpr⟩⟩
theorem Pc.uniq {D : List Pr} {R : List Int} {s : Int} {ys zs : List Int} (h : Pc D R s ys) (k : Pc D R s zs) : ys = zs := up_uniq h.1 k.1 fun x => (h.2 x).trans (k.2 x).symm
theorem Pc.self {D : List Pr} {R : List Int} {s : Int} {ys : List Int} (h : Pc D R s ys) (m : s ∈ R) : s ∈ ys := (h.2 s).mpr (.base m)
theorem Pcs.sub {D : List Pr} {R R' : List Int} {P P' : List (List Int)} (h : Pcs D R P) (k : Pcs D R' P') (e : ∀ x, x ∈ R ↔ x ∈ R') {ys : List Int} (m : ys ∈ P) : ys ∈ P' := by
  obtain ⟨s, hs, hc⟩ := h.pc ys m
  obtain ⟨zs, hz, sz⟩ := k.cov s ((e s).mp hs)
  obtain ⟨t, ht, hk⟩ := k.pc zs hz
  rw [(hc.congr e).uniq (hk.of sz)]
  exact hz
theorem Pcs.uniq {D : List Pr} {R R' : List Int} {P P' : List (List Int)} (h : Pcs D R P) (k : Pcs D R' P') (e : ∀ x, x ∈ R ↔ x ∈ R') : P = P' :=
  pw_uniq (fun a b h1 h2 => by omega) h.asc k.asc fun ys => ⟨fun m => h.sub k e m, fun m => k.sub h (fun x => (e x).symm) m⟩
theorem Pcs.nil (D : List Pr) : Pcs D [] [] := ⟨fun ys m => (by cases m), fun s m => (by cases m), List.Pairwise.nil⟩
/-- a piece is one piece -/
theorem Pc.one {D : List Pr} {R R' : List Int} {s : Int} {ys : List Int} (h : Pc D R s ys) (m : s ∈ R) (e : ∀ x, x ∈ R' ↔ x ∈ ys) : Pcs D R' [ys] := by
  have key : ∀ x, Rch D R s x → Rch D R' s x := fun x k => by
    induction k with
    | base k => exact .base ((e s).mpr (h.self m))
    | step k a b ih => exact ih.step a ((e _).mpr ((h.2 _).mpr (k.step a b)))
  refine ⟨fun zs hz => ?_, fun t ht => ⟨ys, List.mem_cons_self, (e t).mp ht⟩, List.pairwise_singleton _ _⟩
  rw [List.mem_singleton.mp hz]
  exact ⟨s, (e s).mpr (h.self m), h.1, fun x => ⟨fun hx => key x ((h.2 x).mp hx), fun hx => (e x).mp hx.mem⟩⟩
/-- two pieces are not one -/
theorem Pc.two {D : List Pr} {R R' : List Int} {s t : Int} {ys zs : List Int} {P : List (List Int)} (h : Pc D R s ys) (k : Pc D R t zs) (hs : s ∈ R) (ht : t ∈ R) (ne : ys ≠ zs) (e : ∀ x, x ∈ R' ↔ x ∈ ys ∨ x ∈ zs) (p : Pcs D R' P) : P.length ≠ 1 := by
  intro z
  obtain ⟨c, rfl⟩ : ∃ c, P = [c] := by
    cases P with
    | nil => cases z
    | cons c P =>
      cases P with
      | nil => exact ⟨c, rfl⟩
      | cons d P => exact absurd z (by rw [List.length_cons, List.length_cons]; omega)
  obtain ⟨c1, m1, s1⟩ := p.cov s ((e s).mpr (.inl (h.self hs)))
  obtain ⟨c2, m2, t2⟩ := p.cov t ((e t).mpr (.inr (k.self ht)))
  rw [List.mem_singleton.mp m1] at s1
  rw [List.mem_singleton.mp m2] at t2
  obtain ⟨u, hu, hc⟩ := p.pc c List.mem_cons_self
  have st : Rch D R' s t := (((hc.2 s).mp s1).symm).trans ((hc.2 t).mp t2)
  have st2 : Rch D R s t := st.mono fun x hx => by
    rcases (e x).mp hx with m | m
    · exact ((h.2 x).mp m).mem
    · exact ((k.2 x).mp m).mem
  exact ne ((h.of ((h.2 t).mpr st2)).uniq k)
/-! the program's way -/
structure PInv (D : List Pr) (R : List Int) (P : List (List Int)) (Lf : List Int) : Prop where
  pc : ∀ ys ∈ P, ∃ s ∈ R, Pc D R s ys
  lf : ∀ x, x ∈ Lf ↔ x ∈ R ∧ ∀ ys ∈ P, x ∉ ys
  asc : P.Pairwise fun a b => hdI a < hdI b
  lo : ∀ ys ∈ P, ∀ x ∈ Lf, hdI ys < x
  up : Lf.Pairwise (· ≤ ·)
theorem PInv.start {D : List Pr} {R Lf : List Int} (m : ∀ x, x ∈ Lf ↔ x ∈ R) (u : Lf.Pairwise (· ≤ ·)) : PInv D R [] Lf :=
  ⟨fun ys h => (by cases h), fun x => ⟨fun h => ⟨(m x).mp h, fun ys z => (by cases z)⟩, fun h => (m x).mpr h.1⟩, List.Pairwise.nil, fun ys h => (by cases h), u⟩
theorem PInv.done {D : List Pr} {R : List Int} {P : List (List Int)} (h : PInv D R P []) : Pcs D R P :=
  ⟨h.pc, fun s hs => Classical.byContradiction fun z => List.not_mem_nil ((h.lf s).mpr ⟨hs, fun ys hy m => z ⟨ys, hy, m⟩⟩), h.asc⟩
theorem PInv.rch {D : List Pr} {R : List Int} {P : List (List Int)} {Lf : List Int} (h : PInv D R P Lf) {s x : Int} : Rch D Lf s x ↔ s ∈ Lf ∧ Rch D R s x := by
  constructor
  · exact fun k => ⟨k.start, k.mono fun x hx => ((h.lf x).mp hx).1⟩
  · rintro ⟨m, k⟩
    induction k with
    | base _ => exact .base m
    | step k a b ih =>
      rename_i a' b'
      refine ih.step a ((h.lf _).mpr ⟨b, fun ys hy z => ?_⟩)
      obtain ⟨t, ht, hc⟩ := h.pc ys hy
      exact ((h.lf _).mp ih.mem).2 ys hy ((hc.2 _).mpr (((hc.2 _).mp z).step a.symm k.mem))
theorem PInv.step {D : List Pr} {R : List Int} {P : List (List Int)} {l0 : Int} {Lf ys : List Int} (h : PInv D R P (l0 :: Lf)) (k : Pc D (l0 :: Lf) l0 ys) : PInv D R (P ++ [ys]) ((l0 :: Lf).filter fun x => decide (x ∉ ys)) := by
  have m0 : l0 ∈ l0 :: Lf := List.mem_cons_self
  have r0 := ((h.lf l0).mp m0).1
  have kR : Pc D R l0 ys := ⟨k.1, fun x => (k.2 x).trans (h.rch.trans ⟨fun z => z.2, fun z => ⟨m0, z⟩⟩)⟩
  have hd : hdI ys = l0 := by
    have a1 := hdI_le k.1 (k.self m0)
    have a2 := ((k.2 _).mp (hdI_mem (k.self m0))).mem
    rcases List.mem_cons.mp a2 with e | e
    · exact e
    · have := (List.pairwise_cons.mp h.up).1 _ e
      omega
  refine ⟨fun zs hz => ?_, fun x => ?_, ?_, fun zs hz x hx => ?_, h.up.filter _⟩
  · rcases List.mem_append.mp hz with m | m
    · exact h.pc zs m
    · rw [List.mem_singleton.mp m]
      exact ⟨l0, r0, kR⟩
  · rw [List.mem_filter, h.lf x]
    constructor
    · rintro ⟨⟨h1, h2⟩, h3⟩
      refine ⟨h1, fun zs hz => ?_⟩
      rcases List.mem_append.mp hz with m | m
      · exact h2 zs m
      · rw [List.mem_singleton.mp m]
        exact of_decide_eq_true h3
    · rintro ⟨h1, h2⟩
      exact ⟨⟨h1, fun zs hz => h2 zs (List.mem_append_left _ hz)⟩, decide_eq_true (h2 ys (List.mem_append_right _ List.mem_cons_self))⟩
  · refine List.pairwise_append.mpr ⟨h.asc, List.pairwise_singleton _ _, fun a ha b hb => ?_⟩
    rw [List.mem_singleton.mp hb, hd]
    exact h.lo a ha l0 m0
  · obtain ⟨hx1, hx2⟩ := List.mem_filter.mp hx
    rcases List.mem_append.mp hz with m | m
    · exact h.lo zs m x hx1
    · rw [List.mem_singleton.mp m, hd]
      rcases List.mem_cons.mp hx1 with e | e
      · exact absurd (k.self m0) (by rw [← e]; exact of_decide_eq_true hx2)
      · have := (List.pairwise_cons.mp h.up).1 _ e
        have ne : x ≠ l0 := fun z => of_decide_eq_true hx2 (by rw [z]; exact k.self m0)
        omega
/-! the law's way -/
structure LInv (D : List Pr) (R S : List Int) (j : Nat) (P : List (List Int)) (dn : List Int) : Prop where
  pc : ∀ ys ∈ P, ∃ s ∈ R, Pc D R s ys
  dnm : ∀ x, x ∈ dn ↔ ∃ ys ∈ P, x ∈ ys
  asc : P.Pairwise fun a b => hdI a < hdI b
  seen : ∀ x ∈ S.take j, x ∈ dn
  hds : ∀ ys ∈ P, hdI ys ∈ S.take j
theorem LInv.start (D : List Pr) (R S : List Int) : LInv D R S 0 [] [] :=
  ⟨fun ys h => (by cases h), fun x => ⟨fun h => (by cases h), fun ⟨ys, h, _⟩ => (by cases h)⟩, List.Pairwise.nil, fun x h => (by rw [List.take_zero] at h; cases h), fun ys h => (by cases h)⟩
theorem LInv.skip {D : List Pr} {R S : List Int} {j : Nat} {P : List (List Int)} {dn : List Int} {x : Int} (h : LInv D R S j P dn) (g : S[j]? = some x) (m : x ∈ dn) : LInv D R S (j + 1) P dn := by
  refine ⟨h.pc, h.dnm, h.asc, fun y hy => ?_, fun ys hy => ?_⟩
  · rw [List.take_add_one, g] at hy
    rcases List.mem_append.mp hy with z | z
    · exact h.seen y z
    · rw [show y = x from List.mem_singleton.mp z]
      exact m
  · rw [List.take_add_one]
    exact List.mem_append_left _ (h.hds ys hy)
theorem LInv.step {D : List Pr} {R S : List Int} {j : Nat} {P : List (List Int)} {dn ys : List Int} {x : Int} (h : LInv D R S j P dn) (g : S[j]? = some x) (sm : ∀ x, x ∈ S ↔ x ∈ R) (su : S.Pairwise (· ≤ ·)) (m : x ∉ dn) (k : Pc D R x ys) : LInv D R S (j + 1) (P ++ [ys]) (dn ++ ys) := by
  have xR : x ∈ R := (sm x).mp (List.mem_of_getElem? g)
  have hj : j < S.length := (List.getElem?_eq_some_iff.mp g).1
  have split : S = S.take j ++ x :: S.drop (j + 1) := by
    have e := (List.take_append_drop j S).symm
    rw [List.drop_eq_getElem_cons hj] at e
    rw [List.getElem?_eq_getElem hj] at g
    rw [Option.some.inj g] at e
    exact e
  have su2 := su
  rw [split] at su2
  obtain ⟨_, sb, sc⟩ := List.pairwise_append.mp su2
  have hd : hdI ys = x := by
    have a1 := hdI_le k.1 (k.self xR)
    have a2 := (k.2 _).mp (hdI_mem (k.self xR))
    have a3 := (sm _).mpr a2.mem
    rw [split] at a3
    rcases List.mem_append.mp a3 with e | e
    · obtain ⟨zs, hz, mz⟩ := (h.dnm _).mp (h.seen _ e)
      obtain ⟨t, ht, hc⟩ := h.pc zs hz
      exact absurd ((h.dnm x).mpr ⟨zs, hz, (hc.2 x).mpr (((hc.2 _).mp mz).trans a2.symm)⟩) m
    · rcases List.mem_cons.mp e with e | e
      · exact e
      · have := (List.pairwise_cons.mp sb).1 _ e
        omega
  refine ⟨fun zs hz => ?_, fun y => ?_, ?_, fun y hy => ?_, fun zs hz => ?_⟩
  · rcases List.mem_append.mp hz with q | q
    · exact h.pc zs q
    · rw [List.mem_singleton.mp q]
      exact ⟨x, xR, k⟩
  · rw [List.mem_append, h.dnm y]
    constructor
    · rintro (⟨zs, hz, mz⟩ | z)
      · exact ⟨zs, List.mem_append_left _ hz, mz⟩
      · exact ⟨ys, List.mem_append_right _ List.mem_cons_self, z⟩
    · rintro ⟨zs, hz, mz⟩
      rcases List.mem_append.mp hz with q | q
      · exact .inl ⟨zs, q, mz⟩
      · rw [List.mem_singleton.mp q] at mz
        exact .inr mz
  · refine List.pairwise_append.mpr ⟨h.asc, List.pairwise_singleton _ _, fun a ha b hb => ?_⟩
    rw [List.mem_singleton.mp hb, hd]
    have m1 := h.hds a ha
    have le := sc _ m1 x List.mem_cons_self
    have ne : hdI a ≠ x := fun z => m (by rw [← z]; exact h.seen _ m1)
    omega
  · rw [List.take_add_one, g] at hy
    rcases List.mem_append.mp hy with z | z
    · exact List.mem_append_left _ (h.seen y z)
    · rw [show y = x from List.mem_singleton.mp z]
      exact List.mem_append_right _ (k.self xR)
  · rw [List.take_add_one, g]
    rcases List.mem_append.mp hz with q | q
    · exact List.mem_append_left _ (h.hds zs q)
    · rw [List.mem_singleton.mp q, hd]
      exact List.mem_append_right _ (by simp)
theorem LInv.fin {D : List Pr} {R S : List Int} {P : List (List Int)} {dn : List Int} (h : LInv D R S S.length P dn) (sm : ∀ x, x ∈ S ↔ x ∈ R) : Pcs D R P :=
  ⟨h.pc, fun s hs => (h.dnm s).mp (h.seen s (by rw [List.take_length]; exact (sm s).mpr hs)), h.asc⟩
/-! reaching by rounds -/
structure FInv (D : List Pr) (R : List Int) (s : Int) (F : List Int) : Prop where
  nd : F.Nodup
  rc : ∀ x ∈ F, Rch D R s x
  st : s ∈ R → s ∈ F
def Clo (D : List Pr) (R F : List Int) : Prop := ∀ a ∈ F, ∀ b ∈ R, Adj D a b → b ∈ F
theorem FInv.all {D : List Pr} {R F : List Int} {s : Int} (h : FInv D R s F) (c : Clo D R F) (x : Int) : x ∈ F ↔ Rch D R s x := by
  refine ⟨h.rc x, fun k => ?_⟩
  induction k with
  | base m => exact h.st m
  | step _ a b ih => exact c _ ih _ b a
theorem FInv.add {D : List Pr} {R F : List Int} {s a b : Int} (h : FInv D R s F) (ha : a ∈ F) (hb : b ∈ R) (ab : Adj D a b) (n : b ∉ F) : FInv D R s (F ++ [b]) := by
  refine ⟨?_, fun x hx => ?_, fun m => List.mem_append_left _ (h.st m)⟩
  · refine List.nodup_append.mpr ⟨h.nd, by simp, fun x hx y hy z => ?_⟩
    rw [List.mem_singleton.mp hy] at z
    exact n (by rw [← z]; exact hx)
  · rcases List.mem_append.mp hx with z | z
    · exact h.rc x z
    · rw [List.mem_singleton.mp z]
      exact (h.rc a ha).step ab hb

theorem nearF_lt {i : Int} {D : List Pr} (asc : Asc D) (ok : ∀ d ∈ D, d.1 < d.2) : (nearF i D).Pairwise (· < ·) := by
  unfold nearF
  refine List.Pairwise.filterMap _ (fun d e h b hb c hc => ?_) (List.Pairwise.imp_of_mem (fun {x y} hx hy h => (⟨h, ok x hx, ok y hy⟩ : lt2 x y ∧ x.1 < x.2 ∧ y.1 < y.2)) asc)
  obtain ⟨h, h1, h2⟩ := h
  unfold lt2 at h
  by_cases c1 : d.1 = i
  · rw [if_pos c1] at hb
    have eb := Option.some.inj hb
    by_cases c2 : e.1 = i
    · rw [if_pos c2] at hc
      have ec := Option.some.inj hc
      omega
    · rw [if_neg c2] at hc
      by_cases c3 : e.2 = i
      · rw [if_pos c3] at hc
        have ec := Option.some.inj hc
        omega
      · rw [if_neg c3] at hc
        cases hc
  · rw [if_neg c1] at hb
    by_cases c4 : d.2 = i
    · rw [if_pos c4] at hb
      have eb := Option.some.inj hb
      by_cases c2 : e.1 = i
      · rw [if_pos c2] at hc
        have ec := Option.some.inj hc
        omega
      · rw [if_neg c2] at hc
        by_cases c3 : e.2 = i
        · rw [if_pos c3] at hc
          have ec := Option.some.inj hc
          omega
        · rw [if_neg c3] at hc
          cases hc
    · rw [if_neg c4] at hb
      cases hb
/-! ### least paths -/
def ltL : List Int → List Int → Prop
  | [], [] => False
  | [], _ :: _ => True
  | _ :: _, [] => False
  | a :: s, b :: t => a < b ∨ (a = b ∧ ltL s t)
theorem ltL_irr : ∀ p, ¬ ltL p p
  | [], h => h
  | a :: s, h => by
    rcases h with h | ⟨_, h⟩
    · omega
    · exact ltL_irr s h
theorem ltL_trans : ∀ {p q r}, ltL p q → ltL q r → ltL p r
  | [], [], _, h, _ => h.elim
  | [], _ :: _, [], _, k => k.elim
  | [], _ :: _, _ :: _, _, _ => trivial
  | _ :: _, [], _, h, _ => h.elim
  | _ :: _, _ :: _, [], _, k => k.elim
  | a :: s, b :: t, c :: u, h, k => by
    rcases h with h | ⟨h1, h2⟩
    · rcases k with k | ⟨k1, k2⟩
      · exact .inl (by omega)
      · exact .inl (by omega)
    · rcases k with k | ⟨k1, k2⟩
      · exact .inl (by omega)
      · exact .inr ⟨by omega, ltL_trans h2 k2⟩
theorem ltL_tri : ∀ p q, p = q ∨ ltL p q ∨ ltL q p
  | [], [] => .inl rfl
  | [], _ :: _ => .inr (.inl trivial)
  | _ :: _, [] => .inr (.inr trivial)
  | a :: s, b :: t => by
    rcases Int.lt_trichotomy a b with h | h | h
    · exact .inr (.inl (.inl h))
    · subst h
      rcases ltL_tri s t with e | e | e
      · exact .inl (by rw [e])
      · exact .inr (.inl (.inr ⟨rfl, e⟩))
      · exact .inr (.inr (.inr ⟨rfl, e⟩))
    · exact .inr (.inr (.inl h))
theorem ltL_app : ∀ {p q : List Int} (x y : List Int), p.length = q.length → ltL p q → ltL (p ++ x) (q ++ y)
  | [], [], _, _, _, h => h.elim
  | [], _ :: _, _, _, e, _ => by cases e
  | _ :: _, [], _, _, e, _ => by cases e
  | a :: s, b :: t, x, y, e, h => by
    rcases h with h | ⟨h1, h2⟩
    · exact .inl h
    · exact .inr ⟨h1, ltL_app x y (Nat.succ.inj e) h2⟩
theorem ltL_last : ∀ (p : List Int) {x y : Int}, x < y → ltL (p ++ [x]) (p ++ [y])
  | [], _, _, h => .inl h
  | a :: s, _, _, h => .inr ⟨rfl, ltL_last s h⟩
/-- fewer rooms, or as many and less -/
def slt (p q : List Int) : Prop := p.length < q.length ∨ (p.length = q.length ∧ ltL p q)
theorem slt_irr (p : List Int) : ¬ slt p p := fun h => by
  rcases h with h | ⟨_, h⟩
  · omega
  · exact ltL_irr p h
theorem slt_trans {p q r : List Int} (h : slt p q) (k : slt q r) : slt p r := by
  rcases h with h | ⟨h1, h2⟩ <;> rcases k with k | ⟨k1, k2⟩
  · exact .inl (by omega)
  · exact .inl (by omega)
  · exact .inl (by omega)
  · exact .inr ⟨by omega, ltL_trans h2 k2⟩
theorem slt_tri (p q : List Int) : p = q ∨ slt p q ∨ slt q p := by
  rcases Nat.lt_trichotomy p.length q.length with h | h | h
  · exact .inr (.inl (.inl h))
  · rcases ltL_tri p q with e | e | e
    · exact .inl e
    · exact .inr (.inl (.inr ⟨h, e⟩))
    · exact .inr (.inr (.inr ⟨h.symm, e⟩))
  · exact .inr (.inr (.inl h))
theorem slt_app {p q : List Int} (x y : Int) (h : slt p q) : slt (p ++ [x]) (q ++ [y]) := by
  rcases h with h | ⟨h1, h2⟩
  · exact .inl (by rw [List.length_append, List.length_append]; exact Nat.add_lt_add_right h 1)
  · exact .inr ⟨by rw [List.length_append, List.length_append, h1]; rfl, ltL_app [x] [y] h1 h2⟩
theorem slt_last (p : List Int) {x y : Int} (h : x < y) : slt (p ++ [x]) (p ++ [y]) := .inr ⟨by rw [List.length_append, List.length_append]; rfl, ltL_last p h⟩
def sle (p q : List Int) : Prop := p = q ∨ slt p q
theorem sle_trans {p q r : List Int} (h : sle p q) (k : sle q r) : sle p r := by
  rcases h with h | h
  · rw [h]; exact k
  · rcases k with k | k
    · rw [← k]; exact .inr h
    · exact .inr (slt_trans h k)
theorem sle_len {p q : List Int} (h : sle p q) : p.length ≤ q.length := by
  rcases h with h | h | h
  · rw [h]; exact Nat.le_refl _
  · omega
  · omega
theorem sle_app {p q : List Int} (x : Int) (h : sle p q) : sle (p ++ [x]) (q ++ [x]) := by
  rcases h with h | h
  · exact .inl (by rw [h])
  · exact .inr (slt_app x x h)
theorem sle_anti {p q : List Int} (h : sle p q) (k : sle q p) : p = q := by
  rcases h with h | h
  · exact h
  · rcases k with k | k
    · exact k.symm
    · exact (slt_irr _ (slt_trans h k)).elim
theorem sle_of_len {p q : List Int} (h : p.length < q.length) : sle p q := .inr (.inl h)
inductive Pth (D : List Pr) (R : List Int) (s : Int) : Int → List Int → Prop
  | base : s ∈ R → Pth D R s s [s]
  | step {a b : Int} {p : List Int} : Pth D R s a p → Adj D a b → b ∈ R → Pth D R s b (p ++ [b])
theorem Pth.mem {D : List Pr} {R : List Int} {s x : Int} {p : List Int} (h : Pth D R s x p) : x ∈ R := by
  cases h with
  | base h => exact h
  | step _ _ h => exact h
theorem Pth.start {D : List Pr} {R : List Int} {s x : Int} {p : List Int} (h : Pth D R s x p) : s ∈ R := by
  induction h with
  | base h => exact h
  | step _ _ _ ih => exact ih
theorem Pth.ne {D : List Pr} {R : List Int} {s x : Int} {p : List Int} (h : Pth D R s x p) : 1 ≤ p.length := by
  cases h with
  | base h => exact Nat.le_refl _
  | step _ _ h => rw [List.length_append]; exact Nat.le_add_left _ _
theorem Pth.one {D : List Pr} {R : List Int} {s x : Int} {p : List Int} (h : Pth D R s x p) (l : p.length ≤ 1) : x = s ∧ p = [s] := by
  cases h with
  | base h => exact ⟨rfl, rfl⟩
  | step k _ h =>
    rw [List.length_append] at l
    have := k.ne
    have l2 : _ + 1 ≤ 1 := l
    omega
theorem Pth.inR {D : List Pr} {R : List Int} {s x : Int} {p : List Int} (h : Pth D R s x p) : ∀ y ∈ p, y ∈ R := by
  induction h with
  | base h => intro y hy; rw [List.mem_singleton.mp hy]; exact h
  | step _ _ h ih =>
    intro y hy
    rcases List.mem_append.mp hy with m | m
    · exact ih y m
    · rw [List.mem_singleton.mp m]; exact h
/-- the first path -/
def Lst (D : List Pr) (R : List Int) (s x : Int) (p : List Int) : Prop := Pth D R s x p ∧ ∀ q, Pth D R s x q → sle p q
theorem Lst.uniq {D : List Pr} {R : List Int} {s x : Int} {p q : List Int} (h : Lst D R s x p) (k : Lst D R s x q) : p = q := sle_anti (h.2 _ k.1) (k.2 _ h.1)
abbrev En := Int × List Int
def keysE (L : List En) : List Int := L.map (·.1)
theorem keysE_mem {L : List En} {x : Int} {p : List Int} (h : (x, p) ∈ L) : x ∈ keysE L := List.mem_map.mpr ⟨_, h, rfl⟩
theorem of_keysE {L : List En} {x : Int} (h : x ∈ keysE L) : ∃ p, (x, p) ∈ L := by
  obtain ⟨e, m, rfl⟩ := List.mem_map.mp h
  exact ⟨e.2, m⟩
/-- all first paths -/
structure AllP (D : List Pr) (R : List Int) (s : Int) (L : List En) : Prop where
  nd : (keysE L).Nodup
  le : ∀ e ∈ L, Lst D R s e.1 e.2
  all : ∀ x p, Pth D R s x p → x ∈ keysE L
theorem AllP.get {D : List Pr} {R : List Int} {s x : Int} {p : List Int} {L : List En} (h : AllP D R s L) : (x, p) ∈ L ↔ Lst D R s x p := by
  constructor
  · exact fun m => h.le _ m
  · intro k
    obtain ⟨q, m⟩ := of_keysE (h.all x p k.1)
    rw [k.uniq (h.le _ m)]
    exact m
theorem AllP.no {D : List Pr} {R : List Int} {s x : Int} {L : List En} (h : AllP D R s L) : x ∉ keysE L ↔ ∀ p, ¬ Pth D R s x p := by
  constructor
  · exact fun m p k => m (h.all x p k)
  · intro k m
    obtain ⟨q, m⟩ := of_keysE m
    exact k _ (h.le _ m).1
/-- in the midst of the search: A done, a at work (its neighbours N already seen), W waiting -/
structure BIn (D : List Pr) (R : List Int) (s : Int) (A : List En) (a : En) (W : List En) (N : List Int) : Prop where
  nd : (keysE (A ++ a :: W)).Nodup
  le : ∀ e ∈ A ++ a :: W, Lst D R s e.1 e.2
  srt : (A ++ a :: W).Pairwise fun e f => slt e.2 f.2
  cl : ∀ e ∈ A, ∀ b ∈ R, Adj D e.1 b → b ∈ keysE (A ++ a :: W)
  cn : ∀ b ∈ N, b ∈ R → b ∈ keysE (A ++ a :: W)
  st : s ∈ keysE (A ++ a :: W)
  par : ∀ e ∈ A ++ a :: W, e.2.length = 1 ∨ (∃ c ∈ A, ∃ b, e.2 = c.2 ++ [b]) ∨ ∃ b ∈ N, e.2 = a.2 ++ [b]
/-- between two rooms at work -/
structure BOut (D : List Pr) (R : List Int) (s : Int) (A W : List En) : Prop where
  nd : (keysE (A ++ W)).Nodup
  le : ∀ e ∈ A ++ W, Lst D R s e.1 e.2
  srt : (A ++ W).Pairwise fun e f => slt e.2 f.2
  cl : ∀ e ∈ A, ∀ b ∈ R, Adj D e.1 b → b ∈ keysE (A ++ W)
  st : s ∈ R → s ∈ keysE (A ++ W)
  par : ∀ e ∈ A ++ W, e.2.length = 1 ∨ ∃ c ∈ A, ∃ b, e.2 = c.2 ++ [b]
theorem BOut.go {D : List Pr} {R : List Int} {s : Int} {A W : List En} {a : En} (h : BOut D R s A (a :: W)) : BIn D R s A a W [] :=
  ⟨h.nd, h.le, h.srt, h.cl, fun b m => (by cases m), h.st (h.le a (by simp)).1.start, fun e m => (h.par e m).imp id Or.inl⟩
theorem BIn.done {D : List Pr} {R : List Int} {s : Int} {A W : List En} {a : En} {N : List Int} (h : BIn D R s A a W N) (n : ∀ b ∈ R, Adj D a.1 b → b ∈ N) : BOut D R s (A ++ [a]) W := by
  have e : A ++ [a] ++ W = A ++ a :: W := by rw [List.append_assoc]; rfl
  refine ⟨by rw [e]; exact h.nd, by rw [e]; exact h.le, by rw [e]; exact h.srt, ?_, fun _ => by rw [e]; exact h.st, ?_⟩
  · rw [e]
    intro c hc b hb ab
    rcases List.mem_append.mp hc with m | m
    · exact h.cl c m b hb ab
    · rw [List.mem_singleton.mp m] at ab
      exact h.cn b (n b hb ab) hb
  · rw [e]
    intro f hf
    rcases h.par f hf with m | ⟨c, hc, b, e2⟩ | ⟨b, _, e2⟩
    · exact .inl m
    · exact .inr ⟨c, List.mem_append_left _ hc, b, e2⟩
    · exact .inr ⟨a, by simp, b, e2⟩
theorem BIn.skip {D : List Pr} {R : List Int} {s : Int} {A W : List En} {a : En} {N : List Int} {b : Int} (h : BIn D R s A a W N) (k : b ∈ R → b ∈ keysE (A ++ a :: W)) : BIn D R s A a W (N ++ [b]) :=
  ⟨h.nd, h.le, h.srt, h.cl, fun c m hc => (by
    rcases List.mem_append.mp m with m | m
    · exact h.cn c m hc
    · have := List.mem_singleton.mp m
      subst this
      exact k hc), h.st, fun e m => by
    rcases h.par e m with m | m | ⟨b, hb, e2⟩
    · exact .inl m
    · exact .inr (.inl m)
    · exact .inr (.inr ⟨b, List.mem_append_left _ hb, e2⟩)⟩
/-- a path that leaves what is done goes through a room that waits -/
theorem BIn.front {D : List Pr} {R : List Int} {s : Int} {A W : List En} {a : En} {N : List Int} (h : BIn D R s A a W N) {c : Int} {q : List Int} (k : Pth D R s c q) (n : c ∉ keysE A) : sle a.2 q := by
  have key : ∀ {c : Int} {q : List Int}, Pth D R s c q → c ∉ keysE A → ∃ e ∈ a :: W, ∃ q', Pth D R s e.1 q' ∧ (q' = q ∨ q'.length < q.length) := by
    intro c q k
    have inK : ∀ x, x ∈ keysE (A ++ a :: W) → x ∉ keysE A → ∃ e ∈ a :: W, e.1 = x := by
      intro x hx hn
      obtain ⟨p, hp⟩ := of_keysE hx
      rcases List.mem_append.mp hp with m | m
      · exact absurd (keysE_mem m) hn
      · exact ⟨_, m, rfl⟩
    induction k with
    | base hs =>
      intro n
      obtain ⟨e, he, rfl⟩ := inK _ h.st n
      exact ⟨e, he, _, .base hs, .inl rfl⟩
    | @step x y p k ab hb ih =>
      intro n
      by_cases m : x ∈ keysE A
      · obtain ⟨p', hp'⟩ := of_keysE m
        obtain ⟨e, he, rfl⟩ := inK _ (h.cl _ hp' _ hb ab) n
        exact ⟨e, he, _, k.step ab hb, .inl rfl⟩
      · obtain ⟨e, he, q', h1, h2⟩ := ih m
        refine ⟨e, he, q', h1, .inr ?_⟩
        rw [List.length_append]
        show _ < _ + 1
        rcases h2 with h2 | h2
        · rw [h2]; omega
        · omega
  obtain ⟨e, he, q', h1, h2⟩ := key k n
  have l1 : sle e.2 q' := (h.le e (List.mem_append_right _ he)).2 _ h1
  have l2 : sle a.2 e.2 := by
    rcases List.mem_cons.mp he with m | m
    · rw [m]; exact .inl rfl
    · exact .inr ((List.pairwise_cons.mp (List.pairwise_append.mp h.srt).2.1).1 e m)
  refine sle_trans l2 (sle_trans l1 ?_)
  rcases h2 with h2 | h2
  · exact .inl h2
  · exact sle_of_len h2
theorem BIn.add {D : List Pr} {R : List Int} {s : Int} {A W : List En} {a : En} {N : List Int} {b : Int} (h : BIn D R s A a W N) (ab : Adj D a.1 b) (bR : b ∈ R) (bn : b ∉ keysE (A ++ a :: W)) (up : ∀ c ∈ N, c < b) : BIn D R s A a (W ++ [(b, a.2 ++ [b])]) (N ++ [b]) := by
  have e : A ++ a :: (W ++ [(b, a.2 ++ [b])]) = (A ++ a :: W) ++ [(b, a.2 ++ [b])] := by rw [List.append_assoc]; rfl
  have ke : keysE (A ++ a :: (W ++ [(b, a.2 ++ [b])])) = keysE (A ++ a :: W) ++ [b] := by rw [e]; unfold keysE; rw [List.map_append]; rfl
  have aL := h.le a (by simp)
  have new : Lst D R s b (a.2 ++ [b]) := by
    refine ⟨aL.1.step ab bR, fun q k => ?_⟩
    cases k with
    | base _ => exact absurd h.st bn
    | @step c _ p k cb _ =>
      refine sle_app b (h.front k fun m => ?_)
      obtain ⟨p', hp'⟩ := of_keysE m
      exact bn (h.cl _ hp' _ bR cb)
  refine ⟨?_, ?_, ?_, ?_, ?_, ?_, ?_⟩
  · rw [ke]
    refine List.nodup_append.mpr ⟨h.nd, List.pairwise_singleton _ _, fun x hx y hy e => ?_⟩
    rw [List.mem_singleton.mp hy] at e
    rw [e] at hx
    exact bn hx
  · rw [e]
    intro f hf
    rcases List.mem_append.mp hf with m | m
    · exact h.le f m
    · rw [List.mem_singleton.mp m]; exact new
  · rw [e]
    refine List.pairwise_append.mpr ⟨h.srt, List.pairwise_singleton _ _, fun f hf g hg => ?_⟩
    rw [List.mem_singleton.mp hg]
    show slt f.2 (a.2 ++ [b])
    rcases h.par f hf with m | ⟨c, hc, x, e2⟩ | ⟨x, hx, e2⟩
    · refine .inl ?_
      have := aL.1.ne
      rw [List.length_append, m]
      show 1 < _ + 1
      omega
    · rw [e2]
      exact slt_app _ _ ((List.pairwise_append.mp h.srt).2.2 c hc a List.mem_cons_self)
    · rw [e2]
      exact slt_last _ (up x hx)
  · intro c hc x hx cx
    rw [ke]
    exact List.mem_append_left _ (h.cl c hc x hx cx)
  · intro x hx xR
    rw [ke]
    rcases List.mem_append.mp hx with m | m
    · exact List.mem_append_left _ (h.cn x m xR)
    · exact List.mem_append_right _ m
  · rw [ke]; exact List.mem_append_left _ h.st
  · rw [e]
    intro f hf
    rcases List.mem_append.mp hf with m | m
    · rcases h.par f m with m | m | ⟨x, hx, e2⟩
      · exact .inl m
      · exact .inr (.inl m)
      · exact .inr (.inr ⟨x, List.mem_append_left _ hx, e2⟩)
    · rw [List.mem_singleton.mp m]
      exact .inr (.inr ⟨b, by simp, rfl⟩)
theorem BOut.end {D : List Pr} {R : List Int} {s : Int} {A : List En} (h : BOut D R s A []) : AllP D R s A := by
  have e : A ++ [] = A := List.append_nil A
  refine ⟨by have := h.nd; rw [e] at this; exact this, by have := h.le; rw [e] at this; exact this, fun x p k => ?_⟩
  have cl := h.cl
  have st := h.st
  rw [e] at cl st
  induction k with
  | base hs => exact st hs
  | step k ab hb ih =>
    obtain ⟨p', hp'⟩ := of_keysE ih
    exact cl _ hp' _ hb ab
theorem BOut.start {D : List Pr} {R : List Int} {s : Int} (m : s ∈ R) : BOut D R s [] [(s, [s])] := by
  refine ⟨by simp [keysE], fun e he => ?_, List.pairwise_singleton _ _, fun e he => (by cases he), fun _ => by simp [keysE], fun e he => ?_⟩
  · rw [List.mem_singleton.mp he]
    refine ⟨.base m, fun q k => ?_⟩
    have := k.ne
    by_cases l : q.length ≤ 1
    · exact .inl (k.one l).2.symm
    · exact sle_of_len (show 1 < q.length by omega)
  · rw [List.mem_singleton.mp he]
    exact .inl rfl
theorem BOut.none {D : List Pr} {R : List Int} {s : Int} (m : s ∉ R) : BOut D R s [] [] :=
  ⟨List.nodup_nil, fun e he => (by cases he), List.Pairwise.nil, fun e he => (by cases he), fun h => absurd h m, fun e he => (by cases he)⟩

/-! the layers of the law -/
/-- k layers are found: L all, M those of the last layer -/
structure Lay (D : List Pr) (R : List Int) (s : Int) (k : Nat) (L M : List En) : Prop where
  nd : (keysE L).Nodup
  le : ∀ e ∈ L, Lst D R s e.1 e.2 ∧ e.2.length ≤ k
  all : ∀ x p, Pth D R s x p → p.length ≤ k → x ∈ keysE L
  mm : ∀ e, e ∈ M ↔ e ∈ L ∧ e.2.length = k
  sz : s ∈ R → k ≤ L.length
/-- the next layer, the steps E taken -/
structure Fur (R : List Int) (L M : List En) (E : Int → Int → Prop) (F : List En) : Prop where
  nd : (keysE F).Nodup
  of : ∀ e ∈ F, e.1 ∈ R ∧ e.1 ∉ keysE L ∧ ∃ u ∈ M, E u.1 e.1 ∧ e.2 = u.2 ++ [e.1]
  all : ∀ u ∈ M, ∀ v, E u.1 v → v ∈ R → v ∉ keysE L → ∃ p, (v, p) ∈ F ∧ sle p (u.2 ++ [v])
theorem Lay.start {D : List Pr} {R : List Int} {s : Int} (m : s ∈ R) : Lay D R s 1 [(s, [s])] [(s, [s])] := by
  refine ⟨by simp [keysE], fun e he => ?_, fun x p k l => ?_, fun e => ?_, fun _ => Nat.le_refl _⟩
  · have := (BOut.start (D := D) m).le e he
    rw [List.mem_singleton.mp he] at this ⊢
    exact ⟨this, Nat.le_refl _⟩
  · rw [(k.one l).1]
    simp [keysE]
  · constructor
    · intro h
      refine ⟨h, ?_⟩
      rw [List.mem_singleton.mp h]
      rfl
    · exact fun h => h.1
theorem Lay.none {D : List Pr} {R : List Int} {s : Int} (m : s ∉ R) (k : Nat) : Lay D R s k [] [] :=
  ⟨List.nodup_nil, fun e he => (by cases he), fun x p k l => absurd k.start m, fun e => ⟨fun h => (by cases h), fun h => (by cases h.1)⟩, fun h => absurd h m⟩
theorem Lay.via {D : List Pr} {R : List Int} {s : Int} {k : Nat} {L M : List En} (h : Lay D R s k L M) {v : Int} {q : List Int} (p : Pth D R s v q) (n : v ∉ keysE L) : k < q.length ∧ (q.length = k + 1 → 1 ≤ k → ∃ u ∈ M, Adj D u.1 v ∧ sle (u.2 ++ [v]) q) := by
  have l0 : k < q.length := Nat.lt_of_not_le fun l => n (h.all v q p l)
  refine ⟨l0, fun l k1 => ?_⟩
  cases p with
  | base hs =>
    have : 1 = k + 1 := l
    omega
  | @step c _ p kc ab hb =>
    rw [List.length_append] at l
    have l2 : p.length = k := Nat.succ.inj l
    obtain ⟨pc, hc⟩ := of_keysE (h.all c p kc (Nat.le_of_eq l2))
    obtain ⟨lc, lk⟩ := h.le _ hc
    have lk2 : pc.length = k := by
      rcases Nat.lt_or_ge pc.length k with g | g
      · refine absurd (h.all v _ (lc.1.step ab hb) ?_) n
        rw [List.length_append]
        exact g
      · exact Nat.le_antisymm lk g
    exact ⟨(c, pc), (h.mm _).mpr ⟨hc, lk2⟩, ab, sle_app v (lc.2 _ kc)⟩
theorem Lay.next {D : List Pr} {R : List Int} {s : Int} {k : Nat} {L M F : List En} (h : Lay D R s k L M) (k1 : 1 ≤ k) (f : Fur R L M (Adj D) F) (ne : F ≠ []) : Lay D R s (k + 1) (L ++ F) F := by
  have ke : keysE (L ++ F) = keysE L ++ keysE F := List.map_append
  have fl : ∀ e ∈ F, Lst D R s e.1 e.2 ∧ e.2.length = k + 1 := by
    intro e he
    obtain ⟨h1, h2, u, hu, h3, h4⟩ := f.of e he
    obtain ⟨hu1, hu2⟩ := (h.mm u).mp hu
    have el : e.2.length = k + 1 := by rw [h4, List.length_append, hu2]; rfl
    refine ⟨⟨by rw [h4]; exact (h.le u hu1).1.1.step h3 h1, fun q p => ?_⟩, el⟩
    obtain ⟨g1, g2⟩ := h.via p h2
    rcases Nat.lt_or_ge (k + 1) q.length with g | g
    · exact sle_of_len (by omega)
    · obtain ⟨w, hw, ab, l⟩ := g2 (by omega) k1
      obtain ⟨p', hp', l'⟩ := f.all w hw e.1 ab h1 h2
      have : e.2 = p' := by
        have : ∀ {G : List En}, (keysE G).Nodup → ∀ {x : Int} {a b : List Int}, (x, a) ∈ G → (x, b) ∈ G → a = b := by
          intro G
          induction G with
          | nil => intro _ x a b m; cases m
          | cons g G ih =>
            intro nd x a b ma mb
            obtain ⟨n1, n2⟩ := List.nodup_cons.mp nd
            rcases List.mem_cons.mp ma with ma | ma
            · rcases List.mem_cons.mp mb with mb | mb
              · have := ma.trans mb.symm
                exact congrArg Prod.snd this
              · rw [← ma] at n1
                exact absurd (keysE_mem mb) n1
            · rcases List.mem_cons.mp mb with mb | mb
              · rw [← mb] at n1
                exact absurd (keysE_mem ma) n1
              · exact ih n2 ma mb
        exact this f.nd (show (e.1, e.2) ∈ F from he) hp'
      rw [this]
      exact sle_trans l' l
  refine ⟨?_, ?_, ?_, ?_, ?_⟩
  · rw [ke]
    refine List.nodup_append.mpr ⟨h.nd, f.nd, fun x hx y hy e => ?_⟩
    obtain ⟨p, hp⟩ := of_keysE hy
    rw [e] at hx
    exact (f.of _ hp).2.1 hx
  · intro e he
    rcases List.mem_append.mp he with m | m
    · exact ⟨(h.le e m).1, Nat.le_succ_of_le (h.le e m).2⟩
    · exact ⟨(fl e m).1, Nat.le_of_eq (fl e m).2⟩
  · intro x p kp l
    rw [ke]
    by_cases m : x ∈ keysE L
    · exact List.mem_append_left _ m
    · obtain ⟨g1, g2⟩ := h.via kp m
      obtain ⟨w, hw, ab, l⟩ := g2 (by omega) k1
      obtain ⟨p', hp', _⟩ := f.all w hw x ab kp.mem m
      exact List.mem_append_right _ (keysE_mem hp')
  · intro e
    constructor
    · exact fun m => ⟨List.mem_append_right _ m, (fl e m).2⟩
    · rintro ⟨m, l⟩
      rcases List.mem_append.mp m with m | m
      · have := (h.le e m).2
        omega
      · exact m
  · intro m
    rw [List.length_append]
    have := h.sz m
    have : 1 ≤ F.length := by
      cases F with
      | nil => exact absurd rfl ne
      | cons _ _ => exact Nat.le_add_left _ _
    omega
theorem Lay.stop {D : List Pr} {R : List Int} {s : Int} {k : Nat} {L M : List En} (h : Lay D R s k L M) (k1 : 1 ≤ k) (f : Fur R L M (Adj D) []) : AllP D R s L := by
  refine ⟨h.nd, fun e he => (h.le e he).1, fun x p kp => ?_⟩
  induction kp with
  | base hs => exact h.all s [s] (.base hs) k1
  | @step c v p kc ab hb ih =>
    obtain ⟨pc, hc⟩ := of_keysE ih
    obtain ⟨lc, lk⟩ := h.le _ hc
    by_cases m : v ∈ keysE L
    · exact m
    · exfalso
      obtain ⟨g1, _⟩ := h.via (lc.1.step ab hb) m
      rw [List.length_append] at g1
      have g3 : k < pc.length + 1 := g1
      obtain ⟨p', hp', _⟩ := f.all (c, pc) ((h.mm _).mpr ⟨hc, Nat.le_antisymm lk (Nat.lt_succ_iff.mp g3)⟩) v ab hb m
      cases hp'
theorem Lay.full {D : List Pr} {R : List Int} {s : Int} {k : Nat} {L M : List En} (h : Lay D R s k L M) (l : R.length < k) (sub : ∀ l : List Int, l.Nodup → (∀ x ∈ l, x ∈ R) → l.length ≤ R.length) : AllP D R s L := by
  refine ⟨h.nd, fun e he => (h.le e he).1, fun x p kp => ?_⟩
  have h1 := h.sz kp.start
  have h2 := sub (keysE L) h.nd fun x hx => by
    obtain ⟨p, hp⟩ := of_keysE hx
    exact (h.le _ hp).1.1.mem
  unfold keysE at h2
  rw [List.length_map] at h2
  omega
theorem Fur.start (R : List Int) (L M : List En) : Fur R L M (fun _ _ => False) [] :=
  ⟨List.nodup_nil, fun e he => (by cases he), fun _ _ _ h => h.elim⟩
theorem Fur.more {R : List Int} {L M F : List En} {E E' : Int → Int → Prop} (h : Fur R L M E F) (i : ∀ x y, E x y ↔ E' x y) : Fur R L M E' F :=
  ⟨h.nd, fun e he => by
    obtain ⟨h1, h2, u, hu, h3, h4⟩ := h.of e he
    exact ⟨h1, h2, u, hu, (i _ _).mp h3, h4⟩, fun u hu v e => h.all u hu v ((i _ _).mpr e)⟩
/-- a step that is none -/
theorem Fur.skip {R : List Int} {L M F : List En} {E : Int → Int → Prop} (h : Fur R L M E F) (u v : Int) (n : u ∉ keysE M ∨ v ∉ R ∨ v ∈ keysE L) : Fur R L M (fun x y => E x y ∨ x = u ∧ y = v) F :=
  ⟨h.nd, fun e he => by
    obtain ⟨h1, h2, u, hu, h3, h4⟩ := h.of e he
    exact ⟨h1, h2, u, hu, .inl h3, h4⟩, fun w hw v' e h1 h2 => by
    rcases e with e | ⟨rfl, rfl⟩
    · exact h.all w hw v' e h1 h2
    · rcases n with n | n | n
      · exact absurd (keysE_mem (p := w.2) hw) n
      · exact absurd h1 n
      · exact absurd n h2⟩
/-- a step that does not better -/
theorem Fur.worse {R : List Int} {L M F : List En} {E : Int → Int → Prop} (h : Fur R L M E F) {u v : Int} {pu p : List Int} (ndM : ∀ w ∈ M, w.1 = u → w.2 = pu) (m : (v, p) ∈ F) (l : sle p (pu ++ [v])) : Fur R L M (fun x y => E x y ∨ x = u ∧ y = v) F :=
  ⟨h.nd, fun e he => by
    obtain ⟨h1, h2, u, hu, h3, h4⟩ := h.of e he
    exact ⟨h1, h2, u, hu, .inl h3, h4⟩, fun w hw v' e h1 h2 => by
    rcases e with e | ⟨e1, rfl⟩
    · exact h.all w hw v' e h1 h2
    · rw [ndM w hw e1]
      exact ⟨p, m, l⟩⟩
theorem Fur.new {R : List Int} {L M F : List En} {E : Int → Int → Prop} (h : Fur R L M E F) {u v : Int} {pu : List Int} (ndM : ∀ w ∈ M, w.1 = u → w.2 = pu) (um : (u, pu) ∈ M) (vR : v ∈ R) (vL : v ∉ keysE L) (n : v ∉ keysE F) : Fur R L M (fun x y => E x y ∨ x = u ∧ y = v) (F ++ [(v, pu ++ [v])]) := by
  refine ⟨?_, fun e he => ?_, fun w hw v' e h1 h2 => ?_⟩
  · show (List.map _ _).Nodup
    rw [List.map_append]
    refine List.nodup_append.mpr ⟨h.nd, List.pairwise_singleton _ _, fun x hx y hy e => ?_⟩
    rw [List.mem_singleton.mp hy] at e
    rw [e] at hx
    exact n hx
  · rcases List.mem_append.mp he with m | m
    · obtain ⟨h1, h2, u, hu, h3, h4⟩ := h.of e m
      exact ⟨h1, h2, u, hu, .inl h3, h4⟩
    · rw [List.mem_singleton.mp m]
      exact ⟨vR, vL, _, um, .inr ⟨rfl, rfl⟩, rfl⟩
  · rcases e with e | ⟨e1, rfl⟩
    · obtain ⟨p, hp, l⟩ := h.all w hw v' e h1 h2
      exact ⟨p, List.mem_append_left _ hp, l⟩
    · rw [ndM w hw e1]
      exact ⟨_, List.mem_append_right _ (List.mem_singleton.mpr rfl), .inl rfl⟩
def setE (L : List En) (x : Int) (p : List Int) : List En := L.map fun e => if e.1 = x then (x, p) else e
theorem setE_keys (L : List En) (x : Int) (p : List Int) : keysE (setE L x p) = keysE L := by
  unfold keysE setE
  rw [List.map_map]
  refine List.map_congr_left fun e _ => ?_
  show (if e.1 = x then (x, p) else e).1 = e.1
  by_cases h : e.1 = x
  · rw [if_pos h]; exact h.symm
  · rw [if_neg h]
theorem mem_setE {L : List En} {x : Int} {p : List Int} {e : En} (h : e ∈ setE L x p) : e = (x, p) ∨ (e ∈ L ∧ e.1 ≠ x) := by
  obtain ⟨f, hf, e2⟩ := List.mem_map.mp h
  by_cases c : f.1 = x
  · rw [if_pos c] at e2; exact .inl e2.symm
  · rw [if_neg c] at e2; rw [← e2]; exact .inr ⟨hf, c⟩
theorem setE_mem {L : List En} {x : Int} {p : List Int} (h : x ∈ keysE L) : (x, p) ∈ setE L x p := by
  obtain ⟨q, hq⟩ := of_keysE h
  exact List.mem_map.mpr ⟨_, hq, if_pos rfl⟩
theorem setE_old {L : List En} {x : Int} {p : List Int} {e : En} (h : e ∈ L) (n : e.1 ≠ x) : e ∈ setE L x p := List.mem_map.mpr ⟨e, h, if_neg n⟩
theorem Fur.better {R : List Int} {L M F : List En} {E : Int → Int → Prop} (h : Fur R L M E F) {u v : Int} {pu p : List Int} (ndM : ∀ w ∈ M, w.1 = u → w.2 = pu) (um : (u, pu) ∈ M) (vR : v ∈ R) (vL : v ∉ keysE L) (m : (v, p) ∈ F) (uq : ∀ q, (v, q) ∈ F → q = p) (l : sle (pu ++ [v]) p) : Fur R L M (fun x y => E x y ∨ x = u ∧ y = v) (setE F v (pu ++ [v])) := by
  refine ⟨by rw [setE_keys]; exact h.nd, fun e he => ?_, fun w hw v' e h1 h2 => ?_⟩
  · rcases mem_setE he with m | ⟨m, _⟩
    · rw [m]
      exact ⟨vR, vL, _, um, .inr ⟨rfl, rfl⟩, rfl⟩
    · obtain ⟨h1, h2, u, hu, h3, h4⟩ := h.of e m
      exact ⟨h1, h2, u, hu, .inl h3, h4⟩
  · have here : (v, pu ++ [v]) ∈ setE F v (pu ++ [v]) := setE_mem (keysE_mem m)
    rcases e with e | ⟨e1, rfl⟩
    · obtain ⟨q, hq, l2⟩ := h.all w hw v' e h1 h2
      by_cases c : v' = v
      · subst c
        rw [uq q hq] at l2
        exact ⟨_, here, sle_trans l l2⟩
      · exact ⟨q, setE_old hq c, l2⟩
    · rw [ndM w hw e1]
      exact ⟨_, here, .inl rfl⟩

/-! ### logs in the heap -/
abbrev Cl := Int × Str
def IsC (H : Hp) (v : V) (c : Cl) : Prop := ∃ t, v = .ref t ∧ H t = some (.tup [.int c.1, .str c.2])
def LG (H : Hp) (vs : List V) (L : List Cl) : Prop := Paired (IsC H) vs L
theorem IsC.kt {H H' : Hp} {v : V} {d : Cl} (h : IsC H v d) (k : KT H H') : IsC H' v d := by
  obtain ⟨t, e, h⟩ := h
  exact ⟨t, e, k _ _ h⟩
theorem LG.kt {H H' : Hp} {vs : List V} {D : List Cl} (h : LG H vs D) (k : KT H H') : LG H' vs D := Paired.mapP h fun _ _ q => q.kt k
theorem LG.len {H : Hp} {vs : List V} {D : List Cl} (h : LG H vs D) : vs.length = D.length := Paired.length h
theorem LG.nil0 (H : Hp) : LG H [] [] := Paired.nil
theorem LG.snoc {H : Hp} {vs : List V} {D : List Cl} {v : V} {d : Cl} (h : LG H vs D) (q : IsC H v d) : LG H (vs ++ [v]) (D ++ [d]) := Paired.snoc h q
theorem pget {α β : Type} {F : α → β → Prop} : ∀ {vs : List α} {D : List β} {i : Nat} {v : α}, Paired F vs D → vs[i]? = some v → ∃ d, D[i]? = some d ∧ F v d
  | _, _, _, _, Paired.nil, e => by simp at e
  | _, _, 0, v, .cons r _, e => by
    have e2 := Option.some.inj e
    subst e2
    exact ⟨_, rfl, r⟩
  | _, _, i + 1, v, .cons _ t, e => pget (i := i) t e
theorem pget2 {α β : Type} {F : α → β → Prop} : ∀ {vs : List α} {D : List β} {i : Nat} {d : β}, Paired F vs D → D[i]? = some d → ∃ v, vs[i]? = some v ∧ F v d
  | _, _, _, _, Paired.nil, e => by simp at e
  | _, _, 0, v, .cons r _, e => by
    have e2 := Option.some.inj e
    subst e2
    exact ⟨_, rfl, r⟩
  | _, _, i + 1, v, .cons _ t, e => pget2 (i := i) t e
theorem prev {α β : Type} {F : α → β → Prop} {vs : List α} {D : List β} (h : Paired F vs D) : Paired F vs.reverse D.reverse := by
  induction h with
  | nil => exact Paired.nil
  | cons r _ ih =>
    rw [List.reverse_cons, List.reverse_cons]
    exact Paired.snoc ih r
theorem inV_ints (j : Int) (l : List Int) : inV (.int j) (l.map V.int) = decide (j ∈ l) := by
  induction l with
  | nil => rfl
  | cons x l ih =>
    have e : inV (.int j) ((x :: l).map V.int) = (eqV (.int x) (.int j) || inV (.int j) (l.map V.int)) := rfl
    rw [e, ih]
    have e2 : eqV (.int x) (.int j) = decide (x = j) := by
      unfold eqV
      by_cases h : x = j
      · subst h
        simp
      · simp [h]
    rw [e2]
    by_cases h : j = x
    · subst h
      simp
    · have h' : ¬ x = j := fun z => h z.symm
      simp [h, h']
theorem flat_ints (l : List Int) : (l.map V.int).all flatV = true := by
  rw [List.all_eq_true]
  intro v hv
  obtain ⟨x, _, rfl⟩ := List.mem_map.mp hv
  rfl
/-- the last calls of a log -/
theorem rep1 {α : Type} (n : Nat) (x : α) : (List.replicate n [x]).flatten = List.replicate n x := by
  induction n with
  | zero => rfl
  | succ n ih =>
    rw [List.replicate_succ, List.flatten_cons, List.replicate_succ, ih]
    rfl
def lastF : List Cl → List Cl
  | [] => []
  | c :: S => if c.1 ∈ S.map (·.1) then lastF S else c :: lastF S
theorem lastF_len (L : List Cl) : (lastF L).length ≤ L.length := by
  induction L with
  | nil => exact Nat.le_refl _
  | cons c S ih =>
    show (if c.1 ∈ S.map (·.1) then lastF S else c :: lastF S).length ≤ S.length + 1
    split
    · omega
    · rw [List.length_cons]
      omega
theorem drop_step {L : List Cl} {i : Nat} {c : Cl} (hi : i < L.length) (g : L[L.length - 1 - i]? = some c) : L.drop (L.length - (i + 1)) = c :: L.drop (L.length - i) := by
  have h : L.length - (i + 1) < L.length := by omega
  rw [List.drop_eq_getElem_cons h]
  have e1 : L.length - (i + 1) + 1 = L.length - i := by omega
  have e2 : L.length - (i + 1) = L.length - 1 - i := by omega
  rw [e1]
  congr 1
  rw [← e2, List.getElem?_eq_getElem h] at g
  exact Option.some.inj g
def inS (S : List Cl) : Int → Bool := fun k => decide (k ∈ S.map (·.1))
theorem inS_same {S : List Cl} {c : Cl} (h : c.1 ∈ S.map (·.1)) : inS (c :: S) = inS S := by
  funext k
  unfold inS
  by_cases e : k ∈ S.map (·.1)
  · rw [decide_eq_true e, List.map_cons, decide_eq_true (List.mem_cons_of_mem _ e)]
  · rw [decide_eq_false e, List.map_cons, decide_eq_false]
    intro z
    rcases List.mem_cons.mp z with z | z
    · exact e (by rw [z]; exact h)
    · exact e z
theorem inS_more {S : List Cl} {c : Cl} : (fun j => inS S j || decide (j = c.1)) = inS (c :: S) := by
  funext k
  unfold inS
  rw [List.map_cons]
  by_cases e1 : k = c.1
  · subst e1
    simp
  · by_cases e2 : k ∈ S.map (·.1)
    · rw [decide_eq_true e2, decide_eq_true (List.mem_cons_of_mem _ e2), Bool.true_or]
    · rw [decide_eq_false e2, decide_eq_false e1, decide_eq_false, Bool.or_false]
      intro z
      rcases List.mem_cons.mp z with z | z
      · exact e1 z
      · exact e2 z
theorem atI01 {a b : V} : atI [a, b] 0 = some a ∧ atI [a, b] 1 = some b := ⟨rfl, rfl⟩
abbrev sLast : Stmt := topS 0
abbrev sOrd : Stmt := topS 0
abbrev sWds : Stmt := topS 0
abbrev sLci : Stmt := topS 1
abbrev sTopR : Stmt := topS 0
abbrev sWof : Stmt := topS 2
abbrev sLof : Stmt := topS 0
section
variable {P : Program} {w : World} {K : PySem.W.Frag} {mg : Str → Option Value} {base : Heap}
def spLast : Sp := fun vs H Q _ => ∃ (l : Addr) (us : List V) (L : List Cl), vs = [.ref l] ∧ H l = some (.lst us) ∧ LG H us L ∧ L.length ≤ 1000 ∧
  ∀ ws p H', Same H H' → H p = none → H' p = some (.lst ws) → LG H' ws (lastF L) → Q (.ref p) H'
def spOrd : Sp := fun vs H Q _ => ∃ (l : Addr) (us : List V) (L : List Cl), vs = [.ref l] ∧ H l = some (.lst us) ∧ LG H us L ∧ L.length ≤ 1000 ∧
  ∀ p H', Same H H' → H p = none → H' p = some (.tup ((lastF L).map fun c => V.int c.1)) → Q (.ref p) H'
/-- the last word of each of r rooms -/
def wordsF (r : Nat) (L : List Cl) : List V := L.foldl (fun W c => W.set c.1.toNat (.str c.2)) (List.replicate r .non)
theorem wordsF_len (r : Nat) (L : List Cl) : (wordsF r L).length = r := by
  have key : ∀ (L : List Cl) (W : List V), (L.foldl (fun W c => W.set c.1.toNat (.str c.2)) W).length = W.length := by
    intro L
    induction L with
    | nil => intro W; rfl
    | cons c L ih =>
      intro W
      show (L.foldl _ (W.set c.1.toNat (.str c.2))).length = _
      rw [ih, List.length_set]
  unfold wordsF
  rw [key, List.length_replicate]
def InR (r : Nat) (L : List Cl) : Prop := ∀ c ∈ L, 0 ≤ c.1 ∧ c.1 < r
theorem wordsF_step {r : Nat} {L : List Cl} {j : Nat} {c : Cl} (g : L[j]? = some c) : wordsF r (L.take (j + 1)) = (wordsF r (L.take j)).set c.1.toNat (.str c.2) := by
  unfold wordsF
  rw [List.take_add_one, g, List.foldl_append]
  rfl
def spWds (C : Addr) : Sp := fun vs H Q _ => ∃ (p l : Addr) (us : List V) (L : List Cl) (r : Nat) (D : List Pr) (own : List Addr), vs = [.ref p, .ref l] ∧ HouseAt C H p r D own ∧ H l = some (.lst us) ∧ LG H us L ∧ InR r L ∧
  ∀ q H', Same H H' → H q = none → H' q = some (.lst (wordsF r L)) → Q (.ref q) H'
theorem scLci : FnScope ["log", "rooms", "call"] ["log", "rooms"] (defScope sLci) := ⟨rfl, rfl, rfl, by decide +kernel, rfl, by decide +kernel, by decide +kernel⟩
/-- the last call in any of the rooms -/
def lastIn (R : List Int) (L : List Cl) : Option Cl := L.reverse.find? fun c => decide (c.1 ∈ R)
def spLci (K : PySem.W.Frag) : Sp := fun vs H Q _ => ∃ (l o : Addr) (us : List V) (L : List Cl) (R : List Int), vs = [.ref l, .ref o] ∧ H l = some (.lst us) ∧ LG H us L ∧ (SqL K H o (R.map V.int) ∨ SqT K H o (R.map V.int)) ∧ (lastIn R L = none → Q .non H) ∧ (∀ t c, lastIn R L = some c → H t = some (.tup [.int c.1, .str c.2]) → Q (.ref t) H)
theorem ok_lci {f : Addr} {fd : FuncData} (F : Fun K "last_call_in" "last_call_in" sLci f fd) (mrev : mg "reversed" = none) : FnOk P w K mg base CX0 1 f fd ["log", "rooms"] (spLci K) := by
  refine F.ok scLci (fun vs H Q E h => ?_) (fun cdv A outer s H vs Q E hr h => ?_)
  · obtain ⟨l, o, us, L, R, rfl, _⟩ := h
    rfl
  · obtain ⟨l, o, us, L, R, rfl, hl, lg, ho, qn, qs⟩ := h
    have ul : us.length = L.length := lg.len
    refine ⟨_, (pss_cons (ps_for PassesOwn.never rfl (pi_reversed (by rfl) mrev (pa_cons (pv 0) pa_nil)) (pg_name (i := 2) scLci.nd rfl (Or.inl rfl))
      (pss_one (ps_if (pt_cmpR op_in_seq (pe_ix ix_tup (pv 2) pe_int (fun _ _ => rfl)) (pv 1) (by rfl))
        (pss_one (ps_ret (pv 2)))
        pss_nil)))
      (pss_one (ps_ret pe_non))), ?_⟩
    walk_at "rd"
    obtain ⟨Pv, hPv⟩ : ∃ Pv : Nat → L2.St → Hp → Prop, Pv = (fun i σ H' => ∃ v2 : Option V, σ = [some (.ref l), some (.ref o), v2] ∧ H' = H ∧ lastIn R (L.drop (L.length - i)) = none) := ⟨_, rfl⟩
    refine ⟨_, rfl, l, us, rfl, SqL.of hl, RT.for_Itv Pv (by rw [hPv]; exact ⟨none, rfl, rfl, by rw [Nat.sub_zero, List.drop_length]; rfl⟩) (fun i σ H' pv => by rw [hPv] at pv; obtain ⟨_, _, rfl, _⟩ := pv; exact SqL.of hl) (fun i v σ H' hi gv pv => ?_) (fun σ H' pv => ?_)⟩
    · have nxt : ∀ v2, lastIn R (L.drop (L.length - (i + 1))) = none → Pv (i + 1) [some (.ref l), some (.ref o), v2] H := fun v2 h => by
        rw [hPv]
        exact ⟨v2, rfl, rfl, h⟩
      rw [hPv] at pv
      obtain ⟨v2, rfl, rfl, none_⟩ := pv
      rw [ul] at gv hi
      obtain ⟨c, gc, tc, rfl, htc⟩ := pget lg gv
      have st := drop_step hi gc
      have cons : lastIn R (c :: L.drop (L.length - i)) = if c.1 ∈ R then some c else none := by
        unfold lastIn at none_ ⊢
        rw [List.reverse_cons, List.find?_append, none_]
        by_cases e : c.1 ∈ R
        · simp [e]
        · simp [e]
      rw [st, cons] at nxt
      walk_at "rd"
      refine ⟨_, SqT.of htc, .int c.1, rfl, o, _, rfl, ho, rfl, flat_ints _, ?_⟩
      rw [inV_ints]
      refine ⟨_, rfl, ?_⟩
      by_cases e : c.1 ∈ R
      · rw [decide_eq_true e]
        refine iteT (qs tc c ?_ htc)
        have e1 : L = L.take (L.length - (i + 1)) ++ (c :: L.drop (L.length - i)) := by
          rw [← st]
          exact (List.take_append_drop _ _).symm
        rw [e1]
        unfold lastIn at cons ⊢
        rw [if_pos e] at cons
        rw [List.reverse_append, List.find?_append, cons]
        rfl
      · rw [decide_eq_false e]
        rw [if_neg e] at nxt
        exact iteF (nxt _ rfl)
    · rw [hPv] at pv
      obtain ⟨v2, rfl, rfl, none_⟩ := pv
      rw [ul, Nat.sub_self, List.drop_zero] at none_
      walk_at "rd"
      exact qn none_
def optR (o : Option Cl) : V := match o with
  | none => .non
  | some c => .int c.1
def optW (o : Option Cl) : V := match o with
  | none => .non
  | some c => .str c.2
def spTopR (K : PySem.W.Frag) (g : Option Cl → V) : Sp := fun vs H Q _ => ∃ (l o : Addr) (us : List V) (L : List Cl) (R : List Int), vs = [.ref l, .ref o] ∧ H l = some (.lst us) ∧ LG H us L ∧ (SqL K H o (R.map V.int) ∨ SqT K H o (R.map V.int)) ∧ Q (g (lastIn R L)) H
theorem lastIn_at {H : Hp} {us : List V} {L : List Cl} {R : List Int} {c : Cl} (lg : LG H us L) (h : lastIn R L = some c) : ∃ t, H t = some (.tup [.int c.1, .str c.2]) := by
  unfold lastIn at h
  have m := List.mem_of_find?_eq_some h
  obtain ⟨i, g⟩ := List.getElem?_of_mem (List.mem_reverse.mp m)
  obtain ⟨v, _, t, _, e⟩ := pget2 lg g
  exact ⟨t, e⟩
theorem scWof : FnScope ["log", "rooms", "call"] ["log", "rooms"] (defScope sWof) := ⟨rfl, rfl, rfl, by decide +kernel, rfl, by decide +kernel, by decide +kernel⟩
theorem ok_wof {f fL : Addr} {fd fdL : FuncData} (F : Fun K "word_of" "word_of" sWof f fd) (d_last_call_in : Df P w K mg base "last_call_in" ["log", "rooms"] 1 (spLci K) fL fdL) : FnOk P w K mg base CX0 2 f fd ["log", "rooms"] (spTopR K optW) := by
  refine F.ok scWof (fun vs H Q E h => ?_) (fun cdv A outer s H vs Q E hr h => ?_)
  · obtain ⟨l, o, us, L, R, rfl, _⟩ := h
    rfl
  · obtain ⟨l, o, us, L, R, rfl, hl, lg, ho, q⟩ := h
    refine ⟨_, (pss_cons (ps_set (i := 2) scWof.nd rfl (Or.inl rfl) (pe_call d_last_call_in.ok (hr.mono (by decide)) (by rfl) d_last_call_in.at_ d_last_call_in.kp d_last_call_in.b .nil pass0 (pa_cons (pv 0) (pa_cons (pv 1) pa_nil))))
      (pss_one (ps_ret (pe_ifExp (pt_cmpR op_isN (pv 2) pe_non (nomark _)) pe_non (pe_ix ix_tup (pv 2) pe_int (fun _ _ => rfl)))))), ?_⟩
    walk_at "rd"
    refine ⟨l, o, us, L, R, rfl, hl, lg, ho, fun e => ?_, fun t c e ht => ?_⟩
    · rw [e] at q
      walk_at "rd"
      exact q
    · rw [e] at q
      walk_at "rd"
      rw [if_neg (by decide)]
      exact ⟨_, SqT.of ht, _, rfl, q⟩
def spLof (K : PySem.W.Frag) : Sp := fun vs H Q _ => ∃ (l o : Addr) (W : List V) (L : List Cl), vs = [.ref l, .ref o] ∧ H l = some (.lst W) ∧ H o = some (.tup (L.map fun c => V.int c.1)) ∧ L.length ≤ 1000 ∧ (∀ c ∈ L, 0 ≤ c.1 ∧ W[c.1.toNat]? = some (.str c.2)) ∧
  ∀ ws p H', Same H H' → H p = none → H' p = some (.lst ws) → LG H' ws L → Q (.ref p) H'
end
abbrev sLtop : Stmt := topS 0
abbrev sLwof : Stmt := topS 15
abbrev sLlast : Stmt := topS 0
abbrev sSpell : Stmt := topS 0
abbrev sPool : Stmt := topS 0
abbrev sSize : Stmt := topS 0
abbrev sDrawn : Stmt := topS 0
abbrev sChosen : Stmt := topS 0
theorem lastIn_step {R : List Int} {L : List Cl} {i : Nat} {c : Cl} (g : L[i]? = some c) : lastIn R (L.take (i + 1)) = if c.1 ∈ R then some c else lastIn R (L.take i) := by
  rw [List.take_add_one, g]
  unfold lastIn
  show List.find? _ (L.take i ++ [c]).reverse = _
  rw [List.reverse_append]
  show List.find? _ (c :: (L.take i).reverse) = _
  by_cases e : c.1 ∈ R
  · rw [List.find?_cons_of_pos (by simp [e]), if_pos e]
  · rw [List.find?_cons_of_neg (by simp [e]), if_neg e]
theorem cut_drop (xs : List V) (k : Nat) : cutV xs (some ((k : Nat) : Int)) none = xs.drop k := by
  unfold cutV
  rw [show HT.sIx xs.length 0 (some ((k : Nat) : Int)) = min k xs.length from HT.sIx_nat xs.length 0 k, HT.sIx_none]
  by_cases h : k ≤ xs.length
  · rw [Nat.min_eq_left h]
    refine List.take_of_length_le ?_
    rw [List.length_drop]
    exact Nat.le_refl _
  · rw [Nat.min_eq_right (by omega), List.drop_length, List.drop_eq_nil_of_le (by omega)]
    exact List.take_nil
theorem for_iter {wi : TI} {g : TG} {tb : TS} {D : Ends} {σ : L2.St} {H : Hp} (h : wi σ H fun J H1 => tFor (fun _ H R => R J H) g tb D σ H1) : tFor wi g tb D σ H := h
section
variable {P : Program} {w : World} {K : PySem.W.Frag} {mg : Str → Option Value} {base : Heap}
theorem scLwof : FnScope ["log", "rooms", "word", "call"] ["log", "rooms"] (defScope sLwof) := ⟨rfl, rfl, rfl, by decide +kernel, rfl, by decide +kernel, by decide +kernel⟩
theorem ok_lwof {f : Addr} {fd : FuncData} (F : Fun K "_law_word_of" "_law_word_of" sLwof f fd) : FnOk P w K mg base CX0 1 f fd ["log", "rooms"] (spTopR K optW) := by
  refine F.ok scLwof (fun vs H Q E h => ?_) (fun cdv A outer s H vs Q E hr h => ?_)
  · obtain ⟨l, o, us, L, R, rfl, _⟩ := h
    rfl
  · obtain ⟨l, o, us, L, R, rfl, hl, lg, ho, q⟩ := h
    have ul : us.length = L.length := lg.len
    refine ⟨_, (pss_cons (ps_set (i := 2) scLwof.nd rfl (Or.inl rfl) pe_non)
      (pss_cons (ps_for PassesOwn.never rfl (pi_list (pv 0)) (pg_name (i := 3) scLwof.nd rfl (Or.inl rfl))
      (pss_one (ps_if (pt_cmpR op_in_seq (pe_ix ix_tup (pv 3) pe_int (fun _ _ => rfl)) (pv 1) (by rfl))
        (pss_one (ps_set (i := 2) scLwof.nd rfl (Or.inl rfl) (pe_ix ix_tup (pv 3) pe_int (fun _ _ => rfl))))
        pss_nil)))
      (pss_one (ps_ret (pv 2))))), ?_⟩
    walk_at "rd"
    obtain ⟨Pv, hPv⟩ : ∃ Pv : Nat → L2.St → Hp → Prop, Pv = (fun i σ H' => ∃ v3 : Option V, σ = [some (.ref l), some (.ref o), some (optW (lastIn R (L.take i))), v3] ∧ H' = H) := ⟨_, rfl⟩
    refine ⟨_, rfl, l, rfl, ⟨_, SqL.of hl⟩, for_list (K := K) (a := l) (xs := us) Pv (by rw [hPv]; exact ⟨none, rfl, rfl⟩) (fun i σ H' _ pv => by rw [hPv] at pv; obtain ⟨_, _, rfl⟩ := pv; exact SqL.of hl) (fun i v σ H' gv pv => ?_) (fun σ H' pv => ?_)⟩
    · have nxt : ∀ v3, Pv (i + 1) [some (.ref l), some (.ref o), some (optW (lastIn R (L.take (i + 1)))), v3] H := fun v3 => by
        rw [hPv]
        exact ⟨v3, rfl, rfl⟩
      rw [hPv] at pv
      obtain ⟨v3, rfl, rfl⟩ := pv
      obtain ⟨c, gc, tc, rfl, htc⟩ := pget lg gv
      rw [lastIn_step gc] at nxt
      walk_at "rd"
      refine ⟨_, SqT.of htc, .int c.1, rfl, o, _, rfl, ho, rfl, flat_ints _, ?_⟩
      rw [inV_ints]
      refine ⟨_, rfl, ?_⟩
      by_cases e : c.1 ∈ R
      · rw [decide_eq_true e]
        rw [if_pos e] at nxt
        exact iteT ⟨_, SqT.of htc, .str c.2, rfl, nxt _⟩
      · rw [decide_eq_false e]
        rw [if_neg e] at nxt
        exact iteF (nxt _)
    · rw [hPv] at pv
      obtain ⟨v3, rfl, rfl⟩ := pv
      rw [ul, List.take_length]
      walk_at "rd"
      exact q
/-- a word: short, and its signs are signs -/
def wk (n : Nat) (z : Str) : Prop := z.length ≤ n ∧ PyData.strOk z = true
theorem wk.mono {n m : Nat} {z : Str} (h : wk n z) (l : n ≤ m) : wk m z := ⟨Nat.le_trans h.1 l, h.2⟩
theorem strOk_app {u v : Str} (h : PyData.strOk u = true) (k : PyData.strOk v = true) : PyData.strOk (u ++ v) = true := by
  show (u.cps ++ v.cps).all (· < 0x110000) = true
  rw [Array.all_append]
  show (PyData.strOk u && PyData.strOk v) = true
  rw [h, k]
  rfl
theorem wk_app {a b n : Nat} {u v : Str} (h : wk a u) (k : wk b v) (l : a + b ≤ n) : wk n (u ++ v) := ⟨by rw [Str.length_append]; have := h.1; have := k.1; omega, strOk_app h.2 k.2⟩
theorem wk_cut {n : Nat} {z : Str} (h : wk n z) (lo hi : Option Int) : wk n (cutS z lo hi) := by
  refine ⟨Nat.le_trans (cutS_length z lo hi) h.1, ?_⟩
  have h2 := h.2
  unfold PyData.strOk at h2 ⊢
  unfold cutS
  rw [Array.all_eq_true_iff_forall_mem] at h2 ⊢
  intro c hc
  refine h2 c ?_
  rw [Array.mem_def]
  simp only [List.mem_toArray] at hc
  exact List.mem_of_mem_drop (List.mem_of_mem_take hc)
theorem strOk_one {c : Nat} (h : c < 0x110000) : PyData.strOk (Str.mk #[c]) = true := by
  show (#[c] : Array Nat).all (· < 0x110000) = true
  simp [h]
def spSpell (K : PySem.W.Frag) : Sp := fun vs H Q _ => ∃ (a : Addr) (ns : List Int) (at_ : Nat), vs = [.ref a, .int at_] ∧ SqL K H a (ns.map V.int) ∧ at_ + 4 < ns.length ∧ ∀ z : Str, wk 8 z → Q (.str z) H
theorem letters_at {j : Nat} (h : j < 26) : ∃ c, atI (Str.ofString "abcdefghijklmnopqrstuvwxyz").cps.toList ((j : Nat) : Int) = some c ∧ c < 0x110000 := by
  have hl : (Str.ofString "abcdefghijklmnopqrstuvwxyz").cps.toList.length = 26 := by decide +kernel
  have ha : ((Str.ofString "abcdefghijklmnopqrstuvwxyz").cps.toList.all fun c => decide (c < 0x110000)) = true := by decide +kernel
  refine ⟨_, atI_nat (List.getElem?_eq_getElem (by rw [hl]; exact h)), ?_⟩
  exact of_decide_eq_true (List.all_eq_true.mp ha _ (List.getElem_mem _))
end

/-! ### theory for laws that have no parting_path -/
def optS (o : Option Str) : V := match o with
  | some z => .str z
  | none => .non
theorem optS_scal (o o' : Option Str) : scal (optS o) (optS o') = true := by cases o <;> cases o' <;> rfl
theorem optS_inj {o o' : Option Str} (h : optS o = optS o') : o = o' := by
  cases o with
  | none =>
    cases o' with
    | none => rfl
    | some z => cases h
  | some y =>
    cases o' with
    | none => cases h
    | some z => exact congrArg some (V.str.inj h)
def wordP (L : List Cl) (ps : List Int) : Option Str := (lastIn ps L).map (·.2)
theorem optW_S (o : Option Cl) : optW o = optS (o.map (·.2)) := by cases o <;> rfl
theorem snoc_ind {α : Type} {M : List α → Prop} (h0 : M []) (hs : ∀ S c, M S → M (S ++ [c])) (L : List α) : M L := by
  have key : ∀ K : List α, M K.reverse := by
    intro K
    induction K with
    | nil => exact h0
    | cons c K ih => rw [List.reverse_cons]; exact hs _ _ ih
  have := key L.reverse
  rw [List.reverse_reverse] at this
  exact this
theorem lastIn_snoc (R : List Int) (S : List Cl) (c : Cl) : lastIn R (S ++ [c]) = if c.1 ∈ R then some c else lastIn R S := by
  unfold lastIn
  rw [List.reverse_append]
  show List.find? _ (c :: S.reverse) = _
  by_cases h : c.1 ∈ R
  · rw [List.find?_cons_of_pos (by simp [h]), if_pos h]
  · rw [List.find?_cons_of_neg (by simp [h]), if_neg h]
theorem find_ext {α : Type} {p q : α → Bool} : ∀ l : List α, (∀ a ∈ l, p a = q a) → l.find? p = l.find? q
  | [], _ => rfl
  | a :: l, h => by
    rw [List.find?_cons, List.find?_cons, h a List.mem_cons_self, find_ext l fun b hb => h b (List.mem_cons_of_mem _ hb)]
theorem lastIn_congr {R S : List Int} (h : ∀ x, x ∈ R ↔ x ∈ S) (L : List Cl) : lastIn R L = lastIn S L := by
  unfold lastIn
  refine find_ext _ fun c _ => ?_
  by_cases m : c.1 ∈ R
  · rw [decide_eq_true m, decide_eq_true ((h _).mp m)]
  · rw [decide_eq_false m, decide_eq_false fun z => m ((h _).mpr z)]
theorem wordP_snoc (S : List Cl) (c : Cl) (R : List Int) : wordP (S ++ [c]) R = if c.1 ∈ R then some c.2 else wordP S R := by
  unfold wordP
  rw [lastIn_snoc]
  by_cases h : c.1 ∈ R
  · rw [if_pos h, if_pos h]
    rfl
  · rw [if_neg h, if_neg h]
theorem wordP_congr {R S : List Int} (h : ∀ x, x ∈ R ↔ x ∈ S) (L : List Cl) : wordP L R = wordP L S := by
  unfold wordP
  rw [lastIn_congr h]
def lenD (p : List Int) : PyData := .tuple [.int p.length, .tuple (p.map PyData.int)]
theorem toks_lt : ∀ (p q : List Int) (x y : List (Int ⊕ List Nat)), p.length = q.length → x = y → (PyProof.Rows.lexLt itemOrd (PySem.W.keyToksAll (p.map PyData.int) ++ x) (PySem.W.keyToksAll (q.map PyData.int) ++ y) = true ↔ ltL p q)
  | [], [], x, y, _, e => by
    subst e
    rw [PyProof.Rows.lex_irrefl]
    simp [ltL]
  | [], _ :: _, _, _, h, _ => by cases h
  | _ :: _, [], _, _, h, _ => by cases h
  | a :: s, b :: t, x, y, h, e => by
    show PyProof.Rows.lexLt itemOrd (Sum.inl 1 :: Sum.inl a :: (PySem.W.keyToksAll (s.map PyData.int) ++ x)) (Sum.inl 1 :: Sum.inl b :: (PySem.W.keyToksAll (t.map PyData.int) ++ y)) = true ↔ _
    rw [PyProof.Rows.lex_self]
    by_cases c : a = b
    · subst c
      rw [PyProof.Rows.lex_self, toks_lt s t x y (Nat.succ.inj h) e]
      show _ ↔ (a < a ∨ (a = a ∧ ltL s t))
      exact ⟨fun z => .inr ⟨rfl, z⟩, fun z => z.elim (fun w => absurd w (by omega)) (·.2)⟩
    · rw [PyProof.Rows.lex_diff (fun z => c (Sum.inl.inj z))]
      show decide (a < b) = true ↔ (a < b ∨ (a = b ∧ ltL s t))
      rw [decide_eq_true_iff]
      exact ⟨.inl, fun z => z.elim id fun w => absurd w.1 c⟩
theorem dataLt_len (p q : List Int) : PySem.W.dataLt (lenD p) (lenD q) = true ↔ slt p q := by
  unfold PySem.W.dataLt lenD
  show PyProof.Rows.lexLt itemOrd (Sum.inl 1 :: Sum.inl (p.length : Int) :: Sum.inl 1 :: (PySem.W.keyToksAll (p.map PyData.int) ++ [Sum.inl 0])) (Sum.inl 1 :: Sum.inl (q.length : Int) :: Sum.inl 1 :: (PySem.W.keyToksAll (q.map PyData.int) ++ [Sum.inl 0])) = true ↔ _
  rw [PyProof.Rows.lex_self]
  by_cases c : p.length = q.length
  · rw [c, PyProof.Rows.lex_self, PyProof.Rows.lex_self, toks_lt p q _ _ c rfl]
    exact ⟨fun z => .inr ⟨c, z⟩, fun z => z.elim (fun w => absurd w (by omega)) (·.2)⟩
  · rw [PyProof.Rows.lex_diff (fun z => c (by have := Sum.inl.inj z; omega))]
    show decide ((p.length : Int) < q.length) = true ↔ _
    rw [decide_eq_true_iff]
    exact ⟨fun z => .inl (by omega), fun z => z.elim (fun w => by omega) fun w => absurd w.1 c⟩
theorem alike_ints : ∀ p q : List Int, PySem.W.alikeAll (p.map PyData.int) (q.map PyData.int) = true
  | [], [] => rfl
  | [], _ :: _ => rfl
  | _ :: _, [] => rfl
  | _ :: s, _ :: t => by
    show (true && PySem.W.alikeAll (s.map PyData.int) (t.map PyData.int)) = true
    rw [alike_ints s t]
    rfl
theorem alike_len (p q : List Int) : PySem.W.alike (lenD p) (lenD q) = true := by
  show (true && (PySem.W.alikeAll (p.map PyData.int) (q.map PyData.int) && true)) = true
  rw [alike_ints]
  rfl
theorem dep_ints : ∀ p : List Int, PyData.depthAll (p.map PyData.int) = 0
  | [] => rfl
  | _ :: s => by
    show max 0 (PyData.depthAll (s.map PyData.int)) = 0
    rw [dep_ints s]
    rfl
theorem dep_len (p : List Int) : (lenD p).depth ≤ 2 := by
  show max 0 (max (PyData.depthAll (p.map PyData.int) + 1) 0) + 1 ≤ 2
  rw [dep_ints]
  decide
theorem dp_ints {K : PySem.W.Frag} {H : Hp} : ∀ p : List Int, DpAll K H (p.map V.int) (p.map PyData.int)
  | [] => .nil
  | _ :: s => .cons (.int _) (dp_ints s)
theorem dp_len {K : PySem.W.Frag} {H : Hp} {u t : Addr} {p : List Int} (hu : H u = some (.tup [.int p.length, .ref t])) (ht : H t = some (.tup (p.map V.int))) : Dp K H (.ref u) (lenD p) :=
  .tup (SqT.of hu) (.cons (.int _) (.cons (.tup (SqT.of ht) (dp_ints p)) .nil))
theorem Room.u2 {k : Nat} {A : Around} (r : Room k A) : A.units + 2 < cLine := by
  have := r.un
  omega
theorem lcW {wi : TI} {g : TG} {tt : TT} {te : TE} {vs : List Nat} {σ : L2.St} {H : Hp} {Q : VK} (h : wi σ H fun J H1 => tLc (fun _ H R => R J H) g tt te vs σ H1 Q) : tLc wi g tt te vs σ H Q := h
theorem for_iterW {wi : TI} {g : TG} {tb : TS} {D : Ends} {σ : L2.St} {H : Hp} (h : wi σ H fun J H1 => tFor (fun _ H R => R J H) g tb D σ H1) : tFor wi g tb D σ H := h
theorem mem_rg {n : Nat} {x : Int} (h0 : 0 ≤ x) (h1 : x < n) : x ∈ rg n := List.mem_map.mpr ⟨x.toNat, List.mem_range.mpr (by omega), by show ((x.toNat : Nat) : Int) = x; omega⟩

/-! ### what many laws need: the same data, a house made -/
theorem same_ok {n : Nat} {H : Hp} {x y : V} {Q : VK} {E : XK} (h : Sm H n x y) (q : Q (.bl true) H) : spSame n [x, y] H Q E := ⟨x, y, rfl, h, q⟩
theorem paired_flat {H : Hp} {n : Nat} {us : List V} (h : ∀ x ∈ us, flat4 x = true) : Paired (Sm H n) us us := by
  induction us with
  | nil => exact Paired.nil
  | cons a l ih => exact Paired.cons (Sm.flat (h a List.mem_cons_self)) (ih fun x hx => h x (List.mem_cons_of_mem _ hx))
theorem sm_flats {H : Hp} {x y : Addr} {us : List V} (hx : H x = some (.lst us)) (hy : H y = some (.lst us)) (h : ∀ x ∈ us, flat4 x = true) (hl : us.length ≤ 100000) (n : Nat) : Sm H (n + 1) (.ref x) (.ref y) :=
  .inr ⟨x, y, _, _, rfl, rfl, .inl ⟨hx, hy⟩, paired_flat h, hl⟩
theorem sm_flatsT {H : Hp} {x y : Addr} {us : List V} (hx : H x = some (.tup us)) (hy : H y = some (.tup us)) (h : ∀ x ∈ us, flat4 x = true) (hl : us.length ≤ 100000) (n : Nat) : Sm H (n + 1) (.ref x) (.ref y) :=
  .inr ⟨x, y, _, _, rfl, rfl, .inr ⟨hx, hy⟩, paired_flat h, hl⟩
theorem flat_intsV (l : List Int) : ∀ x ∈ l.map V.int, flat4 x = true := fun x hx => by
  obtain ⟨i, _, rfl⟩ := List.mem_map.mp hx
  rfl
theorem sm_call {H : Hp} {u v : V} {d : Cl} (hu : IsC H u d) (hv : IsC H v d) (n : Nat) : Sm H (n + 1) u v := by
  obtain ⟨t, rfl, e1⟩ := hu
  obtain ⟨t', rfl, e2⟩ := hv
  exact .inr ⟨t, t', _, _, rfl, rfl, .inr ⟨e1, e2⟩, Paired.cons (Sm.flat rfl) (Paired.cons (Sm.flat rfl) Paired.nil), by show 2 ≤ 100000; decide⟩
theorem sm_logs {H : Hp} {x y : Addr} {us vs : List V} {D : List Cl} (hx : H x = some (.lst us)) (hy : H y = some (.lst vs)) (pu : LG H us D) (pv : LG H vs D) (hl : D.length ≤ 100000) (n : Nat) : Sm H (n + 2) (.ref x) (.ref y) := by
  refine .inr ⟨x, y, _, _, rfl, rfl, .inl ⟨hx, hy⟩, ?_, by rw [pu.len]; exact hl⟩
  clear hx hy hl
  induction pu generalizing vs with
  | nil => cases pv; exact Paired.nil
  | cons r _ ih => cases pv with | cons r2 t2 => exact Paired.cons (sm_call r r2 n) (ih t2)
theorem sm_pair {H : Hp} {u v : V} {d : Pr} (hu : IsP H u d) (hv : IsP H v d) (n : Nat) : Sm H (n + 1) u v := by
  obtain ⟨t, rfl, e1⟩ := hu
  obtain ⟨t', rfl, e2⟩ := hv
  exact .inr ⟨t, t', _, _, rfl, rfl, .inr ⟨e1, e2⟩, Paired.cons (Sm.flat rfl) (Paired.cons (Sm.flat rfl) Paired.nil), by show 2 ≤ 100000; decide⟩
theorem sm_pairs {H : Hp} {x y : Addr} {us vs : List V} {D : List Pr} (hx : H x = some (.lst us)) (hy : H y = some (.lst vs)) (pu : PL H us D) (pv : PL H vs D) (hl : us.length ≤ 100000) (n : Nat) : Sm H (n + 2) (.ref x) (.ref y) := by
  refine .inr ⟨x, y, _, _, rfl, rfl, .inl ⟨hx, hy⟩, ?_, hl⟩
  clear hx hy hl
  induction pu generalizing vs with
  | nil => cases pv; exact Paired.nil
  | cons r _ ih => cases pv with | cons r2 t2 => exact Paired.cons (sm_pair r r2 n) (ih t2)
/-- a method of the class at C that keeps a promise -/
structure Md (P : Program) (w : World) (K : PySem.W.Frag) (mg : Str → Option Value) (base : Heap) (C : Addr) (x : Str) (ps : List Str) (k : Nat) (sp : Sp) (f : Addr) (fd : FuncData) : Prop where
  m : Meth K C x f
  b : Binds K fd ps []
  ok : FnOk P w K mg base CX0 k f fd ps sp
theorem atI_neg {xs : List V} {j : Nat} {v : V} {z : Int} (e : z = -(1 + (j : Int))) (hj : j < xs.length) (g : xs[xs.length - 1 - j]? = some v) : atI xs z = some v := by
  unfold atI
  have e2 : ixN xs.length z = some (xs.length - 1 - j) := by
    unfold ixN
    rw [if_neg (by omega), if_pos (by omega)]
    congr 1
    omega
  rw [e2]
  exact g
theorem paired_append {α β : Type} {F : α → β → Prop} {a c : List α} {b d : List β} (h : Paired F a b) (k : Paired F c d) : Paired F (a ++ c) (b ++ d) := by
  induction h with
  | nil => exact k
  | cons r _ ih => exact Paired.cons r ih

/-! ### min of a list of tuples of ints -/
def dataT (q : List Int) : PyData := .tuple (q.map PyData.int)
def IsT (H : Hp) (v : V) (q : List Int) : Prop := ∃ t, v = .ref t ∧ H t = some (.tup (q.map V.int))
def TL (H : Hp) (us : List V) (L : List (List Int)) : Prop := Paired (IsT H) us L
theorem IsT.same {H H' : Hp} {v : V} {q : List Int} (h : IsT H v q) (s : Same H H') : IsT H' v q := by
  obtain ⟨t, e, ht⟩ := h
  exact ⟨t, e, s _ _ ht⟩
theorem TL.same {H H' : Hp} {us : List V} {L : List (List Int)} (h : TL H us L) (s : Same H H') : TL H' us L := Paired.mapP h fun _ _ q => q.same s
theorem dp_T {K : PySem.W.Frag} {H : Hp} {us : List V} {L : List (List Int)} (h : TL H us L) : DpAll K H us (L.map dataT) := by
  induction h with
  | nil => exact .nil
  | cons r _ ih =>
    obtain ⟨t, rfl, ht⟩ := r
    exact .cons (.tup (SqT.of ht) (dp_ints _)) ih
theorem toksG : ∀ p q : List Int, PyProof.Rows.lexLt itemOrd (PySem.W.keyToksAll (p.map PyData.int)) (PySem.W.keyToksAll (q.map PyData.int)) = true ↔ ltL p q
  | [], [] => by
    rw [PyProof.Rows.lex_irrefl]
    simp [ltL]
  | [], b :: t => by
    show PyProof.Rows.lexLt itemOrd (Sum.inl 0 :: []) (Sum.inl 1 :: Sum.inl b :: PySem.W.keyToksAll (t.map PyData.int)) = true ↔ True
    rw [PyProof.Rows.lex_diff (fun z => by have := Sum.inl.inj z; omega)]
    exact ⟨fun _ => trivial, fun _ => rfl⟩
  | a :: t, [] => by
    show PyProof.Rows.lexLt itemOrd (Sum.inl 1 :: Sum.inl a :: PySem.W.keyToksAll (t.map PyData.int)) (Sum.inl 0 :: []) = true ↔ False
    rw [PyProof.Rows.lex_diff (fun z => by have := Sum.inl.inj z; omega)]
    exact ⟨fun z => (by cases z), fun z => z.elim⟩
  | a :: s, b :: t => by
    show PyProof.Rows.lexLt itemOrd (Sum.inl 1 :: Sum.inl a :: PySem.W.keyToksAll (s.map PyData.int)) (Sum.inl 1 :: Sum.inl b :: PySem.W.keyToksAll (t.map PyData.int)) = true ↔ (a < b ∨ (a = b ∧ ltL s t))
    rw [PyProof.Rows.lex_self]
    by_cases c : a = b
    · subst c
      rw [PyProof.Rows.lex_self, toksG s t]
      exact ⟨fun z => .inr ⟨rfl, z⟩, fun z => z.elim (fun w => absurd w (by omega)) (·.2)⟩
    · rw [PyProof.Rows.lex_diff (fun z => c (Sum.inl.inj z))]
      show decide (a < b) = true ↔ _
      rw [decide_eq_true_iff]
      exact ⟨.inl, fun z => z.elim id fun w => absurd w.1 c⟩
theorem dataLt_T (p q : List Int) : PySem.W.dataLt (dataT p) (dataT q) = true ↔ ltL p q := toksG p q
theorem alike_T (p q : List Int) : PySem.W.alike (dataT p) (dataT q) = true := alike_ints p q
theorem dep_TL (L : List (List Int)) : PyData.depthAll (L.map dataT) ≤ 1 := by
  induction L with
  | nil => exact Nat.zero_le _
  | cons q L ih =>
    show max (PyData.depthAll (q.map PyData.int) + 1) (PyData.depthAll (L.map dataT)) ≤ 1
    rw [dep_ints]
    exact Nat.max_le.mpr ⟨Nat.le_refl _, ih⟩
theorem minD_T : ∀ (L : List (List Int)) (q : List Int), ∃ m ∈ q :: L, PySem.W.minD (dataT q) (L.map dataT) = dataT m ∧ ∀ p ∈ q :: L, m = p ∨ ltL m p
  | [], q => ⟨q, List.mem_cons_self, rfl, fun p hp => .inl (List.mem_singleton.mp hp).symm⟩
  | y :: L, q => by
    have e : PySem.W.minD (dataT q) ((y :: L).map dataT) = PySem.W.minD (if PySem.W.dataLt (dataT y) (dataT q) then dataT y else dataT q) (L.map dataT) := rfl
    by_cases c : ltL y q
    · rw [(dataLt_T y q).mpr c, if_pos rfl] at e
      obtain ⟨m, hm, em, le⟩ := minD_T L y
      refine ⟨m, List.mem_cons_of_mem _ hm, e.trans em, fun p hp => ?_⟩
      rcases List.mem_cons.mp hp with h | h
      · rw [h]
        rcases le y List.mem_cons_self with z | z
        · rw [z]; exact .inr c
        · exact .inr (ltL_trans z c)
      · exact le p h
    · have nc : ¬ PySem.W.dataLt (dataT y) (dataT q) = true := fun z => c ((dataLt_T y q).mp z)
      rw [if_neg nc] at e
      obtain ⟨m, hm, em, le⟩ := minD_T L q
      refine ⟨m, ?_, e.trans em, fun p hp => ?_⟩
      · rcases List.mem_cons.mp hm with h | h
        · rw [h]; exact List.mem_cons_self
        · exact List.mem_cons_of_mem _ (List.mem_cons_of_mem _ h)
      · rcases List.mem_cons.mp hp with h | h
        · exact le p (by rw [h]; exact List.mem_cons_self)
        · rcases List.mem_cons.mp h with h | h
          · rw [h]
            rcases le q List.mem_cons_self with z | z
            · rw [z]
              rcases ltL_tri q y with w | w | w
              · exact .inl w
              · exact .inr w
              · exact absurd w c
            · rcases ltL_tri q y with w | w | w
              · exact .inr (by rw [← w]; exact z)
              · exact .inr (ltL_trans z w)
              · exact absurd w c
          · exact le p (List.mem_cons_of_mem _ h)
theorem dataT_inj {p q : List Int} (h : dataT p = dataT q) : p = q := by
  unfold dataT at h
  have h2 : p.map PyData.int = q.map PyData.int := PyData.tuple.inj h
  exact List.map_inj_right (fun a b e => PyData.int.inj e) |>.mp h2
def rMinT (K : PySem.W.Frag) : List V → Hp → VK → Prop := fun vs H Q => ∃ (a : Addr) (us : List V) (L : List (List Int)), vs = [.ref a] ∧ SqL K H a us ∧ TL H us L ∧ L ≠ [] ∧ ∀ (v : V) (q : List Int), v ∈ us → IsT H v q → q ∈ L → (∀ p ∈ L, q = p ∨ ltL q p) → Q v H
theorem cr_minT {X : Cx} (hc : X.calm = true) (hu : X.A.units + 2 < cLine) : CallR X (.builtin "min") (rMinT X.K) := by
  intro pins s σ H vs us0 Q I r h
  obtain ⟨a, us, L, rfl, hs, tl, ne, q⟩ := h
  obtain ⟨its, rv, hl, _⟩ := I.list hs
  rw [Vals.ref1 r]
  cases L with
  | nil => exact absurd rfl ne
  | cons q0 L =>
    have dp := dp_T (K := X.K) tl
    obtain ⟨as, hr⟩ := Dp.readsAll I ((q0 :: L).map dataT) us its dp rv
    obtain ⟨m, hm, em, le⟩ := minD_T L q0
    refine PySem.W.min_list_data (x := dataT q0) (xs := L.map dataT) (I.ok.hd hc) hl.isList (by simpa using hr) ⟨fun x hx y hy => ?_, fun x hx => ?_⟩ ?_ fun i v h' tk bs hv hb hk => ?_
    · obtain ⟨p1, _, rfl⟩ := List.mem_map.mp (show x ∈ (q0 :: L).map dataT from hx)
      obtain ⟨p2, _, rfl⟩ := List.mem_map.mp (show y ∈ (q0 :: L).map dataT from hy)
      exact alike_T p1 p2
    · obtain ⟨p1, _, rfl⟩ := List.mem_map.mp (show x ∈ (q0 :: L).map dataT from hx)
      intro z
      cases z
    · have := dep_TL (q0 :: L)
      show X.A.units + 1 + PyData.depthAll ((q0 :: L).map dataT) < cLine
      omega
    · have hv2 : its[i]? = some v := by simpa using hv
      have hi := (List.getElem?_eq_some_iff.mp hv2).1
      have ul := rv.length
      obtain ⟨u, hu'⟩ : ∃ u, us[i]? = some u := ⟨us[i]'(by omega), List.getElem?_eq_getElem (by omega)⟩
      obtain ⟨v', hv', rel⟩ := rv.get hu'
      have ev := Option.some.inj (hv'.symm.trans hv2)
      subst ev
      obtain ⟨d, hd, isd⟩ := pget tl hu'
      have dpd : Dp X.K H u (dataT d) := by
        obtain ⟨t, rfl, ht⟩ := isd
        exact .tup (SqT.of ht) (dp_ints _)
      obtain ⟨as2, r2⟩ := Dp.reads I (dataT d) u v' dpd rel
      have eq := (PySem.Reads.unique (PySem.W.reads_keeps hk r2) _ _ hb).1
      rw [em] at eq
      have edm := dataT_inj eq
      subst edm
      exact ⟨u, H, I.kept hk, rel, q u d (List.mem_of_getElem? hu') isd hm le⟩

local macro_rules | `(tactic| walk_at "rg") => `(tactic| try simp only [cxK, cxK2, cxP, cxW, L2.start, List.length_cons, List.length_nil, List.replicate_succ, List.replicate_zero, List.map_cons, List.map_nil, List.cons_append, List.nil_append, gName, gNil, gCons, gTup, gSub, List.getElem?_cons_zero, List.getElem?_cons_succ, Option.some.injEq, List.cons.injEq, V.int.injEq, V.ref.injEq, V.bl.injEq, V.str.injEq, exists_eq_left', exists_eq_left, exists_eq_right, exists_eq_right', true_and, and_true, and_assoc, exists_and_left, exists_and_right, List.set_cons_zero, List.set_cons_succ, List.append_nil, reduceCtorEq, false_and, and_false, exists_false, or_false, false_or, decide_eq_true_eq, Nat.reduceAdd, Nat.reduceSub])
abbrev sLre : Stmt := topS 14
abbrev sLpc : Stmt := topS 0
theorem inI (j : Int) (l : List Int) : inV (.int j) (l.map V.int) = decide (j ∈ l) := by
  induction l with
  | nil => rfl
  | cons x l ih =>
    have e : inV (.int j) ((x :: l).map V.int) = (eqV (.int x) (.int j) || inV (.int j) (l.map V.int)) := rfl
    rw [e, ih]
    have e2 : eqV (.int x) (.int j) = decide (x = j) := by
      unfold eqV
      by_cases h : x = j
      · subst h
        simp
      · simp [h]
    rw [e2]
    by_cases h : j = x
    · subst h
      simp
    · have h' : ¬ x = j := fun z => h z.symm
      simp [h, h']
theorem flI (l : List Int) : (l.map V.int).all flatV = true := by
  rw [List.all_eq_true]
  intro v hv
  obtain ⟨x, _, rfl⟩ := List.mem_map.mp hv
  rfl
theorem same_sqT {K : PySem.W.Frag} {H H' : Hp} {a : Addr} {xs : List V} (e : Same H H') (h : SqT K H a xs) : SqT K H' a xs := by
  rcases h with (h | ⟨o, h⟩) | h
  · exact .inl (.inl (e _ _ h))
  · exact .inl (.inr ⟨o, e _ _ h⟩)
  · exact .inr h
theorem up_of {ys ks : List Int} (p : ys.Perm ks) (nd : ks.Nodup) (s : ys.Pairwise (· ≤ ·)) : Up ys := by
  have n2 : ys.Nodup := p.nodup_iff.mpr nd
  unfold Up
  refine List.Pairwise.imp (fun {a b} (h : a ≤ b ∧ a ≠ b) => by omega) (List.Pairwise.and s n2)
theorem lget {α β : Type} {F : α → β → Prop} : ∀ {vs : List α} {D : List β} {i : Nat} {v : α}, Paired F vs D → vs[i]? = some v → ∃ d, D[i]? = some d ∧ F v d
  | _, _, _, _, Paired.nil, e => by simp at e
  | _, _, 0, v, .cons r _, e => by
    have e2 := Option.some.inj e
    subst e2
    exact ⟨_, rfl, r⟩
  | _, _, i + 1, v, .cons _ t, e => lget (i := i) t e
def SeqI (K : PySem.W.Frag) (H : Hp) (o : Addr) (R : List Int) : Prop := SqL K H o (R.map V.int) ∨ SqT K H o (R.map V.int)
theorem SeqI.same {K : PySem.W.Frag} {H H' : Hp} {o : Addr} {R : List Int} (h : SeqI K H o R) (s : Same H H') : SeqI K H' o R := by
  rcases h with h | h
  · exact .inl (s.seq h)
  · exact .inr (same_sqT s h)
theorem int_sub_len {l m : List Int} (nd : l.Nodup) (h : ∀ x ∈ l, x ∈ m) (p : ∀ x ∈ m, 0 ≤ x) : l.length ≤ m.length := by
  have h1 : (l.map Int.toNat).Nodup := by
    refine List.pairwise_map.mpr (List.Pairwise.imp_of_mem (fun {x y} hx hy ne e => ?_) nd)
    have b1 := p x (h x hx)
    have b2 := p y (h y hy)
    omega
  have h2 := nat_nodup_len _ (m.map Int.toNat) h1 fun c hc => by
    obtain ⟨x, hx, rfl⟩ := List.mem_map.mp hc
    exact List.mem_map.mpr ⟨x, h x hx, rfl⟩
  rw [List.length_map, List.length_map] at h2
  exact h2
theorem FInv.full {D : List Pr} {R F : List Int} {s : Int} (h : FInv D R s F) (p : ∀ x ∈ R, 0 ≤ x) (l : R.length ≤ F.length) : Clo D R F := fun a ha b hb ab => Classical.byContradiction fun n => by
  have h2 := h.add ha hb ab n
  have := int_sub_len h2.nd (fun x hx => (h2.rc x hx).mem) p
  rw [List.length_append] at this
  have e : F.length + 1 ≤ R.length := this
  omega
/-- the doors so far lead nowhere new -/
def Cl1 (R F : List Int) (E : List Pr) : Prop := ∀ d ∈ E, (d.1 ∈ F → d.2 ∈ R → d.2 ∈ F) ∧ (d.2 ∈ F → d.1 ∈ R → d.1 ∈ F)
theorem Cl1.clo {D : List Pr} {R F : List Int} (h : Cl1 R F D) : Clo D R F := fun a ha b hb ab => by
  rcases ab with m | m
  · exact (h _ m).1 ha hb
  · exact (h _ m).2 ha hb
theorem half {K : PySem.W.Frag} {i j : Nat} {x y : Int} {fnd o : Addr} {Fc R : List Int} {D : Ends} {σ : L2.St} {H : Hp} (g1 : σ[i]? = some (some (.int x))) (g2 : σ[j]? = some (some (.int y))) (g3 : σ[3]? = some (some (.ref fnd))) (g4 : σ[2]? = some (some (.ref o))) (hf : H fnd = some (.lst (Fc.map V.int))) (ho : SeqI K H o R) (hl : Fc.length ≤ 1000)
    (no : ¬ (x ∈ Fc ∧ y ∈ R ∧ y ∉ Fc) → D.nx σ H) (yes : x ∈ Fc → y ∈ R → y ∉ Fc → D.nx σ (upd H fnd (.lst ((Fc ++ [y]).map V.int)))) :
    tIfS (tAnd (tTest (tOp (rIn K false) (tVar i) (tVar 3))) (tAnd (tTest (tOp (rIn K false) (tVar j) (tVar 2))) (tTest (tOp (rIn K true) (tVar j) (tVar 3))))) (tDrop (tBM K "list" rAppend (tVar 3) (tCons (tVar j) tNil))) tNext D σ H := by
  refine ⟨_, g1, _, g3, fnd, _, rfl, .inl (SqL.of hf), rfl, flI _, ?_⟩
  rw [inI]
  refine ⟨_, rfl, ?_⟩
  by_cases h1 : x ∈ Fc
  · rw [decide_eq_true h1]
    refine iteT ⟨_, g2, _, g4, o, _, rfl, ho, rfl, flI _, ?_⟩
    rw [inI]
    refine ⟨_, rfl, ?_⟩
    by_cases h2 : y ∈ R
    · rw [decide_eq_true h2]
      refine iteT ⟨_, g2, _, g3, fnd, _, rfl, .inl (SqL.of hf), rfl, flI _, ?_⟩
      rw [inI]
      refine ⟨_, rfl, ?_⟩
      by_cases h3 : y ∈ Fc
      · rw [decide_eq_true h3]
        exact iteF (no fun z => z.2.2 h3)
      · rw [decide_eq_false h3]
        refine iteT ⟨_, g3, .inl ⟨rfl, _, SqL.of hf⟩, _, g2, ?_⟩
        walk_at "rd"
        refine ⟨_, hf, len_big (by rw [List.length_map]; omega), ?_⟩
        have q := yes h1 h2 h3
        rw [List.map_append] at q
        exact q
    · rw [decide_eq_false h2]
      exact iteF (no fun z => h2 z.2.1)
  · rw [decide_eq_false h1]
    exact iteF (no fun z => h1 z.1)
section
variable {P : Program} {w : World} {K : PySem.W.Frag} {mg : Str → Option Value} {base : Heap}
theorem scLre : FnScope ["doors", "start", "inside", "found", "k", "before", "a", "b"] ["doors", "start", "inside"] (defScope sLre) := ⟨rfl, rfl, rfl, by decide +kernel, rfl, by decide +kernel, by decide +kernel⟩
def spLre (K : PySem.W.Frag) : Sp := fun vs H Q _ => ∃ (l o : Addr) (s : Int) (us : List V) (D : List Pr) (R : List Int), vs = [.ref l, .int s, .ref o] ∧ H l = some (.lst us) ∧ PL H us D ∧ SeqI K H o R ∧ R.length < 64 ∧ (∀ x ∈ R, 0 ≤ x) ∧
  ∀ (ys : List Int) (t : Addr) (H' : Hp), Pc D R s ys → Same H H' → H t = none → H' t = some (.lst (ys.map V.int)) → Q (.ref t) H'
theorem ok_lre {f : Addr} {fd : FuncData} (F : Fun K "_law_reach" "_law_reach" sLre f fd) (T : Bi mg) : FnOk P w K mg base CX0 1 f fd ["doors", "start", "inside"] (spLre K) := by
  refine F.ok scLre (fun vs H Q E h => ?_) (fun cdv A outer s0 H vs Q E hr h => ?_)
  · obtain ⟨l, o, s, us, D, R, rfl, _⟩ := h
    rfl
  · obtain ⟨l, o, s, us, D, R, rfl, hl, pl, ho, h64, hR, ret⟩ := h
    refine ⟨_, (pss_cons (ps_set (i := 3) scLre.nd rfl (Or.inl rfl) (pe_lst pa_nil))
      (pss_cons (ps_if (pt_cmpR op_in_seq (pv 1) (pv 2) (by rfl))
      (pss_one (ps_expr (pe_bm PySem.F.plainAttrs_list PySem.F.slot_list_append PySem.F.type_list_append mt_append (pv 3) (pa_cons (pv 1) pa_nil))))
      pss_nil)
      (pss_cons (ps_for PassesOwn.never rfl (pi_range1 (by rfl) T.range (pa_cons (pe_callB call_len_seq (by rfl) T.len (by decide +kernel) (pa_cons (pv 2) pa_nil)) pa_nil)) (pg_name (i := 4) scLre.nd rfl (Or.inl rfl))
      (pss_cons (ps_set (i := 5) scLre.nd rfl (Or.inl rfl) (pe_callB call_len_seq (by rfl) T.len (by decide +kernel) (pa_cons (pv 3) pa_nil)))
        (pss_cons (ps_for PassesOwn.never rfl (pi_list (pv 0)) (pg_tup rfl (pgs_cons (pg_name (i := 6) scLre.nd rfl (Or.inl rfl)) (pgs_cons (pg_name (i := 7) scLre.nd rfl (Or.inl rfl)) pgs_nil)))
        (pss_cons (ps_if (PW.pt (pw_and (pt_cmpR op_in_seq (pv 6) (pv 3) (by rfl)) (pw_and (pt_cmpR op_in_seq (pv 7) (pv 2) (by rfl)) (pw_and1 (pt_cmpR op_notIn_seq (pv 7) (pv 3) (by rfl))))))
          (pss_one (ps_expr (pe_bm PySem.F.plainAttrs_list PySem.F.slot_list_append PySem.F.type_list_append mt_append (pv 3) (pa_cons (pv 7) pa_nil))))
          pss_nil)
          (pss_one (ps_if (PW.pt (pw_and (pt_cmpR op_in_seq (pv 7) (pv 3) (by rfl)) (pw_and (pt_cmpR op_in_seq (pv 6) (pv 2) (by rfl)) (pw_and1 (pt_cmpR op_notIn_seq (pv 6) (pv 3) (by rfl))))))
          (pss_one (ps_expr (pe_bm PySem.F.plainAttrs_list PySem.F.slot_list_append PySem.F.type_list_append mt_append (pv 3) (pa_cons (pv 6) pa_nil))))
          pss_nil))))
        (pss_one (ps_if (pt_cmpR op_eqI (pe_callB call_len_seq (by rfl) T.len (by decide +kernel) (pa_cons (pv 3) pa_nil)) (pv 5) (nomark _))
        (pss_one (ps_break))
        pss_nil)))))
      (pss_one (ps_ret (pe_callB cr_sorted (by rfl) T.sorted (by decide +kernel) (pa_cons (pv 3) pa_nil))))))), ?_⟩
    walk_at "rd"
    refine ⟨Nat.zero_le _, fun fnd nf => ?_⟩
    have s1 : Same H (upd H fnd (HO.lst [])) := same_upd nf
    refine ⟨o, _, rfl, ho.same s1, rfl, flI _, ?_⟩
    rw [inI]
    refine ⟨_, rfl, ?_⟩
    by_cases m : s ∈ R
    rw [decide_eq_true m]
    refine iteT ?_
    walk_at "rd"
    refine ⟨.inl ⟨rfl, _, SqL.of upd_same⟩, [], upd_same, by decide, ?_⟩
    have s2 : Same H (upd (upd H fnd (HO.lst [])) fnd (HO.lst ([] ++ [V.int s]))) := same_ch s1 nf
    have pk : ∃ F0 : List Int, upd (upd H fnd (HO.lst [])) fnd (HO.lst ([] ++ [V.int s])) fnd = some (.lst (F0.map V.int)) ∧ FInv D R s F0 :=
      ⟨[s], upd_same, (by simp), fun x hx => (by rw [List.mem_singleton.mp hx]; exact .base m), fun _ => List.mem_cons_self⟩
    generalize upd (upd H fnd (HO.lst [])) fnd (HO.lst ([] ++ [V.int s])) = H1 at s2 pk
    rotate_left
    rw [decide_eq_false m]
    refine iteF ?_
    have s2 := s1
    have pk : ∃ F0 : List Int, upd H fnd (HO.lst []) fnd = some (.lst (F0.map V.int)) ∧ FInv D R s F0 := ⟨[], upd_same, List.nodup_nil, fun x hx => (by cases hx), fun z => absurd z m⟩
    generalize upd H fnd (HO.lst []) = H1 at s1 s2 pk
    all_goals
      clear s1
      obtain ⟨F0, hF0, fi0⟩ := pk
      have ul : us.length = D.length := pl.len
      have flen : ∀ F : List Int, FInv D R s F → F.length ≤ R.length := fun F fi => int_sub_len fi.nd (fun x hx => (fi.rc x hx).mem) hR
      refine for_iterW ?_
      walk_at "rd"
      obtain ⟨Pv, hPv⟩ : ∃ Pv : Nat → L2.St → Hp → Prop, Pv = (fun i σ H' => ∃ (F : List Int) (v4 v5 v6 v7 : Option V), σ = [some (.ref l), some (.int s), some (.ref o), some (.ref fnd), v4, v5, v6, v7] ∧ Same H H' ∧ H' fnd = some (.lst (F.map V.int)) ∧ FInv D R s F ∧ i ≤ F.length) := ⟨_, rfl⟩
      refine ⟨R.map V.int, ho.same s2, by rw [List.length_map]; omega, by rw [List.length_map]; omega, for_range (lo := 0) (n := (((R.map V.int).length : Nat) : Int).toNat) Pv (by rw [hPv]; exact ⟨F0, none, none, none, none, rfl, s2, hF0, fi0, Nat.zero_le _⟩) (fun i σ H2 hi pv => ?body) (fun σ H2 pv => ?done)⟩
      case done =>
        rw [hPv] at pv
        obtain ⟨F, v4, v5, v6, v7, rfl, sm, hF, fi, le⟩ := pv
        rw [List.length_map, Int.toNat_natCast] at le
        have clo := fi.full hR le
        have fl := flen F fi
        walk_at "rd"
        refine ⟨_, F, rfl, SqL.of hF, by omega, fun ys t pm so nt => ?_⟩
        exact ret ys t _ ⟨up_of pm fi.nd so, fun x => pm.mem_iff.trans (fi.all clo x)⟩ (sm.trans (same_upd nt)) (sm.free nt) upd_same
      case body =>
        rw [hPv] at pv
        obtain ⟨F, v4, v5, v6, v7, rfl, sm, hF, fi, le⟩ := pv
        have hl2 := sm _ _ hl
        have pl2 := pl.kt (KT.same sm)
        walk_at "rg"
        refine ⟨_, rfl, fnd, rfl, F.map V.int, .inl (SqL.of hF), ?_⟩
        walk_at "rg"
        refine for_iterW ?_
        obtain ⟨Pw, hPw⟩ : ∃ Pw : Nat → L2.St → Hp → Prop, Pw = (fun j σ H' => ∃ (G : List Int) (v6 v7 : Option V), σ = [some (.ref l), some (.int s), some (.ref o), some (.ref fnd), some (.int (0 + (i : Int))), some (.int ((F.map V.int).length : Nat)), v6, v7] ∧ Same H H' ∧ H' fnd = some (.lst ((F ++ G).map V.int)) ∧ FInv D R s (F ++ G) ∧ (G = [] → Cl1 R F (D.take j))) := ⟨_, rfl⟩
        refine ⟨_, rfl, l, rfl, ⟨_, SqL.of hl2⟩, for_list (K := K) (a := l) (xs := us) Pw (by rw [hPw]; exact ⟨[], v6, v7, rfl, sm, by rw [List.append_nil]; exact hF, by rw [List.append_nil]; exact fi, fun _ d hd => by rw [List.take_zero] at hd; cases hd⟩) (fun j σ H' _ pv => by rw [hPw] at pv; obtain ⟨_, _, _, _, s5, _⟩ := pv; exact SqL.of (s5 _ _ hl)) (fun j v σ H3 gv pv => ?inner) (fun σ H3 pv => ?after)⟩
        case after =>
          rw [hPw] at pv
          obtain ⟨G, v6, v7, rfl, s5, hG, fi5, cl5⟩ := pv
          rw [ul, List.take_length] at cl5
          have fl := flen _ fi5
          rw [List.length_append] at fl
          walk_at "rd"
          refine ⟨_, .inl (SqL.of hG), ?_⟩
          rw [List.length_map, List.length_map, List.length_append]
          cases G with
          | nil =>
            rw [List.append_nil] at hG fi5
            refine ite2 (fun _ => ?_) (fun z => (by simp at z))
            refine ⟨_, F, rfl, SqL.of hG, by omega, fun ys t pm so nt => ?_⟩
            exact ret ys t _ ⟨up_of pm fi5.nd so, fun x => pm.mem_iff.trans (fi5.all (cl5 rfl).clo x)⟩ (s5.trans (same_upd nt)) (s5.free nt) upd_same
          | cons g0 G =>
            refine ite2 (fun z => absurd z (by rw [List.length_cons]; omega)) (fun _ => ?_)
            rw [hPv]
            exact ⟨F ++ g0 :: G, _, _, _, _, rfl, s5, hG, fi5, by rw [List.length_append, List.length_cons]; omega⟩
        case inner =>
          have nxt : ∀ (G : List Int) (v6 v7 : Option V) (H' : Hp), Same H H' → H' fnd = some (.lst ((F ++ G).map V.int)) → FInv D R s (F ++ G) → (G = [] → Cl1 R F (D.take (j + 1))) → Pw (j + 1) [some (.ref l), some (.int s), some (.ref o), some (.ref fnd), some (.int (0 + (i : Int))), some (.int ((F.map V.int).length : Nat)), v6, v7] H' := fun G v6 v7 H' h1 h2 h3 h4 => by
            rw [hPw]
            exact ⟨G, v6, v7, rfl, h1, h2, h3, h4⟩
          rw [hPw] at pv
          obtain ⟨G, v6, v7, rfl, s5, hG, fi5, cl5⟩ := pv
          obtain ⟨d, gd, td, rfl, htd⟩ := lget pl gv
          have fl := flen _ fi5
          have dD : d ∈ D := List.mem_of_getElem? gd
          have tk : D.take (j + 1) = D.take j ++ [d] := by rw [List.take_add_one, gd]; rfl
          rw [tk] at nxt
          walk_at "rg"
          refine ⟨_, SqT.of (s5 _ _ htd), rfl, _, _, rfl, _, _, rfl, rfl, ?_⟩
          walk_at "rg"
          refine half (R := R) rfl rfl rfl rfl hG (ho.same s5) (by omega) (fun n1 => ?_) (fun a1 b1 c1 => ?_)
          · refine half (R := R) rfl rfl rfl rfl hG (ho.same s5) (by omega) (fun n2 => ?_) (fun a2 b2 c2 => ?_)
            · refine nxt G _ _ H3 s5 hG fi5 fun e => ?_
              subst e
              rw [List.append_nil] at n1 n2
              intro c hc
              rcases List.mem_append.mp hc with z | z
              · exact cl5 rfl c z
              · rw [List.mem_singleton.mp z]
                exact ⟨fun h1 h2 => Classical.byContradiction fun h3 => n1 ⟨h1, h2, h3⟩, fun h1 h2 => Classical.byContradiction fun h3 => n2 ⟨h1, h2, h3⟩⟩
            · rw [List.append_assoc]
              refine nxt (G ++ [d.1]) _ _ _ (same_ch s5 nf) (by rw [upd_same]) ?_ (fun e => absurd e (by simp))
              rw [← List.append_assoc]
              exact fi5.add a2 b2 (.inr dD) c2
          · have fi6 := fi5.add a1 b1 (.inl dD) c1
            have fl6 := flen _ fi6
            have s6 := same_ch (o := HO.lst ((F ++ G ++ [d.2]).map V.int)) s5 nf
            have hG6 : upd H3 fnd (HO.lst ((F ++ G ++ [d.2]).map V.int)) fnd = some (.lst ((F ++ G ++ [d.2]).map V.int)) := upd_same
            generalize upd H3 fnd (HO.lst ((F ++ G ++ [d.2]).map V.int)) = H6 at s6 hG6
            refine half (R := R) rfl rfl rfl rfl hG6 (ho.same s6) (by omega) (fun n2 => ?_) (fun a2 b2 c2 => ?_)
            · refine nxt (G ++ [d.2]) _ _ H6 s6 (by rw [← List.append_assoc]; exact hG6) (by rw [← List.append_assoc]; exact fi6) (fun e => absurd e (by simp))
            · rw [List.append_assoc, List.append_assoc]
              refine nxt (G ++ ([d.2] ++ [d.1])) _ _ _ (same_ch s6 nf) (by rw [upd_same]) ?_ (fun e => absurd e (by simp))
              rw [← List.append_assoc, ← List.append_assoc]
              exact fi6.add a2 b2 (.inr dD) c2
end

abbrev sLwd : Stmt := topS 11
abbrev sLws : Stmt := topS 12
abbrev sLlg : Stmt := topS 13
section
variable {P : Program} {w : World} {K : PySem.W.Frag} {mg : Str → Option Value} {base : Heap}
theorem scLwd : FnScope ["a", "b", "letters", "word", "k"] ["a", "b"] (defScope sLwd) := ⟨rfl, rfl, rfl, by decide +kernel, rfl, by decide +kernel, by decide +kernel⟩
def spLwd : Sp := fun vs H Q _ => ∃ (x y : Int), vs = [.int x, .int y] ∧ ∀ z : Str, wk 8 z → 1 ≤ z.length → Q (.str z) H
theorem ok_lwd {f : Addr} {fd : FuncData} (F : Fun K "_law_word" "_law_word" sLwd f fd) (T : Bi mg) : FnOk P w K mg base CX0 1 f fd ["a", "b"] spLwd := by
  refine F.ok scLwd (fun vs H Q E h => ?_) (fun cdv A outer s H vs Q E hr h => ?_)
  · obtain ⟨x, y, rfl, _⟩ := h
    rfl
  · obtain ⟨x, y, rfl, q⟩ := h
    refine ⟨_, (pss_cons (ps_set (i := 2) scLwd.nd rfl (Or.inl rfl) pe_str)
      (pss_cons (ps_set (i := 3) scLwd.nd rfl (Or.inl rfl) pe_str)
      (pss_cons (ps_for PassesOwn.never rfl (pi_range1 (by rfl) T.range (pa_cons (pe_op op_add pe_int (pe_op op_mod (pe_callTy cr_intI (by rfl) T.int (by decide +kernel) (pa_cons (pv 0) pa_nil)) pe_int)) pa_nil)) (pg_name (i := 4) scLwd.nd rfl (Or.inl rfl))
      (pss_one (ps_set (i := 3) scLwd.nd rfl (Or.inl rfl) (pe_op op_add_str (pv 3) (pe_ix ix_str (pv 2) (pe_op op_mod (pe_callTy cr_intI (by rfl) T.int (by decide +kernel) (pa_cons (pe_op op_add (pv 1) (pe_op op_mul (pv 4) (pe_op op_fdiv (pv 0) pe_int))) pa_nil)) pe_int) (fun _ _ => rfl))))))
      (pss_one (ps_ret (pv 3)))))), ?_⟩
    walk_at "rd"
    have m0 := Int.emod_nonneg x (show (8 : Int) ≠ 0 by decide)
    have m1 := Int.emod_lt_of_pos x (show (0 : Int) < 8 by decide)
    obtain ⟨Pv, hPv⟩ : ∃ Pv : Nat → L2.St → Hp → Prop, Pv = (fun i σ H' => ∃ (z : Str) (v4 : Option V), σ = [some (.int x), some (.int y), some (.str (Str.ofString "abcdefghijklmnopqrstuvwxyz")), some (.str z), v4] ∧ H' = H ∧ z.length = i ∧ PyData.strOk z = true) := ⟨_, rfl⟩
    refine for_iterW ?_
    walk_at "rd"
    refine ⟨by decide, by omega, by omega, for_range (lo := 0) (n := (1 + x % 8).toNat) Pv (by rw [hPv]; exact ⟨_, none, rfl, rfl, by decide +kernel, by decide +kernel⟩) (fun i σ H' hi pv => ?_) (fun σ H' pv => ?_)⟩
    · have nxt : ∀ z v4, z.length = i + 1 → PyData.strOk z = true → Pv (i + 1) [some (.int x), some (.int y), some (.str (Str.ofString "abcdefghijklmnopqrstuvwxyz")), some (.str z), v4] H := fun z v4 h h2 => by
        rw [hPv]
        exact ⟨z, v4, rfl, rfl, h, h2⟩
      rw [hPv] at pv
      obtain ⟨z, v4, rfl, rfl, lz, oz⟩ := pv
      have k0 := Int.emod_nonneg (y + (0 + (i : Int)) * (x / 8)) (show (26 : Int) ≠ 0 by decide)
      have k1 := Int.emod_lt_of_pos (y + (0 + (i : Int)) * (x / 8)) (show (0 : Int) < 26 by decide)
      obtain ⟨j, ej⟩ : ∃ j : Nat, (y + (0 + (i : Int)) * (x / 8)) % 26 = j := ⟨((y + (0 + (i : Int)) * (x / 8)) % 26).toNat, by omega⟩
      obtain ⟨c, gc, c11⟩ := letters_at (j := j) (by omega)
      walk_at "rd"
      rw [ej]
      refine ⟨⟨by decide, by decide⟩, .inl (by constructor <;> omega), by decide, by decide +kernel, c, gc, ?_, nxt _ _ ?_ (strOk_app oz (strOk_one c11))⟩
      · have e1 : (Str.mk #[c]).length = 1 := rfl
        rw [e1]
        exact Nat.le_of_lt (len_big (by omega))
      · rw [Str.length_append, lz]
        rfl
    · rw [hPv] at pv
      obtain ⟨z, v4, rfl, rfl, lz, oz⟩ := pv
      walk_at "rd"
      exact q z ⟨by omega, oz⟩ (by omega)
theorem scLws : FnScope ["numbers", "at", "many", "k", "words", "place", "letter"] ["numbers", "at", "many"] (defScope sLws) := ⟨rfl, rfl, rfl, by decide +kernel, rfl, by decide +kernel, by decide +kernel⟩
/-- n words -/
def Words (n : Nat) (Z : List Str) : Prop := Z.length = n ∧ ∀ z ∈ Z, wk 17 z
def spLws (K : PySem.W.Frag) : Sp := fun vs H Q _ => ∃ (a : Addr) (ns : List Int) (at_ m : Nat), vs = [.ref a, .int at_, .int m] ∧ SqL K H a (ns.map V.int) ∧ at_ + 2 * m ≤ ns.length ∧ 1 ≤ m ∧ m ≤ 100 ∧ ∀ Z p H', Words m Z → Same H H' → H p = none → H' p = some (.lst (Z.map V.str)) → Q (.ref p) H'
theorem ok_lws {f fS : Addr} {fd fdS : FuncData} (F : Fun K "_law_words" "_law_words" sLws f fd) (T : Bi mg) (d__law_word : Df P w K mg base "_law_word" ["a", "b"] 1 spLwd fS fdS) : FnOk P w K mg base CX0 2 f fd ["numbers", "at", "many"] (spLws K) := by
  refine F.ok scLws (fun vs H Q E h => ?_) (fun cdv A outer s H vs Q E hr h => ?_)
  · obtain ⟨a, ns, at_, m, rfl, _⟩ := h
    rfl
  · obtain ⟨a, ns, at_, m, rfl, hS, hn, m1, m100, q⟩ := h
    refine ⟨_, (pss_cons (ps_setLc (i := 4) (own := [("k", 3)]) (te := tCall spLwd [] E0 (tCons (tOp (rIxL K) (tVar 0) (tOp (rI0 fun i j => V.int (i + j)) (tVar 1) (tOp (rI CMul fun i j => V.int (i * j)) (tC (V.int 2)) (tVar 3)))) (tCons (tOp (rIxL K) (tVar 0) (tOp (rI0 fun i j => V.int (i + j)) (tOp (rI0 fun i j => V.int (i + j)) (tVar 1) (tOp (rI CMul fun i j => V.int (i * j)) (tC (V.int 2)) (tVar 3))) (tC (V.int 1)))) tNil))) (by rfl) scLws.nd rfl rfl (sw_true rfl rfl rfl (by decide +kernel)) (pi_range1 (by rfl) T.range (pa_cons (pv 2) pa_nil)) (blkOk_by (N := ["numbers", "at", "many", "k", "words", "place", "letter"]) (sc := defScope sLws) (by decide +kernel)) (fun _ _ _ _ _ => pg_name (i := 3) scLws.nd rfl (Or.inl rfl)) (fun _ _ _ _ _ => pts_nil) (fun _ _ _ _ _ => (pe_call d__law_word.ok (hr.mono (by decide)) (by rfl) d__law_word.at_ d__law_word.kp d__law_word.b .nil pass0 (pa_cons (pe_ix ix_list (pv 0) (pe_op op_add (pv 1) (pe_op op_mul pe_int (pv 3))) (fun _ _ => rfl)) (pa_cons (pe_ix ix_list (pv 0) (pe_op op_add (pe_op op_add (pv 1) (pe_op op_mul pe_int (pv 3))) pe_int) (fun _ _ => rfl)) pa_nil)))))
      (pss_cons (ps_if (pt_cmpR op_eqI (pe_op op_mod (pe_op op_fdiv (pe_callTy cr_intI (by rfl) T.int (by decide +kernel) (pa_cons (pe_ix ix_list (pv 0) (pv 1) (fun _ _ => rfl)) pa_nil)) pe_int) pe_int) pe_int (nomark _))
      (pss_one (ps_for PassesOwn.never rfl (pi_range2 (by rfl) T.range (pa_cons pe_int (pa_cons (pv 2) pa_nil))) (pg_name (i := 3) scLws.nd rfl (Or.inl rfl))
        (pss_cons (ps_set (i := 5) scLws.nd rfl (Or.inl rfl) (pe_op op_mod (pe_callTy cr_intI (by rfl) T.int (by decide +kernel) (pa_cons (pe_ix ix_list (pv 0) (pe_op op_add (pv 1) (pe_op op_mul pe_int (pv 3))) (fun _ _ => rfl)) pa_nil)) (pe_callB call_len_str (by rfl) T.len (by decide +kernel) (pa_cons (pe_ix ix_list (pv 4) pe_int (fun _ _ => rfl)) pa_nil))))
          (pss_cons (ps_set (i := 6) scLws.nd rfl (Or.inl rfl) (pe_ix ix_str pe_str (pe_op op_mod (pe_callTy cr_intI (by rfl) T.int (by decide +kernel) (pa_cons (pe_ix ix_list (pv 0) (pe_op op_add (pe_op op_add (pv 1) (pe_op op_mul pe_int (pv 3))) pe_int) (fun _ _ => rfl)) pa_nil)) pe_int) (fun _ _ => rfl)))
          (pss_one (ps_asg (pe_op op_add_str (pe_op op_add_str (pe_slice sl_str (pe_ix ix_list (pv 4) pe_int (fun _ _ => rfl)) po_none (po_some (pv 5))) (pv 6)) (pe_slice sl_str (pe_ix ix_list (pv 4) pe_int (fun _ _ => rfl)) (po_some (pe_op op_add (pv 5) pe_int)) po_none)) (pg_sub (pv 4) (pv 3) set_list)))))))
      pss_nil)
      (pss_one (ps_ret (pv 4))))), ?_⟩
    walk_at "rd"
    have gn : ∀ (j : Nat), j < ns.length → ∃ x, (ns.map V.int)[j]? = some (.int x) := fun j hj => ⟨ns[j], by rw [List.getElem?_map, List.getElem?_eq_getElem hj]; rfl⟩
    refine ⟨_, rfl, m, rfl, by omega, by omega, fun p np => ?_⟩
    obtain ⟨Pw, hPw⟩ : ∃ Pw : Nat → Hp → Prop, Pw = (fun i Hx => ∃ Z : List Str, Same H Hx ∧ Hx p = some (.lst (Z.map V.str)) ∧ Z.length = i ∧ ∀ z ∈ Z, wk 8 z ∧ 1 ≤ z.length) := ⟨_, rfl⟩
    refine lc_range (lo := 0) (n := ((m : Nat) : Int).toNat) Pw (by rw [hPw]; exact ⟨[], same_upd np, upd_same, rfl, fun z hz => by cases hz⟩) (fun i Hx hi pv => ?_) (fun H1 pv => ?_)
    · rw [hPw] at pv
      obtain ⟨Z, sx, hp, lz, wz⟩ := pv
      obtain ⟨x0, g0⟩ := gn (at_ + 2 * i) (by omega)
      obtain ⟨x1, g1⟩ := gn (at_ + 2 * i + 1) (by omega)
      have hS' := sx.seq hS
      simp only [wipe]
      walk_at "rd"
      refine ⟨.inl (by decide), _, hS', _, at_of (j := at_ + 2 * i) (by omega) g0, .inl (by decide), _, hS', _, at_of (j := at_ + 2 * i + 1) (by omega) g1, x0, x1, rfl, fun z kz lz1 => ?_⟩
      refine ⟨_, hp, len_big (by rw [List.length_map]; omega), ?_⟩
      rw [hPw]
      refine ⟨Z ++ [z], same_ch sx np, by rw [upd_same, List.map_append]; rfl, by rw [List.length_append, lz]; rfl, fun y hy => ?_⟩
      rcases List.mem_append.mp hy with h | h
      · exact wz y h
      · rw [List.mem_singleton.mp h]
        exact ⟨kz, lz1⟩
    rw [hPw] at pv
    obtain ⟨Z, s1, hp, lz, wz⟩ := pv
    clear hPw Pw
    have lz : Z.length = m := by omega
    obtain ⟨xa, ga⟩ := gn at_ (by omega)
    refine ⟨_, s1.seq hS, _, at_of (j := at_) rfl ga, xa, rfl, ⟨by decide, by decide⟩, by decide, ?_⟩
    refine ite2 (fun _ => ?_) (fun _ => q Z p H1 ⟨lz, fun z hz => (wz z hz).1.mono (by decide)⟩ s1 np hp)
    obtain ⟨z0, gz0⟩ : ∃ z0, Z[0]? = some z0 := ⟨_, List.getElem?_eq_getElem (by omega)⟩
    have w0 := wz z0 (List.mem_of_getElem? gz0)
    obtain ⟨Pv, hPv⟩ : ∃ Pv : Nat → L2.St → Hp → Prop, Pv = (fun i σ Hx => ∃ (Y : List Str) (v3 v5 v6 : Option V), σ = [some (.ref a), some (.int at_), some (.int m), v3, some (.ref p), v5, v6] ∧ Same H Hx ∧ Hx p = some (.lst (Y.map V.str)) ∧ Y.length = m ∧ (∀ z ∈ Y, wk 17 z) ∧ Y[0]? = some z0) := ⟨_, rfl⟩
    refine for_iterW ?_
    walk_at "rd"
    refine ⟨by omega, by omega, by omega, by omega, for_range (lo := 1) (n := ((m : Int) - 1).toNat) Pv (by rw [hPv]; exact ⟨Z, none, none, none, rfl, s1, hp, lz, fun z hz => (wz z hz).1.mono (by decide), gz0⟩) (fun i σ Hx hi pv => ?_) (fun σ Hx pv => ?_)⟩
    rotate_left
    · rw [hPv] at pv
      obtain ⟨Y, v3, v5, v6, rfl, sm, hp, ly, wy, _⟩ := pv
      walk_at "rd"
      exact q Y p Hx ⟨ly, wy⟩ sm np hp
    have nxt : ∀ (Y : List Str) (v3 v5 v6 : Option V) (Hx : Hp), Same H Hx → Hx p = some (.lst (Y.map V.str)) → Y.length = m → (∀ z ∈ Y, wk 17 z) → Y[0]? = some z0 → Pv (i + 1) [some (.ref a), some (.int at_), some (.int m), v3, some (.ref p), v5, v6] Hx := fun Y v3 v5 v6 Hx h1 h2 h3 h4 h5 => by
      rw [hPv]
      exact ⟨Y, v3, v5, v6, rfl, h1, h2, h3, h4, h5⟩
    rw [hPv] at pv
    obtain ⟨Y, v3, v5, v6, rfl, sm, hp, ly, wy, gy0⟩ := pv
    have hS' := sm.seq hS
    have gy2 : (Y.map V.str)[0]? = some (.str z0) := by rw [List.getElem?_map, gy0]; rfl
    obtain ⟨x0, g0⟩ := gn (at_ + 2 * (1 + i)) (by omega)
    obtain ⟨x1, g1⟩ := gn (at_ + 2 * (1 + i) + 1) (by omega)
    have k0 := Int.emod_nonneg x1 (show (26 : Int) ≠ 0 by decide)
    have k1 := Int.emod_lt_of_pos x1 (show (0 : Int) < 26 by decide)
    obtain ⟨j, ej⟩ : ∃ j : Nat, x1 % 26 = j := ⟨(x1 % 26).toNat, by omega⟩
    obtain ⟨c, gc, c11⟩ := letters_at (j := j) (by omega)
    have big0 : z0.length ≤ sizeLine := Nat.le_of_lt (len_big (by have := w0.1.1; omega))
    have e1 : (Str.mk #[c]).length = 1 := rfl
    walk_at "rd"
    refine ⟨.inl (by decide), _, hS', _, at_of (j := at_ + 2 * (1 + i)) (by omega) g0, x0, rfl, _, SqL.of hp, _, at_of (j := 0) rfl gy2, z0, rfl, big0, by have := w0.2; omega, .inl (by decide), _, hS', _, at_of (j := at_ + 2 * (1 + i) + 1) (by omega) g1, x1, rfl, by decide, by decide +kernel, c, by rw [ej]; exact gc, _, SqL.of hp, _, at_of (j := 0) rfl gy2, ?_⟩
    generalize x0 % (z0.length : Int) = pl
    have c1 := wk_cut w0.1 none (some pl)
    have c2 := wk_cut w0.1 (some (pl + 1)) none
    have wc : wk 1 (Str.mk #[c]) := ⟨Nat.le_of_eq e1, strOk_one c11⟩
    have w9 : wk 9 (cutS z0 none (some pl) ++ Str.mk #[c]) := wk_app c1 wc (by decide)
    have w17 : wk 17 (cutS z0 none (some pl) ++ Str.mk #[c] ++ cutS z0 (some (pl + 1)) none) := wk_app w9 c2 (by decide)
    refine ⟨z0, rfl, big0, _, rfl, Nat.le_of_lt (len_big (by rw [e1]; have := c1.1; omega)), _, SqL.of hp, _, at_of (j := 0) rfl gy2, ?_⟩
    refine ⟨z0, rfl, big0, _, rfl, Nat.le_of_lt (len_big (by have := w9.1; have := c2.1; omega)), ?_⟩
    refine ⟨_, hp, 1 + i, ixn (by omega) (by rw [List.length_map]; omega), ?_⟩
    rw [set_map]
    refine nxt _ _ _ _ _ (same_ch sm np) upd_same (by rw [List.length_set]; exact ly) (fun z hz => ?_) (by rw [List.getElem?_set_ne (by omega)]; exact gy0)
    rcases List.mem_or_eq_of_mem_set hz with h | h
    · exact wy z h
    · rw [h]
      exact w17
theorem scLlg : FnScope ["numbers", "at", "many", "rooms", "words", "log", "k", "room"] ["numbers", "at", "many", "rooms", "words"] (defScope sLlg) := ⟨rfl, rfl, rfl, by decide +kernel, rfl, by decide +kernel, by decide +kernel⟩
def spLlg (K : PySem.W.Frag) : Sp := fun vs H Q _ => ∃ (a b : Addr) (ns : List Int) (at_ m r : Nat) (Z : List Str), vs = [.ref a, .int at_, .int m, .int r, .ref b] ∧ SqL K H a (ns.map V.int) ∧ at_ + 2 * m ≤ ns.length ∧ m ≤ 1000 ∧ 1 ≤ r ∧ H b = some (.lst (Z.map V.str)) ∧ 1 ≤ Z.length ∧ (∀ z ∈ Z, wk 17 z) ∧
  ∀ L ws p H', L.length = m → InR r L → (∀ c ∈ L, wk 17 c.2) → Same H H' → H p = none → H' p = some (.lst ws) → LG H' ws L → Q (.ref p) H'
theorem ok_llg {f : Addr} {fd : FuncData} (F : Fun K "_law_log" "_law_log" sLlg f fd) (T : Bi mg) : FnOk P w K mg base CX0 1 f fd ["numbers", "at", "many", "rooms", "words"] (spLlg K) := by
  refine F.ok scLlg (fun vs H Q E h => ?_) (fun cdv A outer s H vs Q E hr h => ?_)
  · obtain ⟨a, b, ns, at_, m, r, Z, rfl, _⟩ := h
    rfl
  · obtain ⟨a, b, ns, at_, m, r, Z, rfl, hS, hn, hm, r1, hb, z1, zw, q⟩ := h
    refine ⟨_, (pss_cons (ps_set (i := 5) scLlg.nd rfl (Or.inl rfl) (pe_lst pa_nil))
      (pss_cons (ps_for PassesOwn.never rfl (pi_range1 (by rfl) T.range (pa_cons (pv 2) pa_nil)) (pg_name (i := 6) scLlg.nd rfl (Or.inl rfl))
      (pss_cons (ps_set (i := 7) scLlg.nd rfl (Or.inl rfl) (pe_op op_mod (pe_callTy cr_intI (by rfl) T.int (by decide +kernel) (pa_cons (pe_ix ix_list (pv 0) (pe_op op_add (pv 1) (pe_op op_mul pe_int (pv 6))) (fun _ _ => rfl)) pa_nil)) (pv 3)))
        (pss_one (ps_expr (pe_bm PySem.F.plainAttrs_list PySem.F.slot_list_append PySem.F.type_list_append mt_append (pv 5) (pa_cons (pe_tup (pa_cons (pv 7) (pa_cons (pe_ix ix_list (pv 4) (pe_op op_mod (pe_callTy cr_intI (by rfl) T.int (by decide +kernel) (pa_cons (pe_ix ix_list (pv 0) (pe_op op_add (pe_op op_add (pv 1) (pe_op op_mul pe_int (pv 6))) pe_int) (fun _ _ => rfl)) pa_nil)) (pe_callB call_len_seq (by rfl) T.len (by decide +kernel) (pa_cons (pv 4) pa_nil))) (fun _ _ => rfl)) pa_nil))) pa_nil))))))
      (pss_one (ps_ret (pv 5))))), ?_⟩
    walk_at "rd"
    have gn : ∀ (j : Nat), j < ns.length → ∃ x, (ns.map V.int)[j]? = some (.int x) := fun j hj => ⟨ns[j], by rw [List.getElem?_map, List.getElem?_eq_getElem hj]; rfl⟩
    refine ⟨by decide, fun p np => ?_⟩
    refine for_iterW ?_
    walk_at "rd"
    obtain ⟨Pv, hPv⟩ : ∃ Pv : Nat → L2.St → Hp → Prop, Pv = (fun i σ H' => ∃ (ws : List V) (L : List Cl) (v5 v6 : Option V), σ = [some (.ref a), some (.int at_), some (.int m), some (.int r), some (.ref b), some (.ref p), v5, v6] ∧ Same H H' ∧ H' p = some (.lst ws) ∧ LG H' ws L ∧ L.length = i ∧ InR r L ∧ ∀ c ∈ L, wk 17 c.2) := ⟨_, rfl⟩
    refine ⟨by omega, by omega, for_range (lo := 0) (n := (m : Int).toNat) Pv (by rw [hPv]; exact ⟨[], [], none, none, rfl, same_upd np, upd_same, LG.nil0 _, rfl, (fun c hc => by cases hc), fun c hc => by cases hc⟩) (fun i σ H' hi pv => ?_) (fun σ H' pv => ?_)⟩
    rotate_left
    · rw [hPv] at pv
      obtain ⟨ws, L, v5, v6, rfl, sm, hp, lw, lL, inr, wks⟩ := pv
      walk_at "rd"
      exact q L ws p H' (by omega) inr wks sm np hp lw
    rw [hPv] at pv
    obtain ⟨ws, L, v5, v6, rfl, sm, hp, lw, lL, inr, wks⟩ := pv
    have hS' := sm.seq hS
    have hb' := sm _ _ hb
    obtain ⟨x0, g0⟩ := gn (at_ + 2 * i) (by omega)
    obtain ⟨x1, g1⟩ := gn (at_ + 2 * i + 1) (by omega)
    have r0 := Int.emod_nonneg x0 (show (r : Int) ≠ 0 by omega)
    have r2 := Int.emod_lt_of_pos x0 (show (0 : Int) < r by omega)
    have p0 := Int.emod_nonneg x1 (show (Z.length : Int) ≠ 0 by omega)
    have p1 := Int.emod_lt_of_pos x1 (show (0 : Int) < (Z.length : Int) by omega)
    obtain ⟨j, ej⟩ : ∃ j : Nat, x1 % (Z.length : Int) = j := ⟨(x1 % (Z.length : Int)).toNat, by omega⟩
    obtain ⟨z, gz, zk⟩ : ∃ z, (Z.map V.str)[j]? = some (.str z) ∧ wk 17 z := ⟨Z[j]'(by omega), by rw [List.getElem?_map, List.getElem?_eq_getElem (by omega)]; rfl, zw _ (List.getElem_mem _)⟩
    have wl : ws.length ≤ 1000 := by rw [lw.len]; omega
    walk_at "rd"
    refine ⟨.inl (by decide), _, hS', _, at_of (j := at_ + 2 * i) (by omega) g0, x0, rfl, by omega, .inl ⟨rfl, _, SqL.of hp⟩, .inl (by decide), _, hS', _, at_of (j := at_ + 2 * i + 1) (by omega) g1, x1, rfl, _, .inl (SqL.of hb'), by rw [List.length_map]; omega, _, SqL.of hb', .str z, by rw [List.length_map, ej]; exact atI_nat gz, by decide, fun t nt => ?_⟩
    have st := same_upd (o := HO.tup [V.int (x0 % (r : Int)), V.str z]) nt
    have ht := upd_same (H := H') (a := t) (o := HO.tup [V.int (x0 % (r : Int)), V.str z])
    generalize upd H' t (HO.tup [V.int (x0 % (r : Int)), V.str z]) = H2 at st ht ⊢
    have hp2 := st _ _ hp
    have kt : KT H2 (upd H2 p (HO.lst (ws ++ [V.ref t]))) := KT.lst hp2
    refine ⟨ws, hp2, len_big (by omega), ?_⟩
    rw [hPv]
    refine ⟨ws ++ [.ref t], L ++ [(x0 % (r : Int), z)], _, _, rfl, same_ch (sm.trans st) np, upd_same, LG.snoc ((lw.kt (KT.same st)).kt kt) ⟨t, rfl, kt _ _ ht⟩, by rw [List.length_append, lL]; rfl, fun c hc => ?_, fun c hc => ?_⟩
    · rcases List.mem_append.mp hc with h | h
      · exact inr c h
      · rw [List.mem_singleton.mp h]
        exact ⟨r0, r2⟩
    · rcases List.mem_append.mp hc with h | h
      · exact wks c h
      · rw [List.mem_singleton.mp h]
        exact zk
end

abbrev sLhr : Stmt := topS 16
open Classical in
/-- the rooms that open doors join with a room -/
noncomputable def rchF (r : Nat) (O : List Pr) (x : Int) : List Int := (rg r).filter fun y => decide (Rch O (rg r) x y)
open Classical in
theorem mem_rchF {r : Nat} {O : List Pr} {x y : Int} : y ∈ rchF r O x ↔ Rch O (rg r) x y := by
  unfold rchF
  rw [List.mem_filter, decide_eq_true_iff]
  exact ⟨fun h => h.2, fun h => ⟨h.mem, h⟩⟩
section
variable {P : Program} {w : World} {K : PySem.W.Frag} {mg : Str → Option Value} {base : Heap}
theorem scLhr : FnScope ["rooms", "log", "opening", "r", "words", "call"] ["rooms", "log", "opening"] (defScope sLhr) := ⟨rfl, rfl, rfl, by decide +kernel, rfl, by decide +kernel, by decide +kernel⟩
def spLhr : Sp := fun vs H Q _ => ∃ (l o : Addr) (us os : List V) (L : List Cl) (O : List Pr) (r : Nat), vs = [.int r, .ref l, .ref o] ∧ H l = some (.lst us) ∧ LG H us L ∧ InR r L ∧ H o = some (.lst os) ∧ PL H os O ∧ r ≤ 12 ∧
  ∀ (p : Addr) (H' : Hp), Same H H' → H' p = some (.lst ((rg r).map fun x => optS (wordP L (rchF r O x)))) → Q (.ref p) H'
theorem ok_lhr {f fR : Addr} {fd fdR : FuncData} (F : Fun K "_law_hear" "_law_hear" sLhr f fd) (T : Bi mg) (d__law_reach : Df P w K mg base "_law_reach" ["doors", "start", "inside"] 1 (spLre K) fR fdR) : FnOk P w K mg base CX0 2 f fd ["rooms", "log", "opening"] spLhr := by
  refine F.ok scLhr (fun vs H Q E h => ?_) (fun cdv A0 outer s0 H vs Q E hr h => ?_)
  · obtain ⟨l, o, us, os, L, O, r, rfl, _⟩ := h
    rfl
  · obtain ⟨l, o, us, os, L, O, r, rfl, hl, lg, inr, ho, po, r12, ret⟩ := h
    refine ⟨_, (pss_cons (ps_setLc (i := 4) (own := [("r", 3)]) (by rfl) scLhr.nd rfl rfl (sw_true rfl rfl rfl (by decide +kernel)) (pi_range1 (by rfl) T.range (pa_cons (pv 0) pa_nil)) (blkOk_by (N := ["rooms", "log", "opening", "r", "words", "call"]) (sc := defScope sLhr) (by decide +kernel)) (fun _ _ _ _ _ => pg_name (i := 3) scLhr.nd rfl (Or.inl rfl)) (fun _ _ _ _ _ => pts_nil) (fun _ _ _ _ _ => pe_non))
      (pss_cons (ps_for PassesOwn.never rfl (pi_list (pv 1)) (pg_name (i := 5) scLhr.nd rfl (Or.inl rfl))
      (pss_one (ps_for PassesOwn.never rfl (pi_list (pe_call d__law_reach.ok (hr.mono (by decide)) (by rfl) d__law_reach.at_ d__law_reach.kp d__law_reach.b .nil pass0 (pa_cons (pv 2) (pa_cons (pe_ix ix_tup (pv 5) pe_int (fun _ _ => rfl)) (pa_cons (pe_listRg rfl (by rfl) T.list (prg_1 (by rfl) T.range (pv 0))) pa_nil))))) (pg_name (i := 3) scLhr.nd rfl (Or.inl rfl))
        (pss_one (ps_asg (pe_ix ix_tup (pv 5) pe_int (fun _ _ => rfl)) (pg_sub (pv 4) (pv 3) set_list))))))
      (pss_one (ps_ret (pv 4))))), ?_⟩
    walk_at "rd"
    refine ⟨_, rfl, r, rfl, by omega, by omega, fun p np => ?_⟩
    obtain ⟨Pw, hPw⟩ : ∃ Pw : Nat → Hp → Prop, Pw = (fun j Hx => Same H Hx ∧ Hx p = some (.lst (List.replicate j V.non))) := ⟨_, rfl⟩
    refine lc_range (lo := 0) (n := ((r : Nat) : Int).toNat) Pw (by rw [hPw]; exact ⟨same_upd np, upd_same⟩) (fun j Hx hj pv => ?_) (fun H1 pv => ?_)
    · rw [hPw] at pv
      obtain ⟨sx, hp⟩ := pv
      simp only [wipe]
      walk_at "rd"
      refine ⟨_, hp, len_big (by rw [List.length_replicate]; omega), ?_⟩
      rw [hPw]
      refine ⟨same_ch sx np, ?_⟩
      rw [upd_same, List.replicate_succ']
    rw [hPw] at pv
    obtain ⟨s1, hp1⟩ := pv
    clear hPw Pw
    rw [show ((r : Nat) : Int).toNat = r by omega] at hp1
    walk_at "rd"
    have ul : us.length = L.length := lg.len
    obtain ⟨Pv, hPv⟩ : ∃ Pv : Nat → L2.St → Hp → Prop, Pv = (fun i σ H' => ∃ (W : List V) (v4 v5 : Option V), σ = [some (.int r), some (.ref l), some (.ref o), v4, some (.ref p), v5] ∧ Same H H' ∧ H' p = some (.lst W) ∧ W.length = r ∧ ∀ k : Nat, k < r → W.getD k .non = optS (wordP (L.take i) (rchF r O k))) := ⟨_, rfl⟩
    refine ⟨_, rfl, l, rfl, ⟨us, SqL.of (s1 _ _ hl)⟩, for_list (K := K) (a := l) (xs := us) Pv (by rw [hPv]; exact ⟨_, none, none, rfl, s1, hp1, List.length_replicate, fun k hk => by rw [List.getD_eq_getElem?_getD, List.getElem?_replicate, if_pos hk]; rfl⟩) (fun i σ H' _ pv => by rw [hPv] at pv; obtain ⟨_, _, _, _, s9, _⟩ := pv; exact SqL.of (s9 _ _ hl)) (fun i v σ H2 gv pv => ?body) (fun σ H2 pv => ?done)⟩
    case done =>
      rw [hPv] at pv
      obtain ⟨W, v4, v5, rfl, sm, hp, wl, wk'⟩ := pv
      rw [ul, List.take_length] at wk'
      walk_at "rd"
      refine ret p H2 sm ?_
      rw [hp]
      congr 2
      refine List.ext_getElem (by rw [List.length_map, rg_len]; exact wl) fun k h1 h2 => ?_
      have h := wk' k (by omega)
      rw [List.getD_eq_getElem?_getD, List.getElem?_eq_getElem h1] at h
      rw [List.getElem_map]
      refine Eq.trans h ?_
      congr 3
      unfold rg
      rw [List.getElem_map, List.getElem_range]
      rfl
    case body =>
      have nxt : ∀ (W : List V) (v4 v5 : Option V) (H' : Hp), Same H H' → H' p = some (.lst W) → W.length = r → (∀ k : Nat, k < r → W.getD k .non = optS (wordP (L.take (i + 1)) (rchF r O k))) → Pv (i + 1) [some (.int r), some (.ref l), some (.ref o), v4, some (.ref p), v5] H' := fun W v4 v5 H' h1 h2 h3 h4 => by
        rw [hPv]
        exact ⟨W, v4, v5, rfl, h1, h2, h3, h4⟩
      rw [hPv] at pv
      obtain ⟨W, v4, v5, rfl, sm, hp, wl, wk'⟩ := pv
      clear hPv
      obtain ⟨c, gc, tc, rfl, htc⟩ := pget lg gv
      have ic := inr c (List.mem_of_getElem? gc)
      rw [List.take_add_one, gc] at nxt
      simp only [Option.toList_some, wordP_snoc] at nxt
      refine for_iterW ?_
      walk_at "rd"
      refine ⟨_, SqT.of (sm _ _ htc), _, rfl, RgOk.of_le (by omega) (by omega) (by omega) (by omega), fun q nq => ?_⟩
      rw [rgV_rg]
      have s3 := same_upd (o := HO.lst ((rg r).map V.int)) nq
      have hq := upd_same (H := H2) (a := q) (o := HO.lst ((rg r).map V.int))
      generalize upd H2 q (HO.lst ((rg r).map V.int)) = H3 at s3 hq ⊢
      have s03 := sm.trans s3
      refine ⟨o, q, c.1, os, O, rg r, rfl, s03 _ _ ho, po.kt (KT.same s03), .inl (SqL.of hq), by rw [rg_len]; omega, fun x hx => (rg_mem hx).1, fun ys t H4 pc s4 nt ht => ?_⟩
      have s04 := s03.trans s4
      have hp4 := (s3.trans s4) _ _ hp
      refine ⟨t, rfl, ⟨_, SqL.of ht⟩, ?_⟩
      obtain ⟨Pw, hPw⟩ : ∃ Pw : Nat → L2.St → Hp → Prop, Pw = (fun j σ H' => ∃ (Y : List V) (v4 : Option V), σ = [some (.int r), some (.ref l), some (.ref o), v4, some (.ref p), some (.ref tc)] ∧ Same H H' ∧ H' p = some (.lst Y) ∧ H' t = some (.lst (ys.map V.int)) ∧ Y.length = r ∧ ∀ k : Nat, k < r → Y.getD k .non = if (k : Int) ∈ ys.take j then .str c.2 else W.getD k .non) := ⟨_, rfl⟩
      have tp : t ≠ p := fun z => by rw [z, (s3 _ _ hp)] at nt; cases nt
      refine for_list (K := K) (a := t) (xs := ys.map V.int) Pw (by rw [hPw]; exact ⟨W, v4, rfl, s04, hp4, ht, wl, fun k hk => by rw [List.take_zero, if_neg (fun z => by cases z)]⟩) (fun j σ H' _ pv => by rw [hPw] at pv; obtain ⟨_, _, _, _, _, h9, _⟩ := pv; exact SqL.of h9) (fun j v σ H5 gv pv => ?_) (fun σ H5 pv => ?_)
      · rw [hPw] at pv
        obtain ⟨Y, v4', rfl, s05, hp5, ht5, yl, yk⟩ := pv
        rw [List.getElem?_map] at gv
        obtain ⟨y, gy, rfl⟩ := Option.map_eq_some_iff.mp gv
        have my := (pc.2 y).mp (List.mem_of_getElem? gy)
        have by_ := rg_mem my.mem
        walk_at "rd"
        refine ⟨_, SqT.of (s05 _ _ htc), _, rfl, Y, hp5, y.toNat, ixn (by omega) (by omega), ?_⟩
        rw [hPw]
        refine ⟨Y.set y.toNat (.str c.2), _, rfl, same_ch s05 np, upd_same, by rw [upd_ne tp]; exact ht5, by rw [List.length_set]; exact yl, fun k hk => ?_⟩
        rw [List.getD_eq_getElem?_getD, List.getElem?_set, List.take_add_one, gy]
        simp only [Option.toList_some, List.mem_append, List.mem_singleton]
        by_cases e : y.toNat = k
        · rw [if_pos e, if_pos (by omega), if_pos (.inr (by omega))]
          rfl
        · rw [if_neg e, ← List.getD_eq_getElem?_getD, yk k hk]
          by_cases m : (k : Int) ∈ ys.take j
          · rw [if_pos m, if_pos (.inl m)]
          · rw [if_neg m, if_neg (fun z => z.elim m (fun z => e (by omega)))]
      · rw [hPw] at pv
        obtain ⟨Y, v4', rfl, s05, hp5, ht5, yl, yk⟩ := pv
        refine nxt Y _ _ H5 s05 hp5 yl fun k hk => ?_
        rw [yk k hk, List.length_map, List.take_length]
        have eqv : (k : Int) ∈ ys ↔ c.1 ∈ rchF r O k := by
          rw [mem_rchF, pc.2]
          exact ⟨fun h => h.symm, fun h => h.symm⟩
        by_cases m : (k : Int) ∈ ys
        · rw [if_pos m, if_pos (eqv.mp m)]
          rfl
        · rw [if_neg m, if_neg (fun z => m (eqv.mpr z))]
          exact wk' k hk
end

abbrev sLpk : Stmt := topS 18
abbrev sLpl : Stmt := topS 19
/-- a look: the number of calls and what was seen -/
abbrev Lk := Nat × List (Option Str)
def IsLk (H : Hp) (v : V) (k : Lk) : Prop := ∃ t b, v = .ref t ∧ H t = some (.tup [.int k.1, .ref b]) ∧ H b = some (.lst (k.2.map optS))
theorem IsLk.same {H H' : Hp} {v : V} {k : Lk} (h : IsLk H v k) (s : Same H H') : IsLk H' v k := by
  obtain ⟨t, b, e, h1, h2⟩ := h
  exact ⟨t, b, e, s _ _ h1, s _ _ h2⟩
def LKs (H : Hp) (vs : List V) (ks : List Lk) : Prop := Paired (IsLk H) vs ks
theorem LKs.same {H H' : Hp} {vs : List V} {ks : List Lk} (h : LKs H vs ks) (s : Same H H') : LKs H' vs ks := Paired.mapP h fun _ _ q => q.same s
theorem cut_takeU (xs : List V) (k : Nat) : cutV xs none (some ((k : Nat) : Int)) = xs.take k := by
  unfold cutV
  rw [show HT.sIx xs.length xs.length (some ((k : Nat) : Int)) = min k xs.length from HT.sIx_nat xs.length xs.length k, HT.sIx_none, List.drop_zero, Nat.sub_zero]
  by_cases h : k ≤ xs.length
  · rw [Nat.min_eq_left h]
  · rw [Nat.min_eq_right (by omega), List.take_length, List.take_of_length_le (by omega)]
theorem lg_take {H : Hp} {us : List V} {L : List Cl} (h : LG H us L) (k : Nat) : LG H (us.take k) (L.take k) := by
  induction h generalizing k with
  | nil => cases k <;> exact Paired.nil
  | cons r _ ih =>
    cases k with
    | zero => exact Paired.nil
    | succ k => exact Paired.cons r (ih k)
section
variable {P : Program} {w : World} {K : PySem.W.Frag} {mg : Str → Option Value} {base : Heap}
theorem scLpk : FnScope ["pool", "number", "pick"] ["pool", "number"] (defScope sLpk) := ⟨rfl, rfl, rfl, by decide +kernel, rfl, by decide +kernel, by decide +kernel⟩
def spLpk (K : PySem.W.Frag) : Sp := fun vs H Q _ => ∃ (b : Addr) (Z : List Str) (x : Int), vs = [.ref b, .int x] ∧ H b = some (.lst (Z.map V.str)) ∧ ∀ o : Option Str, (∀ z, o = some z → z ∈ Z) → Q (optS o) H
theorem ok_lpk {f : Addr} {fd : FuncData} (F : Fun K "_law_pick" "_law_pick" sLpk f fd) (T : Bi mg) : FnOk P w K mg base CX0 1 f fd ["pool", "number"] (spLpk K) := by
  refine F.ok scLpk (fun vs H Q E h => ?_) (fun cdv A0 outer s0 H vs Q E hr h => ?_)
  · obtain ⟨b, Z, x, rfl, _⟩ := h
    rfl
  · obtain ⟨b, Z, x, rfl, hb, q⟩ := h
    refine ⟨_, (pss_cons (ps_set (i := 2) scLpk.nd rfl (Or.inl rfl) (pe_op op_mod (pe_callTy cr_intI (by rfl) T.int (by decide +kernel) (pa_cons (pv 1) pa_nil)) (pe_op op_add (pe_callB call_len_seq (by rfl) T.len (by decide +kernel) (pa_cons (pv 0) pa_nil)) pe_int)))
      (pss_cons (ps_if (pt_cmpR op_eqI (pv 2) (pe_callB call_len_seq (by rfl) T.len (by decide +kernel) (pa_cons (pv 0) pa_nil)) (nomark _))
      (pss_one (ps_ret pe_non))
      pss_nil)
      (pss_one (ps_ret (pe_ix ix_list (pv 0) (pv 2) (fun _ _ => rfl)))))), ?_⟩
    walk_at "rd"
    have zl : (Z.map V.str).length = Z.length := List.length_map _
    have p0 := Int.emod_nonneg x (show ((Z.map V.str).length : Int) + 1 ≠ 0 by omega)
    have p1 := Int.emod_lt_of_pos x (show (0 : Int) < ((Z.map V.str).length : Int) + 1 by omega)
    refine ⟨_, .inl (SqL.of hb), by omega, _, .inl (SqL.of hb), ?_⟩
    refine ite2 (fun _ => q none fun z e => by cases e) (fun ne => ?_)
    obtain ⟨j, ej⟩ : ∃ j : Nat, x % (((Z.map V.str).length : Int) + 1) = j := ⟨(x % (((Z.map V.str).length : Int) + 1)).toNat, by omega⟩
    obtain ⟨z, gz, mz⟩ : ∃ z, (Z.map V.str)[j]? = some (.str z) ∧ z ∈ Z := ⟨Z[j]'(by omega), by rw [List.getElem?_map, List.getElem?_eq_getElem (by omega)]; rfl, List.getElem_mem _⟩
    refine ⟨_, SqL.of hb, .str z, by rw [ej]; exact atI_nat gz, ?_⟩
    exact q (some z) fun y e => by rw [← Option.some.inj e]; exact mz
theorem scLpl : FnScope ["numbers", "rooms", "log", "hidden", "words", "count", "heard", "way", "seen", "r", "number", "entry"] ["numbers", "rooms", "log", "hidden", "words"] (defScope sLpl) := ⟨rfl, rfl, rfl, by decide +kernel, rfl, by decide +kernel, by decide +kernel⟩
def spLpo (K : PySem.W.Frag) : Sp := fun vs H Q _ => ∃ (a l o b : Addr) (ns : List Int) (r : Nat) (us os : List V) (L : List Cl) (O : List Pr) (Z : List Str), vs = [.ref a, .int r, .ref l, .ref o, .ref b] ∧ SqL K H a (ns.map V.int) ∧ 2 + r ≤ ns.length ∧ r ≤ 12 ∧ H l = some (.lst us) ∧ LG H us L ∧ InR r L ∧ H o = some (.lst os) ∧ PL H os O ∧ H b = some (.lst (Z.map V.str)) ∧
  ∀ (v : V) (k : Lk) (H' : Hp), Same H H' → IsLk H' v k → k.2.length = r → k.1 ≤ L.length → Q v H'
theorem ok_lpo {f f1 f2 : Addr} {fd fd1 fd2 : FuncData} (F : Fun K "_law_partial_look" "_law_partial_look" sLpl f fd) (T : Bi mg) (d__law_hear : Df P w K mg base "_law_hear" ["rooms", "log", "opening"] 2 spLhr f1 fd1) (d__law_pick : Df P w K mg base "_law_pick" ["pool", "number"] 1 (spLpk K) f2 fd2) : FnOk P w K mg base CX0 3 f fd ["numbers", "rooms", "log", "hidden", "words"] (spLpo K) := by
  refine F.ok scLpl (fun vs H Q E h => ?_) (fun cdv A0 outer s0 H vs Q E hr h => ?_)
  · obtain ⟨a, l, o, b, ns, r, us, os, L, O, Z, rfl, _⟩ := h
    rfl
  · obtain ⟨a, l, o, b, ns, r, us, os, L, O, Z, rfl, hS, hn, r12, hl, lg, inr, ho, po, hb, ret⟩ := h
    refine ⟨_, (pss_cons (ps_set (i := 5) scLpl.nd rfl (Or.inl rfl) (pe_op op_mod (pe_callTy cr_intI (by rfl) T.int (by decide +kernel) (pa_cons (pe_ix ix_list (pv 0) pe_int (fun _ _ => rfl)) pa_nil)) (pe_op op_add (pe_callB call_len_seq (by rfl) T.len (by decide +kernel) (pa_cons (pv 2) pa_nil)) pe_int)))
      (pss_cons (ps_set (i := 6) scLpl.nd rfl (Or.inl rfl) (pe_call d__law_hear.ok (hr.mono (by decide)) (by rfl) d__law_hear.at_ d__law_hear.kp d__law_hear.b .nil pass0 (pa_cons (pv 1) (pa_cons (pe_slice sl_list (pv 2) po_none (po_some (pv 5))) (pa_cons (pv 3) pa_nil)))))
      (pss_cons (ps_set (i := 7) scLpl.nd rfl (Or.inl rfl) (pe_op op_mod (pe_callTy cr_intI (by rfl) T.int (by decide +kernel) (pa_cons (pe_ix ix_list (pv 0) pe_int (fun _ _ => rfl)) pa_nil)) pe_int))
      (pss_cons (ps_set (i := 8) scLpl.nd rfl (Or.inl rfl) (pe_lst pa_nil))
      (pss_cons (ps_for PassesOwn.never rfl (pi_range1 (by rfl) T.range (pa_cons (pv 1) pa_nil)) (pg_name (i := 9) scLpl.nd rfl (Or.inl rfl))
      (pss_cons (ps_set (i := 10) scLpl.nd rfl (Or.inl rfl) (pe_callTy cr_intI (by rfl) T.int (by decide +kernel) (pa_cons (pe_ix ix_list (pv 0) (pe_op op_add pe_int (pv 9)) (fun _ _ => rfl)) pa_nil)))
        (pss_cons (ps_set (i := 11) scLpl.nd rfl (Or.inl rfl) (pe_ix ix_list (pv 6) (pv 9) (fun _ _ => rfl)))
        (pss_cons (ps_if (PW.pt (pw_and (pt_cmpR op_eqI (pv 7) pe_int (nomark _)) (pw_and1 (pt_cmpR op_eqI (pe_op op_mod (pv 10) pe_int) pe_int (nomark _)))))
        (pss_one (ps_set (i := 11) scLpl.nd rfl (Or.inl rfl) (pe_call d__law_pick.ok (hr.mono (by decide)) (by rfl) d__law_pick.at_ d__law_pick.kp d__law_pick.b .nil pass0 (pa_cons (pv 4) (pa_cons (pe_op op_fdiv (pv 10) pe_int) pa_nil)))))
        pss_nil)
        (pss_cons (ps_if (pt_cmpR op_eqI (pv 7) pe_int (nomark _))
        (pss_one (ps_set (i := 11) scLpl.nd rfl (Or.inl rfl) (pe_call d__law_pick.ok (hr.mono (by decide)) (by rfl) d__law_pick.at_ d__law_pick.kp d__law_pick.b .nil pass0 (pa_cons (pv 4) (pa_cons (pe_op op_fdiv (pv 10) pe_int) pa_nil)))))
        pss_nil)
        (pss_cons (ps_if (pt_cmpR op_eqI (pe_op op_mod (pv 10) pe_int) pe_int (nomark _))
        (pss_one (ps_set (i := 11) scLpl.nd rfl (Or.inl rfl) pe_str))
        pss_nil)
        (pss_one (ps_expr (pe_bm PySem.F.plainAttrs_list PySem.F.slot_list_append PySem.F.type_list_append mt_append (pv 8) (pa_cons (pv 11) pa_nil))))))))))
      (pss_one (ps_ret (pe_tup (pa_cons (pv 5) (pa_cons (pv 8) pa_nil)))))))))), ?_⟩
    walk_at "rd"
    have gn : ∀ (j : Nat), j < ns.length → ∃ x, (ns.map V.int)[j]? = some (.int x) := fun j hj => ⟨ns[j], by rw [List.getElem?_map, List.getElem?_eq_getElem hj]; rfl⟩
    obtain ⟨x0, g0⟩ := gn 0 (by omega)
    obtain ⟨x1, g1⟩ := gn 1 (by omega)
    have ul : us.length = L.length := lg.len
    have p0 := Int.emod_nonneg x0 (show (us.length : Int) + 1 ≠ 0 by omega)
    have p1 := Int.emod_lt_of_pos x0 (show (0 : Int) < (us.length : Int) + 1 by omega)
    obtain ⟨n, en⟩ : ∃ n : Nat, x0 % ((us.length : Int) + 1) = n := ⟨(x0 % ((us.length : Int) + 1)).toNat, by omega⟩
    refine ⟨_, hS, _, at_of (j := 0) rfl g0, x0, rfl, us, .inl (SqL.of hl), by omega, us, SqL.of hl, fun p np => ?_⟩
    rw [en, cut_takeU]
    have s1 := same_upd (o := HO.lst (us.take n)) np
    have hp := upd_same (H := H) (a := p) (o := HO.lst (us.take n))
    generalize upd H p (HO.lst (us.take n)) = H1 at s1 hp ⊢
    have inrn : InR r (L.take n) := fun c hc => inr c (List.mem_of_mem_take hc)
    refine ⟨p, o, us.take n, os, L.take n, O, r, rfl, hp, lg_take (lg.kt (KT.same s1)) n, inrn, s1 _ _ ho, po.kt (KT.same s1), r12, fun h H2 s2 hh => ?_⟩
    have s12 := s1.trans s2
    refine ⟨_, s12.seq hS, _, at_of (j := 1) rfl g1, x1, rfl, by decide, Nat.zero_le _, fun e ne => ?_⟩
    have s3 := same_upd (o := HO.lst []) ne
    have he := upd_same (H := H2) (a := e) (o := HO.lst [])
    generalize upd H2 e (HO.lst []) = H3 at s3 he ⊢
    have s13 := s12.trans s3
    have hh3 := s3 _ _ hh
    have ne0 : H e = none := s12.free ne
    refine for_iterW ?_
    walk_at "rd"
    generalize x1 % 4 = way
    obtain ⟨Pv, hPv⟩ : ∃ Pv : Nat → L2.St → Hp → Prop, Pv = (fun i σ Hx => ∃ (S : List (Option Str)) (v9 v10 v11 : Option V), σ = [some (.ref a), some (.int r), some (.ref l), some (.ref o), some (.ref b), some (.int n), some (.ref h), some (.int way), some (.ref e), v9, v10, v11] ∧ Same H Hx ∧ Hx h = some (.lst ((rg r).map fun x => optS (wordP (L.take n) (rchF r O x)))) ∧ Hx e = some (.lst (S.map optS)) ∧ S.length = i) := ⟨_, rfl⟩
    have eh : h ≠ e := fun z => by rw [z, ne] at hh; cases hh
    refine ⟨by omega, by omega, for_range (lo := 0) (n := (r : Int).toNat) Pv (by rw [hPv]; exact ⟨[], none, none, none, rfl, s13, hh3, he, rfl⟩) (fun i σ Hx hi pv => ?_) (fun σ Hx pv => ?_)⟩
    · have nxt : ∀ (S : List (Option Str)) (o' : Option Str) (v9 v10 v11 : Option V) (Hx : Hp), Same H Hx → Hx h = some (.lst ((rg r).map fun x => optS (wordP (L.take n) (rchF r O x)))) → Hx e = some (.lst (S.map optS)) → S.length = i → Pv (i + 1) [some (.ref a), some (.int r), some (.ref l), some (.ref o), some (.ref b), some (.int n), some (.ref h), some (.int way), some (.ref e), v9, v10, v11] (upd Hx e (.lst (S.map optS ++ [optS o']))) := fun S o' v9 v10 v11 Hx h1 h2 h3 h4 => by
        rw [hPv]
        exact ⟨S ++ [o'], v9, v10, v11, rfl, same_ch h1 ne0, by rw [upd_ne eh]; exact h2, by rw [upd_same, List.map_append]; rfl, by rw [List.length_append, h4]; rfl⟩
      rw [hPv] at pv
      obtain ⟨S, v9, v10, v11, rfl, sm, hhx, hex, sl⟩ := pv
      clear hPv
      have ir : i < r := by omega
      obtain ⟨xi, gi⟩ := gn (2 + i) (by omega)
      have gh : ((rg r).map fun x => optS (wordP (L.take n) (rchF r O x)))[i]? = some (optS (wordP (L.take n) (rchF r O (i : Int)))) := by
        unfold rg
        rw [List.getElem?_map, List.getElem?_map, List.getElem?_range ir]
        rfl
      walk_at "rd"
      refine ⟨_, sm.seq hS, _, at_of (j := 2 + i) (by omega) gi, xi, rfl, _, SqL.of hhx, _, at_of (j := i) (by omega) gh, ?_⟩
      generalize wordP (L.take n) (rchF r O (i : Int)) = wd
      have ty : tyV K "list" (.ref e) Hx := .inl ⟨rfl, _, SqL.of hex⟩
      have sz : (S.map optS).length < sizeLine := len_big (by rw [List.length_map]; omega)
      have hbx := sm _ _ hb
      refine ite2 (fun _ => ⟨by decide, ite2 (fun _ => ⟨⟨by decide, by decide⟩, b, Z, _, rfl, hbx, fun o1 _ => ?_⟩) (fun _ => ?_)⟩) (fun _ => ?_)
      · try dsimp only
        refine ite2 (fun _ => ⟨⟨by decide, by decide⟩, b, Z, _, rfl, hbx, fun o2 _ => ?_⟩) (fun _ => ?_)
        · try dsimp only
          exact ⟨by decide, ite2 (fun _ => ⟨ty, _, hex, sz, nxt S (some (Str.ofString "?")) _ _ _ Hx sm hhx hex sl⟩) (fun _ => ⟨ty, _, hex, sz, nxt S o2 _ _ _ Hx sm hhx hex sl⟩)⟩
        · try dsimp only
          exact ⟨by decide, ite2 (fun _ => ⟨ty, _, hex, sz, nxt S (some (Str.ofString "?")) _ _ _ Hx sm hhx hex sl⟩) (fun _ => ⟨ty, _, hex, sz, nxt S o1 _ _ _ Hx sm hhx hex sl⟩)⟩
      · try dsimp only
        refine ite2 (fun _ => ⟨⟨by decide, by decide⟩, b, Z, _, rfl, hbx, fun o2 _ => ?_⟩) (fun _ => ?_)
        · try dsimp only
          exact ⟨by decide, ite2 (fun _ => ⟨ty, _, hex, sz, nxt S (some (Str.ofString "?")) _ _ _ Hx sm hhx hex sl⟩) (fun _ => ⟨ty, _, hex, sz, nxt S o2 _ _ _ Hx sm hhx hex sl⟩)⟩
        · try dsimp only
          exact ⟨by decide, ite2 (fun _ => ⟨ty, _, hex, sz, nxt S (some (Str.ofString "?")) _ _ _ Hx sm hhx hex sl⟩) (fun _ => ⟨ty, _, hex, sz, nxt S wd _ _ _ Hx sm hhx hex sl⟩)⟩
      · try dsimp only
        rw [if_neg id]
        refine ite2 (fun _ => ⟨⟨by decide, by decide⟩, b, Z, _, rfl, hbx, fun o2 _ => ?_⟩) (fun _ => ?_)
        · try dsimp only
          exact ⟨by decide, ite2 (fun _ => ⟨ty, _, hex, sz, nxt S (some (Str.ofString "?")) _ _ _ Hx sm hhx hex sl⟩) (fun _ => ⟨ty, _, hex, sz, nxt S o2 _ _ _ Hx sm hhx hex sl⟩)⟩
        · try dsimp only
          exact ⟨by decide, ite2 (fun _ => ⟨ty, _, hex, sz, nxt S (some (Str.ofString "?")) _ _ _ Hx sm hhx hex sl⟩) (fun _ => ⟨ty, _, hex, sz, nxt S wd _ _ _ Hx sm hhx hex sl⟩)⟩
    · rw [hPv] at pv
      obtain ⟨S, v9, v10, v11, rfl, sm, hhx, hex, sl⟩ := pv
      walk_at "rd"
      refine ⟨by decide, fun t nt => ?_⟩
      exact ret (.ref t) (n, S) _ (sm.trans (same_upd nt)) ⟨t, e, rfl, upd_same, same_upd nt _ _ hex⟩ (by show S.length = r; omega) (by show n ≤ L.length; omega)
end

abbrev sIsd : Stmt := topS 6
abbrev sLsd : Stmt := topS 20
/-- the rooms from i to j - 1 -/
def segL (i j : Nat) : List Int := (List.range (j - i)).map fun k => ((i + k : Nat) : Int)
theorem segL_rg {i j : Nat} (h : i ≤ j) : rgV (i : Int) (j : Int) = (segL i j).map V.int := by
  unfold rgV segL
  rw [List.map_map, show ((j : Int) - (i : Int)).toNat = j - i by omega]
  refine List.map_congr_left fun k _ => ?_
  show V.int ((i : Int) + (k : Int)) = V.int ((i + k : Nat) : Int)
  congr 1
theorem mem_seg {i j : Nat} {x : Int} : x ∈ segL i j ↔ (i : Int) ≤ x ∧ x < j := by
  unfold segL
  rw [List.mem_map]
  constructor
  · rintro ⟨k, hk, rfl⟩
    have := List.mem_range.mp hk
    omega
  · rintro ⟨h1, h2⟩
    exact ⟨(x - i).toNat, List.mem_range.mpr (by omega), by omega⟩
def unS : Option Str := some (Str.ofString "?")
/-- a look fits a stretch at a room -/
def Ok1 (L : List Cl) (k : Lk) (i j : Nat) (x : Int) : Prop := k.2.getD x.toNat none = unS ∨ k.2.getD x.toNat none = wordP (L.take k.1) (segL i j)
def Snd (L : List Cl) (ks : List Lk) (i j : Nat) : Prop := ∀ k ∈ ks, ∀ x ∈ segL i j, Ok1 L k i j x
section
variable {P : Program} {w : World} {K : PySem.W.Frag} {mg : Str → Option Value} {base : Heap}
theorem scLsd : FnScope ["log", "looks", "start", "end", "stretch", "look", "word", "r"] ["log", "looks", "start", "end"] (defScope sLsd) := ⟨rfl, rfl, rfl, by decide +kernel, rfl, by decide +kernel, by decide +kernel⟩
def spSnd (f : Nat → Nat → Hp → List V → Prop) : Sp := fun vs H Q _ => ∃ (l m : Addr) (us ms : List V) (L : List Cl) (ks : List Lk) (i j r : Nat) (xs : List V), vs = .ref l :: .ref m :: xs ∧ f i j H xs ∧ H l = some (.lst us) ∧ LG H us L ∧ H m = some (.lst ms) ∧ LKs H ms ks ∧ (∀ k ∈ ks, k.2.length = r) ∧ i ≤ j ∧ j ≤ r ∧ r ≤ 12 ∧
  ∀ (b : Bool) (H' : Hp), Same H H' → (b = true ↔ Snd L ks i j) → Q (.bl b) H'
theorem ok_lsd {f fW : Addr} {fd fdW : FuncData} (F : Fun K "_law_sound" "_law_sound" sLsd f fd) (T : Bi mg) (d__law_word_of : Df P w K mg base "_law_word_of" ["log", "rooms"] 1 (spTopR K optW) fW fdW) : FnOk P w K mg base CX0 2 f fd ["log", "looks", "start", "end"] (spSnd fun i j _ xs => xs = [.int i, .int j]) := by
  refine F.ok scLsd (fun vs H Q E h => ?_) (fun cdv A0 outer s0 H vs Q E hr h => ?_)
  · obtain ⟨l, m, us, ms, L, ks, i, j, r, xs, rfl, rfl, _⟩ := h
    rfl
  · obtain ⟨l, m, us, ms, L, ks, i, j, r, xs, rfl, rfl, hl, lg, hm, lk, klen, ij, jr, r12, ret⟩ := h
    refine ⟨_, (pss_cons (ps_set (i := 4) scLsd.nd rfl (Or.inl rfl) (pe_listRg rfl (by rfl) T.list (prg_2 (by rfl) T.range (pv 2) (pv 3))))
      (pss_cons (ps_for PassesOwn.never rfl (pi_list (pv 1)) (pg_name (i := 5) scLsd.nd rfl (Or.inl rfl))
      (pss_cons (ps_set (i := 6) scLsd.nd rfl (Or.inl rfl) (pe_call d__law_word_of.ok (hr.mono (by decide)) (by rfl) d__law_word_of.at_ d__law_word_of.kp d__law_word_of.b .nil pass0 (pa_cons (pe_slice sl_list (pv 0) po_none (po_some (pe_ix ix_tup (pv 5) pe_int (fun _ _ => rfl)))) (pa_cons (pv 4) pa_nil))))
        (pss_one (ps_for PassesOwn.never rfl (pi_list (pv 4)) (pg_name (i := 7) scLsd.nd rfl (Or.inl rfl))
        (pss_one (ps_if (PW.pt (pw_and (pt_cmpR op_ne (pe_ix ix_list (pe_ix ix_tup (pv 5) pe_int (fun _ _ => rfl)) (pv 7) (fun _ _ => rfl)) pe_str (nomark _)) (pw_and1 (pt_cmpR op_ne (pe_ix ix_list (pe_ix ix_tup (pv 5) pe_int (fun _ _ => rfl)) (pv 7) (fun _ _ => rfl)) (pv 6) (nomark _)))))
          (pss_one (ps_ret pe_bl))
          pss_nil))))))
      (pss_one (ps_ret pe_bl)))), ?_⟩
    walk_at "rd"
    refine ⟨RgOk.of_le (by omega) (by omega) (by omega) (by omega), fun q nq => ?_⟩
    rw [segL_rg ij]
    have s1 := same_upd (o := HO.lst ((segL i j).map V.int)) nq
    have hq := upd_same (H := H) (a := q) (o := HO.lst ((segL i j).map V.int))
    generalize upd H q (HO.lst ((segL i j).map V.int)) = H1 at s1 hq ⊢
    have ml : ms.length = ks.length := Paired.length lk
    have hm1 := s1 _ _ hm
    obtain ⟨Pv, hPv⟩ : ∃ Pv : Nat → L2.St → Hp → Prop, Pv = (fun n σ Hx => ∃ (v5 v6 v7 : Option V), σ = [some (.ref l), some (.ref m), some (.int i), some (.int j), some (.ref q), v5, v6, v7] ∧ Same H1 Hx ∧ ∀ k ∈ ks.take n, ∀ x ∈ segL i j, Ok1 L k i j x) := ⟨_, rfl⟩
    refine ⟨_, rfl, m, rfl, ⟨_, SqL.of hm1⟩, for_list (K := K) (a := m) (xs := ms) Pv (by rw [hPv]; exact ⟨none, none, none, rfl, Same.refl _, fun k hk => by rw [List.take_zero] at hk; cases hk⟩) (fun n σ Hx _ pv => by rw [hPv] at pv; obtain ⟨_, _, _, _, s9, _⟩ := pv; exact SqL.of (s9 _ _ hm1)) (fun n v σ H2 gv pv => ?body) (fun σ H2 pv => ?done)⟩
    case done =>
      rw [hPv] at pv
      obtain ⟨v5, v6, v7, rfl, sm, al⟩ := pv
      rw [ml, List.take_length] at al
      walk_at "rd"
      exact ret true H2 (s1.trans sm) ⟨fun _ => al, fun _ => rfl⟩
    case body =>
      have nxt : ∀ (v5 v6 v7 : Option V) (Hx : Hp), Same H1 Hx → (∀ k ∈ ks.take (n + 1), ∀ x ∈ segL i j, Ok1 L k i j x) → Pv (n + 1) [some (.ref l), some (.ref m), some (.int i), some (.int j), some (.ref q), v5, v6, v7] Hx := fun v5 v6 v7 Hx h1 h2 => by
        rw [hPv]
        exact ⟨v5, v6, v7, rfl, h1, h2⟩
      rw [hPv] at pv
      obtain ⟨v5, v6, v7, rfl, sm, al⟩ := pv
      clear hPv
      obtain ⟨k, gk, t, b, rfl, ht0, hb0⟩ := pget lk gv
      have mk := List.mem_of_getElem? gk
      have kl := klen k mk
      rw [List.take_add_one, gk] at nxt
      have s12 := s1.trans sm
      have ht := s12 _ _ ht0
      have hb := s12 _ _ hb0
      walk_at "rd"
      refine ⟨_, SqT.of ht, _, rfl, k.1, rfl, us, SqL.of (s12 _ _ hl), fun p np => ?_⟩
      rw [cut_takeU]
      have s3 := same_upd (o := HO.lst (us.take k.1)) np
      have hp := upd_same (H := H2) (a := p) (o := HO.lst (us.take k.1))
      generalize upd H2 p (HO.lst (us.take k.1)) = H3 at s3 hp ⊢
      have s13 := s12.trans s3
      refine ⟨p, q, us.take k.1, L.take k.1, segL i j, rfl, hp, lg_take (lg.kt (KT.same s13)) k.1, .inl (SqL.of ((sm.trans s3) _ _ hq)), ?_⟩
      rw [optW_S]
      have ew : (lastIn (segL i j) (L.take k.1)).map (·.2) = wordP (L.take k.1) (segL i j) := rfl
      rw [ew]
      have hq3 := (sm.trans s3) _ _ hq
      have ht3 := s3 _ _ ht
      have hb3 := s3 _ _ hb
      obtain ⟨Pw, hPw⟩ : ∃ Pw : Nat → L2.St → Hp → Prop, Pw = (fun n' σ Hx => ∃ (v7 : Option V), σ = [some (.ref l), some (.ref m), some (.int i), some (.int j), some (.ref q), some (.ref t), some (optS (wordP (L.take k.1) (segL i j))), v7] ∧ Hx = H3 ∧ ∀ x ∈ (segL i j).take n', Ok1 L k i j x) := ⟨_, rfl⟩
      dsimp only
      refine ⟨_, rfl, q, rfl, ⟨_, SqL.of hq3⟩, for_list (K := K) (a := q) (xs := (segL i j).map V.int) Pw (by rw [hPw]; exact ⟨v7, rfl, rfl, fun x hx => by rw [List.take_zero] at hx; cases hx⟩) (fun n' σ Hx _ pv => by rw [hPw] at pv; obtain ⟨_, _, rfl, _⟩ := pv; exact SqL.of hq3) (fun n' v σ Hx gv2 pv => ?_) (fun σ Hx pv => ?_)⟩
      · rw [hPw] at pv
        obtain ⟨v7', rfl, rfl, al2⟩ := pv
        rw [List.getElem?_map] at gv2
        obtain ⟨x, gx, rfl⟩ := Option.map_eq_some_iff.mp gv2
        have mx := List.mem_of_getElem? gx
        have bx := mem_seg.mp mx
        have gb : (k.2.map optS)[x.toNat]? = some (optS (k.2.getD x.toNat none)) := by
          rw [List.getElem?_map, List.getElem?_eq_getElem (by omega), List.getD_eq_getElem?_getD, List.getElem?_eq_getElem (by omega)]
          rfl
        walk_at "rd"
        have next : Ok1 L k i j x → ∀ v7 : Option V, Pw (n' + 1) [some (.ref l), some (.ref m), some (.int i), some (.int j), some (.ref q), some (.ref t), some (optS (wordP (L.take k.1) (segL i j))), v7] Hx := fun h v7 => by
          rw [hPw]
          refine ⟨v7, rfl, rfl, fun y hy => ?_⟩
          rw [List.take_add_one, gx] at hy
          rcases List.mem_append.mp hy with h' | h'
          · exact al2 y h'
          · rw [List.mem_singleton.mp h']
            exact h
        clear hPw
        refine ⟨_, SqT.of ht3, _, rfl, b, rfl, _, SqL.of hb3, _, at_of (j := x.toNat) (by omega) gb, ?_⟩
        have sc : scal (optS (k.2.getD x.toNat none)) (V.str (Str.ofString "?")) = true := optS_scal _ unS
        refine ⟨sc, ?_⟩
        dsimp only
        by_cases c1 : k.2.getD x.toNat none = unS
        · rw [c1]
          rw [show decide (optS unS = V.str (Str.ofString "?")) = true from decide_eq_true rfl]
          refine ⟨false, rfl, ?_⟩
          rw [if_neg (by decide), if_neg id]
          exact next (.inl c1) _
        · have c2 : ¬ optS (k.2.getD x.toNat none) = V.str (Str.ofString "?") := fun z => c1 (optS_inj (o' := unS) z)
          rw [decide_eq_false c2]
          refine ⟨true, rfl, ?_⟩
          rw [if_pos rfl]
          refine ⟨_, SqT.of ht3, _, rfl, b, rfl, _, SqL.of hb3, _, at_of (j := x.toNat) (by omega) gb, ?_⟩
          refine ⟨optS_scal _ _, ?_⟩
          dsimp only
          by_cases c3 : k.2.getD x.toNat none = wordP (L.take k.1) (segL i j)
          · rw [c3, decide_eq_true rfl]
            refine ⟨false, rfl, ?_⟩
            rw [if_neg (by decide)]
            exact next (.inr c3) _
          · rw [decide_eq_false (fun z => c3 (optS_inj z))]
            refine ⟨true, rfl, ?_⟩
            rw [if_pos rfl]
            refine ret false Hx s13 ⟨(fun z => by cases z), fun z => ?_⟩
            rcases z k mk x mx with h | h
            · exact absurd h c1
            · exact absurd h c3
      · rw [hPw] at pv
        obtain ⟨v7', rfl, rfl, al2⟩ := pv
        rw [List.length_map, List.take_length] at al2
        refine nxt _ _ _ _ (sm.trans s3) fun k' hk' => ?_
        rcases List.mem_append.mp hk' with h | h
        · exact al k' h
        · rw [List.mem_singleton.mp h]
          exact al2
end

def badX (L : List Cl) (k : Lk) (i j : Nat) (x : Int) : Bool := !inV (optS (k.2.getD x.toNat none)) [optS unS, optS (wordP (L.take k.1) (segL i j))]
theorem flat_opt (o : Option Str) : flatV (optS o) = true := by cases o <;> rfl
theorem eqV_opt (a b : Option Str) : eqV (optS a) (optS b) = decide (a = b) := by
  cases a with
  | none => cases b <;> rfl
  | some a =>
    cases b with
    | none => rfl
    | some b =>
      show (a == b) = decide (some a = some b)
      by_cases h : a = b
      · subst h
        simp
      · rw [decide_eq_false (fun z => h (Option.some.inj z))]
        exact beq_eq_false_iff_ne.mpr h
theorem badX_iff {L : List Cl} {k : Lk} {i j : Nat} {x : Int} : badX L k i j x = true ↔ ¬ Ok1 L k i j x := by
  unfold badX Ok1 inV
  rw [List.any_cons, List.any_cons, List.any_nil, eqV_opt, eqV_opt, Bool.or_false]
  by_cases h1 : k.2.getD x.toNat none = unS
  · rw [decide_eq_true h1.symm, Bool.true_or]
    exact ⟨fun z => (by cases z), fun z => absurd (.inl h1) z⟩
  · rw [decide_eq_false (fun z => h1 z.symm)]
    by_cases h2 : k.2.getD x.toNat none = wordP (L.take k.1) (segL i j)
    · rw [decide_eq_true h2.symm, Bool.or_true]
      exact ⟨fun z => (by cases z), fun z => absurd (.inr h2) z⟩
    · rw [decide_eq_false (fun z => h2 z.symm)]
      simp only [Bool.or_self, Bool.not_false, true_iff, not_or]
      exact ⟨h1, h2⟩
section
variable {P : Program} {w : World} {K : PySem.W.Frag} {mg : Str → Option Value} {base : Heap}
theorem scIsd : FnScope ["log", "looks", "stretch", "members", "count", "seen", "word", "room"] ["log", "looks", "stretch"] (defScope sIsd) := ⟨rfl, rfl, rfl, by decide +kernel, rfl, by decide +kernel, by decide +kernel⟩
theorem ok_isd {f fW : Addr} {fd fdW : FuncData} {tU : Tok} (F : Fun K "is_sound" "is_sound" sIsd f fd) (T : Bi mg) (anm : mg "any" = none) (mU : mg "UNSEEN" = some (.str (Str.ofString "?") tU)) (d_word_of : Df P w K mg base "word_of" ["log", "rooms"] 2 (spTopR K optW) fW fdW) : FnOk P w K mg base CX0 3 f fd ["log", "looks", "stretch"] (spSnd fun i j H xs => ∃ t, xs = [.ref t] ∧ H t = some (.tup [.int i, .int j])) := by
  refine F.ok scIsd (fun vs H Q E h => ?_) (fun cdv A0 outer s0 H vs Q E hr h => ?_)
  · obtain ⟨l, m, us, ms, L, ks, i, j, r, xs, rfl, ⟨t, rfl, _⟩, _⟩ := h
    rfl
  · obtain ⟨l, m, us, ms, L, ks, i, j, r, xs, rfl, ⟨t0, rfl, ht0⟩, hl, lg, hm, lk, klen, ij, jr, r12, ret⟩ := h
    refine ⟨_, (pss_cons (ps_set (i := 3) scIsd.nd rfl (Or.inl rfl) (pe_listRg rfl (by rfl) T.list (prg_2 (by rfl) T.range (pe_ix ix_tup (pv 2) pe_int (fun _ _ => rfl)) (pe_ix ix_tup (pv 2) pe_int (fun _ _ => rfl)))))
      (pss_cons (ps_for PassesOwn.never rfl (pi_list (pv 1)) (pg_tup rfl (pgs_cons (pg_name (i := 4) scIsd.nd rfl (Or.inl rfl)) (pgs_cons (pg_name (i := 5) scIsd.nd rfl (Or.inr rfl)) pgs_nil)))
      (pss_cons (ps_set (i := 6) scIsd.nd rfl (Or.inr rfl) (pe_call d_word_of.ok (hr.mono (by decide)) (by rfl) d_word_of.at_ d_word_of.kp d_word_of.b .nil pass0 (pa_cons (pe_slice sl_list (pv 0) po_none (po_some (pv 4))) (pa_cons (pv 3) pa_nil))))
        (pss_one (ps_if (pt_val (pe_callB (cr_any rfl) (by rfl) anm (by decide +kernel) (pa_cons (pe_lc (own := [("room", 7)]) (te := tOp (rIn K true) (tOp (rIxL K) (tVar 5) (tVar 7)) (tTup (tCons (tC (V.str (Str.ofString "?"))) (tCons (tVar 6) tNil)))) (by rfl) scIsd.nd (pi_list (pv 3)) (blkOk_by (N := ["log", "looks", "stretch", "members", "count", "seen", "word", "room"]) (sc := defScope sIsd) (by decide +kernel)) (fun _ _ _ _ _ => pg_name (i := 7) scIsd.nd rfl (Or.inl rfl)) (fun _ _ _ _ _ => pts_nil) (fun _ _ _ _ _ => (pe_cmpR op_notIn_seq (pe_ix ix_list (pv 5) (pv 7) (fun _ _ => rfl)) (pe_tup (pa_cons (pe_glob (by rfl) mU ⟨_, rfl⟩) (pa_cons (pv 6) pa_nil))) (by rfl)))) pa_nil)))
        (pss_one (ps_ret pe_bl))
        pss_nil))))
      (pss_one (ps_ret pe_bl)))), ?_⟩
    walk_at "rd"
    refine ⟨_, SqT.of ht0, _, rfl, _, SqT.of ht0, _, rfl, _, rfl, _, rfl, RgOk.of_le (by omega) (by omega) (by omega) (by omega), fun q nq => ?_⟩
    rw [segL_rg ij]
    have s1 := same_upd (o := HO.lst ((segL i j).map V.int)) nq
    have hq := upd_same (H := H) (a := q) (o := HO.lst ((segL i j).map V.int))
    generalize upd H q (HO.lst ((segL i j).map V.int)) = H1 at s1 hq ⊢
    have ml : ms.length = ks.length := Paired.length lk
    have hm1 := s1 _ _ hm
    have sl12 : (segL i j).length ≤ 12 := by unfold segL; rw [List.length_map, List.length_range]; omega
    obtain ⟨Pv, hPv⟩ : ∃ Pv : Nat → L2.St → Hp → Prop, Pv = (fun n σ Hx => ∃ (v4 v5 v6 : Option V), σ = [some (.ref l), some (.ref m), some (.ref t0), some (.ref q), v4, v5, v6, none] ∧ Same H1 Hx ∧ ∀ k ∈ ks.take n, ∀ x ∈ segL i j, Ok1 L k i j x) := ⟨_, rfl⟩
    refine ⟨_, rfl, m, rfl, ⟨_, SqL.of hm1⟩, for_list (K := K) (a := m) (xs := ms) Pv (by rw [hPv]; exact ⟨none, none, none, rfl, Same.refl _, fun k hk => by rw [List.take_zero] at hk; cases hk⟩) (fun n σ Hx _ pv => by rw [hPv] at pv; obtain ⟨_, _, _, _, s9, _⟩ := pv; exact SqL.of (s9 _ _ hm1)) (fun n v σ H2 gv pv => ?body) (fun σ H2 pv => ?done)⟩
    case done =>
      rw [hPv] at pv
      obtain ⟨v4, v5, v6, rfl, sm, al⟩ := pv
      rw [ml, List.take_length] at al
      walk_at "rd"
      exact ret true H2 (s1.trans sm) ⟨fun _ => al, fun _ => rfl⟩
    case body =>
      have nxt : ∀ (v4 v5 v6 : Option V) (Hx : Hp), Same H1 Hx → (∀ k ∈ ks.take (n + 1), ∀ x ∈ segL i j, Ok1 L k i j x) → Pv (n + 1) [some (.ref l), some (.ref m), some (.ref t0), some (.ref q), v4, v5, v6, none] Hx := fun v4 v5 v6 Hx h1 h2 => by
        rw [hPv]
        exact ⟨v4, v5, v6, rfl, h1, h2⟩
      rw [hPv] at pv
      obtain ⟨v4, v5, v6, rfl, sm, al⟩ := pv
      clear hPv
      obtain ⟨k, gk, t, b, rfl, ht0', hb0⟩ := pget lk gv
      have mk := List.mem_of_getElem? gk
      have kl := klen k mk
      rw [List.take_add_one, gk] at nxt
      have s12 := s1.trans sm
      have ht := s12 _ _ ht0'
      have hb := s12 _ _ hb0
      walk_at "rd"
      refine ⟨_, SqT.of ht, rfl, _, _, rfl, _, _, rfl, rfl, ?_⟩
      refine ⟨_, rfl, us, SqL.of (s12 _ _ hl), fun p np => ?_⟩
      rw [cut_takeU]
      have s3 := same_upd (o := HO.lst (us.take k.1)) np
      have hp := upd_same (H := H2) (a := p) (o := HO.lst (us.take k.1))
      generalize upd H2 p (HO.lst (us.take k.1)) = H3 at s3 hp ⊢
      have s13 := s12.trans s3
      refine ⟨p, q, us.take k.1, L.take k.1, segL i j, rfl, hp, lg_take (lg.kt (KT.same s13)) k.1, .inl (SqL.of ((sm.trans s3) _ _ hq)), ?_⟩
      rw [optW_S]
      have ew : (lastIn (segL i j) (L.take k.1)).map (·.2) = wordP (L.take k.1) (segL i j) := rfl
      rw [ew]
      have hq3 := (sm.trans s3) _ _ hq
      have hb3 := s3 _ _ hb
      dsimp only
      refine ⟨_, rfl, q, rfl, ⟨_, SqL.of hq3⟩, fun c nc => ?_⟩
      obtain ⟨Pw, hPw⟩ : ∃ Pw : Nat → Hp → Prop, Pw = (fun n' Hx => Same H3 Hx ∧ Hx c = some (.lst ((((segL i j).take n').map fun x => badX L k i j x).map V.bl))) := ⟨_, rfl⟩
      refine lc_list (K := K) (a := q) (xs := (segL i j).map V.int) Pw (by rw [hPw]; exact ⟨same_upd nc, upd_same⟩) (fun n' Hx _ pv => by rw [hPw] at pv; exact SqL.of (pv.1 _ _ hq3)) (fun n' v Hx gv2 pv => ?_) (fun H4 pv => ?_)
      · rw [hPw] at pv
        obtain ⟨sx, hc⟩ := pv
        rw [List.getElem?_map] at gv2
        obtain ⟨x, gx, rfl⟩ := Option.map_eq_some_iff.mp gv2
        have mx := List.mem_of_getElem? gx
        have bx := mem_seg.mp mx
        have gb : (k.2.map optS)[x.toNat]? = some (optS (k.2.getD x.toNat none)) := by
          rw [List.getElem?_map, List.getElem?_eq_getElem (by omega), List.getD_eq_getElem?_getD, List.getElem?_eq_getElem (by omega)]
          rfl
        simp only [wipe]
        walk_at "rd"
        refine ⟨_, SqL.of (sx _ _ hb3), _, at_of (j := x.toNat) (by omega) gb, by decide, fun e ne => ?_⟩
        have se := same_upd (o := HO.tup [V.str (Str.ofString "?"), optS (wordP (L.take k.1) (segL i j))]) ne
        have he := upd_same (H := Hx) (a := e) (o := HO.tup [V.str (Str.ofString "?"), optS (wordP (L.take k.1) (segL i j))])
        generalize upd Hx e (HO.tup [V.str (Str.ofString "?"), optS (wordP (L.take k.1) (segL i j))]) = Hy at se he ⊢
        refine ⟨e, _, rfl, .inr (SqT.of he), flat_opt _, by show ([optS unS, optS (wordP (L.take k.1) (segL i j))].all flatV) = true; rw [List.all_cons, List.all_cons, flat_opt, flat_opt]; rfl, ?_⟩
        refine ⟨_, se _ _ hc, len_big (by rw [List.length_map, List.length_map, List.length_take]; omega), ?_⟩
        rw [hPw]
        refine ⟨same_ch (sx.trans se) nc, ?_⟩
        rw [upd_same, List.take_add_one, gx]
        simp only [Option.toList_some, List.map_append, List.map_cons, List.map_nil]
        rfl
      · rw [hPw] at pv
        obtain ⟨sx, hc⟩ := pv
        rw [List.length_map, List.take_length] at hc
        refine ⟨c, _, rfl, SqL.of hc, ?_⟩
        dsimp only
        refine ⟨_, rfl, ?_⟩
        have an : (((segL i j).map fun x => badX L k i j x).any id) = true ↔ ¬ ∀ x ∈ segL i j, Ok1 L k i j x := by
          rw [List.any_map, List.any_eq_true]
          constructor
          · rintro ⟨x, hx, h⟩ z
            exact (badX_iff.mp h) (z x hx)
          · intro h
            exact Classical.byContradiction fun n => h fun x hx => Classical.byContradiction fun nx => n ⟨x, hx, badX_iff.mpr nx⟩
        by_cases c0 : ∀ x ∈ segL i j, Ok1 L k i j x
        · have e : (((segL i j).map fun x => badX L k i j x).any id) = false := by
            cases h : (((segL i j).map fun x => badX L k i j x).any id) with
            | false => rfl
            | true => exact absurd c0 (an.mp h)
          rw [e, if_neg (by decide)]
          refine nxt _ _ _ _ (sm.trans (s3.trans sx)) fun k' hk' => ?_
          rcases List.mem_append.mp hk' with h | h
          · exact al k' h
          · rw [List.mem_singleton.mp h]
            exact c0
        · rw [an.mpr c0, if_pos rfl]
          exact ret false H4 (s13.trans sx) ⟨(fun z => by cases z), fun z => absurd (z k mk) c0⟩
end

abbrev sSst : Stmt := topS 5
/-- the inner loop of a comprehension with two fors, over a range -/
theorem in_range {lo : Int} {n : Nat} {g : TG} {tt : TT} {te : TE} {vs : List Nat} {σ : L2.St} {H : Hp} {D : Addr} {Nx : Hp → Prop} (Pv : Nat → Hp → Prop) (h0 : Pv 0 H)
    (hs : ∀ i H, i < n → Pv i H → g (.int (lo + i)) (wipe σ vs) H fun σ2 H2 => wipe σ2 vs = wipe σ vs ∧ tt σ2 H2 fun b H3 => if b = true then te σ2 H3 fun y H4 => ∃ acc, H4 D = some (.lst acc) ∧ acc.length < sizeLine ∧ Pv (i + 1) (upd H4 D (.lst (acc ++ [y]))) else Pv (i + 1) H3)
    (hd : ∀ H, Pv n H → Nx H) :
    ∃ W : Nat → Nat → Hp → Prop, (∃ m, W 0 m H) ∧ ∀ j k H, W j k H → ((Itr lo n).stop j H ∧ Nx H) ∨ ((Itr lo n).go j H ∧ ∃ N1 : Hp → Prop, (∀ H', N1 H' → ∃ k', k' < k ∧ W (j + 1) k' H') ∧ ∀ x H', (Itr lo n).yld j H x H' → g x (wipe σ vs) H' fun σ3 H5 => wipe σ3 vs = wipe σ vs ∧ tt σ3 H5 fun b H6 =>
      if b = true then te σ3 H6 fun y H7 => ∃ acc, H7 D = some (.lst acc) ∧ acc.length < sizeLine ∧ N1 (upd H7 D (.lst (acc ++ [y]))) else N1 H6) := by
  refine ⟨fun i m H => m = n - i ∧ i ≤ n ∧ Pv i H, ⟨n, rfl, Nat.zero_le _, h0⟩, ?_⟩
  rintro i m H ⟨rfl, hi, p⟩
  by_cases lt : i < n
  · refine .inr ⟨lt, Pv (i + 1), fun H' q => ⟨n - (i + 1), by omega, rfl, lt, q⟩, ?_⟩
    rintro x H' ⟨rfl, rfl⟩
    exact hs i H' lt p
  · have e : i = n := by omega
    subst e
    exact .inl ⟨Nat.le_refl _, hd H p⟩
/-- the stretches of a corridor, ascending -/
def rowS (r i : Nat) : List Pr := (List.range (r - i)).map fun k => ((i : Int), ((i + 1 + k : Nat) : Int))
def allS (r : Nat) : List Pr := (List.range r).flatMap (rowS r)
theorem mem_allS {r : Nat} {d : Pr} : d ∈ allS r ↔ 0 ≤ d.1 ∧ d.1 < d.2 ∧ d.2 ≤ r := by
  unfold allS rowS
  rw [List.mem_flatMap]
  constructor
  · rintro ⟨i, hi, h⟩
    obtain ⟨k, hk, rfl⟩ := List.mem_map.mp h
    have := List.mem_range.mp hk
    exact ⟨by omega, by omega, by omega⟩
  · rintro ⟨h1, h2, h3⟩
    refine ⟨d.1.toNat, List.mem_range.mpr (by omega), List.mem_map.mpr ⟨(d.2 - d.1 - 1).toNat, List.mem_range.mpr (by omega), ?_⟩⟩
    refine Prod.ext ?_ ?_
    · show ((d.1.toNat : Nat) : Int) = d.1
      omega
    · show ((d.1.toNat + 1 + (d.2 - d.1 - 1).toNat : Nat) : Int) = d.2
      omega
theorem rowS_len (r i : Nat) : (rowS r i).length = r - i := by unfold rowS; rw [List.length_map, List.length_range]
theorem flat_len {α : Type} {f : Nat → List α} {c : Nat} (h : ∀ i, (f i).length ≤ c) : ∀ n : Nat, ((List.range n).flatMap f).length ≤ n * c
  | 0 => by simp
  | n + 1 => by
    rw [List.range_succ, List.flatMap_append, List.length_append]
    simp only [List.flatMap_cons, List.flatMap_nil, List.append_nil]
    have := flat_len h n
    have := h n
    rw [Nat.succ_mul]
    omega
open Classical in
/-- the sound ones -/
noncomputable def sndS (L : List Cl) (ks : List Lk) (ds : List Pr) : List Pr := ds.filter fun d => decide (Snd L ks d.1.toNat d.2.toNat)
section
variable {P : Program} {w : World} {K : PySem.W.Frag} {mg : Str → Option Value} {base : Heap}
theorem scSst : FnScope ["rooms", "log", "looks", "stretches", "i", "j", "stretch"] ["rooms", "log", "looks"] (defScope sSst) := ⟨rfl, rfl, rfl, by decide +kernel, rfl, by decide +kernel, by decide +kernel⟩
def spSst : Sp := fun vs H Q _ => ∃ (l m : Addr) (us ms : List V) (L : List Cl) (ks : List Lk) (r : Nat), vs = [.int r, .ref l, .ref m] ∧ H l = some (.lst us) ∧ LG H us L ∧ H m = some (.lst ms) ∧ LKs H ms ks ∧ (∀ k ∈ ks, k.2.length = r) ∧ r ≤ 12 ∧
  ∀ (p : Addr) (ws : List V) (H' : Hp), Same H H' → H' p = some (.lst ws) → PL H' ws (sndS L ks (allS r)) → Q (.ref p) H'
theorem ok_sst {f fS : Addr} {fd fdS : FuncData} (F : Fun K "sound_stretches" "sound_stretches" sSst f fd) (T : Bi mg) (d_is_sound : Df P w K mg base "is_sound" ["log", "looks", "stretch"] 3 (spSnd fun i j H xs => ∃ t, xs = [.ref t] ∧ H t = some (.tup [.int i, .int j])) fS fdS) : FnOk P w K mg base CX0 4 f fd ["rooms", "log", "looks"] spSst := by
  refine F.ok scSst (fun vs H Q E h => ?_) (fun cdv A0 outer s0 H vs Q E hr h => ?_)
  · obtain ⟨l, m, us, ms, L, ks, r, rfl, _⟩ := h
    rfl
  · obtain ⟨l, m, us, ms, L, ks, r, rfl, hl, lg, hm, lk, klen, r12, ret⟩ := h
    refine ⟨_, (pss_cons (ps_setLc2 (i := 3) (own := [("i", 4), ("j", 5)]) (vs1 := [5]) (by rfl) scSst.nd rfl rfl (sw_true rfl rfl rfl (by decide +kernel)) (pi_range1 (by rfl) T.range (pa_cons (pv 0) pa_nil)) (blkOk_by (N := ["rooms", "log", "looks", "stretches", "i", "j", "stretch"]) (sc := defScope sSst) (by decide +kernel)) (by decide) (fun _ _ _ _ _ => pg_name (i := 4) scSst.nd rfl (Or.inl rfl)) (fun _ _ _ _ _ => pts_nil) (fun _ _ _ _ _ => (pi_range2 (by rfl) T.range (pa_cons (pe_op op_add (pv 4) pe_int) (pa_cons (pe_op op_add (pv 0) pe_int) pa_nil)))) (fun _ _ _ _ _ => pg_name (i := 5) scSst.nd rfl (Or.inl rfl)) (fun _ _ _ _ _ => pts_nil) (fun _ _ _ _ _ => (pe_tup (pa_cons (pv 4) (pa_cons (pv 5) pa_nil)))))
      (pss_one (ps_ret (pe_lc (own := [("stretch", 6)]) (by rfl) scSst.nd (pi_list (pv 3)) (blkOk_by (N := ["rooms", "log", "looks", "stretches", "i", "j", "stretch"]) (sc := defScope sSst) (by decide +kernel)) (fun _ _ _ _ _ => pg_name (i := 6) scSst.nd rfl (Or.inl rfl)) (fun _ _ _ _ _ => (pts_one (pt_val (pe_call d_is_sound.ok (hr.mono (by decide)) (by rfl) d_is_sound.at_ d_is_sound.kp d_is_sound.b .nil pass0 (pa_cons (pv 1) (pa_cons (pv 2) (pa_cons (pv 6) pa_nil))))))) (fun _ _ _ _ _ => (pv 6)))))), ?_⟩
    walk_at "rd"
    have len78 : ∀ i, i ≤ r → ((List.range i).flatMap (rowS r)).length ≤ 144 := fun i h => by
      have := flat_len (f := rowS r) (c := 12) (fun i => by rw [rowS_len]; omega) i
      omega
    refine ⟨_, rfl, r, rfl, by omega, by omega, fun c nc => ?_⟩
    obtain ⟨Pv, hPv⟩ : ∃ Pv : Nat → Hp → Prop, Pv = (fun i Hx => ∃ ws, Same H Hx ∧ Hx c = some (.lst ws) ∧ PL Hx ws ((List.range i).flatMap (rowS r))) := ⟨_, rfl⟩
    refine ⟨fun i m Hx => m = (r : Int).toNat - i ∧ i ≤ (r : Int).toNat ∧ Pv i Hx, ⟨_, rfl, Nat.zero_le _, by rw [hPv]; exact ⟨[], same_upd nc, upd_same, PL.nil0 _⟩⟩, ?_⟩
    rintro i m Hx ⟨rfl, hi, pv⟩
    by_cases lt : i < (r : Int).toNat
    · refine .inr ⟨lt, Pv (i + 1), fun H' q => ⟨_, by omega, rfl, lt, q⟩, ?_⟩
      rintro x H' ⟨rfl, rfl⟩
      have nxt : ∀ ws Hx, Same H Hx → Hx c = some (.lst ws) → PL Hx ws ((List.range (i + 1)).flatMap (rowS r)) → Pv (i + 1) Hx := fun ws Hx h1 h2 h3 => by
        rw [hPv]
        exact ⟨ws, h1, h2, h3⟩
      rw [hPv] at pv
      obtain ⟨ws, sm, hc, pw⟩ := pv
      obtain ⟨Pw, hPw⟩ : ∃ Pw : Nat → Hp → Prop, Pw = (fun j Hx => ∃ ws, Same H Hx ∧ Hx c = some (.lst ws) ∧ PL Hx ws ((List.range i).flatMap (rowS r) ++ (List.range j).map fun k => (((i : Int), ((i + 1 + k : Nat) : Int)) : Pr))) := ⟨_, rfl⟩
      refine ⟨rfl, iteT (B := True) ?_⟩
      rw [if_pos rfl]
      have i64 : (0 : Int) + (i : Int) + 1 = ((i + 1 : Nat) : Int) := by omega
      have nd : ((r : Int) + 1 - (0 + (i : Int) + 1)).toNat = r - i := by omega
      have IR := in_range (lo := 0 + (i : Int) + 1) (n := ((r : Int) + 1 - (0 + (i : Int) + 1)).toNat) (g := gName 5) (tt := tYes) (te := tTup (tCons (tVar 4) (tCons (tVar 5) tNil))) (vs := [5]) (σ := [some (V.int r), some (V.ref l), some (V.ref m), none, some (V.int (0 + (i : Int))), none, none]) (H := H') (D := c) (Nx := Pv (i + 1)) Pw (by rw [hPw]; exact ⟨ws, sm, hc, by rw [List.range_zero, List.map_nil, List.append_nil]; exact pw⟩) (fun j Hy hj pv => ?_) (fun Hy pv => ?_)
      · walk_at "rd"
        refine ⟨_, rfl, 0 + (i:Int), rfl, _, rfl, (r:Int), rfl, by omega, by omega, by omega, by omega, ?_⟩
        exact IR
      · have nxw : ∀ ws Hx, Same H Hx → Hx c = some (.lst ws) → PL Hx ws ((List.range i).flatMap (rowS r) ++ (List.range (j + 1)).map fun k => (((i : Int), ((i + 1 + k : Nat) : Int)) : Pr)) → Pw (j + 1) Hx := fun ws Hx h1 h2 h3 => by
          rw [hPw]
          exact ⟨ws, h1, h2, h3⟩
        rw [hPw] at pv
        obtain ⟨zs, s2, hc2, pz⟩ := pv
        have l1 := len78 i (by omega)
        have zl : zs.length ≤ 200 := by
          rw [pz.len, List.length_append, List.length_map, List.length_range]
          omega
        simp only [wipe]
        walk_at "rd"
        refine ⟨(by show 2 ≤ sizeLine; decide), fun t nt => ?_⟩
        have nct : c ≠ t := ne_of_none hc2 nt
        refine ⟨zs, by rw [upd_ne nct]; exact hc2, len_big (by omega), nxw (zs ++ [.ref t]) _ (same_ch (s2.trans (same_upd nt)) nc) upd_same ?_⟩
        rw [List.range_succ, List.map_append, ← List.append_assoc]
        refine PL.snoc ((pz.kt (KT.new nt)).kt (KT.lst (by rw [upd_ne nct]; exact hc2))) ⟨t, rfl, ?_⟩
        rw [upd_ne nct.symm, upd_same, Int.zero_add, show ((i : Int) + 1 + (j : Int)) = ((i + 1 + j : Nat) : Int) by omega]
      · rw [hPw] at pv
        obtain ⟨zs, s2, hc2, pz⟩ := pv
        refine nxt zs Hy s2 hc2 ?_
        rw [nd] at pz
        rw [List.range_succ, List.flatMap_append, List.flatMap_cons, List.flatMap_nil, List.append_nil]
        exact pz
    · have e : i = r := by omega
      rw [hPv] at pv
      obtain ⟨ws, sm, hc, pw⟩ := pv
      refine .inl ⟨by show (r : Int).toNat ≤ i; omega, ?_⟩
      rw [e] at pw
      change PL Hx ws (allS r) at pw
      have wl : ws.length ≤ 144 := by
        rw [pw.len]
        exact len78 r (Nat.le_refl _)
      walk_at "rd"
      refine ⟨_, rfl, c, rfl, ⟨_, SqL.of hc⟩, fun e ne => ?_⟩
      obtain ⟨Pf, hPf⟩ : ∃ Pf : Nat → Hp → Prop, Pf = (fun k Hy => Same Hx Hy ∧ ∃ zs, Hy e = some (.lst zs) ∧ PL Hy zs (sndS L ks ((allS r).take k))) := ⟨_, rfl⟩
      have al : (allS r).length ≤ 144 := len78 r (Nat.le_refl _)
      refine lc_list (K := K) (a := c) (xs := ws) Pf (by rw [hPf]; exact ⟨same_upd ne, [], upd_same, by rw [List.take_zero]; exact PL.nil0 _⟩) (fun k Hy _ pv => by rw [hPf] at pv; exact SqL.of (pv.1 _ _ hc)) (fun k v Hy gv pv => ?_) (fun Hy pv => ?_)
      · obtain ⟨d, gd, t, rfl, ht⟩ := pw.get gv
        have md := mem_allS.mp (List.mem_of_getElem? gd)
        have nxt : ∀ zs Hz, Same Hx Hz → Hz e = some (.lst zs) → PL Hz zs (sndS L ks ((allS r).take k) ++ sndS L ks [d]) → Pf (k + 1) Hz := fun zs Hz h1 h2 h3 => by
          rw [hPf]
          refine ⟨h1, zs, h2, ?_⟩
          rw [List.take_add_one, gd]
          unfold sndS at h3 ⊢
          rw [List.filter_append]
          exact h3
        rw [hPf] at pv
        obtain ⟨sx, zs, he, pz⟩ := pv
        have zl : zs.length ≤ 144 := by
          rw [pz.len]
          refine Nat.le_trans (List.length_filter_le _ _) ?_
          rw [List.length_take]
          omega
        simp only [wipe]
        walk_at "rd"
        have s2 := sm.trans sx
        refine ⟨l, m, us, ms, L, ks, d.1.toNat, d.2.toNat, r, [.ref t], rfl, ⟨t, rfl, ?_⟩, s2 _ _ hl, lg.kt (KT.same s2), s2 _ _ hm, lk.same s2, klen, by omega, by omega, r12, ?_⟩
        · have := sx _ _ ht
          rw [this, show ((d.1.toNat : Nat) : Int) = d.1 by omega, show ((d.2.toNat : Nat) : Int) = d.2 by omega]
        intro b Hz sz hb
        have tz := sz _ _ (sx _ _ ht)
        have he' := sz _ _ he
        have pz' := pz.kt (KT.same sz)
        refine ⟨b, rfl, ?_⟩
        by_cases c0 : Snd L ks d.1.toNat d.2.toNat
        · rw [if_pos (hb.mpr c0)]
          refine ⟨zs, sz _ _ he, len_big (by omega), nxt (zs ++ [.ref t]) _ (same_ch (sx.trans sz) ne) upd_same ?_⟩
          unfold sndS
          rw [List.filter_cons_of_pos (by simpa using c0), List.filter_nil]
          refine PL.snoc (pz'.kt (KT.lst (sz _ _ he))) ⟨t, rfl, ?_⟩
          rw [upd_ne (fun z => by rw [z] at tz; rw [tz] at he'; cases he'), tz]
        · rw [if_neg (fun z => c0 (hb.mp z))]
          refine nxt zs _ (sx.trans sz) (sz _ _ he) ?_
          unfold sndS
          rw [List.filter_cons_of_neg (by simpa using c0), List.filter_nil, List.append_nil]
          exact pz'
      · rw [hPf] at pv
        obtain ⟨sx, zs, he, pz⟩ := pv
        rw [pw.len, List.take_length] at pz
        exact ret e zs Hy (sm.trans sx) he pz
end

abbrev sCa : Stmt := topS 7
/-! ### chains of stretches -/
inductive Ch (T : List Pr) : Int → List Int → Prop
  | nil : Ch T 0 []
  | snoc {i j : Int} {ps : List Int} : Ch T i ps → (i, j) ∈ T → Ch T j (ps ++ [j])
def AscS (T : List Pr) (r : Nat) : Prop := (∀ d ∈ T, 0 ≤ d.1 ∧ d.1 < d.2 ∧ d.2 ≤ r) ∧ T.Pairwise fun e f => e.1 ≤ f.1
theorem Ch.mono {T U : List Pr} (h : ∀ d ∈ T, d ∈ U) {x : Int} {ps : List Int} (c : Ch T x ps) : Ch U x ps := by
  induction c with
  | nil => exact .nil
  | snoc _ m ih => exact .snoc ih (h _ m)
theorem Ch.rng {T : List Pr} {r : Nat} (h : ∀ d ∈ T, 0 ≤ d.1 ∧ d.1 < d.2 ∧ d.2 ≤ r) {x : Int} {ps : List Int} (c : Ch T x ps) : 0 ≤ x ∧ x ≤ r ∧ (ps.length : Int) ≤ x := by
  induction c with
  | nil => exact ⟨by omega, by omega, by simp⟩
  | @snoc i j ps _ m ih =>
    have := h _ m
    refine ⟨by omega, this.2.2, ?_⟩
    rw [List.length_append]
    show ((ps.length + 1 : Nat) : Int) ≤ j
    have h2 := this.2.1
    dsimp only at h2
    omega
theorem Ch.old {T : List Pr} {d : Pr} (h : ∀ e ∈ T ++ [d], e.1 < e.2) {x : Int} {ps : List Int} (c : Ch (T ++ [d]) x ps) (le : x ≤ d.1) : Ch T x ps := by
  induction c with
  | nil => exact .nil
  | @snoc i j ps _ m ih =>
    have h1 := h _ m
    have h2 := h d (by simp)
    dsimp only at h1
    rcases List.mem_append.mp m with m | m
    · exact .snoc (ih (by omega)) m
    · have e := List.mem_singleton.mp m
      have e2 : j = d.2 := by rw [← e]
      omega
theorem Ch.new {T : List Pr} {d : Pr} (h : ∀ e ∈ T ++ [d], e.1 < e.2) (le : ∀ e ∈ T, e.1 ≤ d.1) {x : Int} {ps : List Int} (c : Ch (T ++ [d]) x ps) : Ch T x ps ∨ (x = d.2 ∧ ∃ qs, ps = qs ++ [d.2] ∧ Ch T d.1 qs) := by
  cases c with
  | nil => exact .inl .nil
  | @snoc i j ps c m =>
    rcases List.mem_append.mp m with m | m
    · exact .inl (.snoc (c.old h (le _ m)) m)
    · have e := List.mem_singleton.mp m
      have e1 : i = d.1 := by rw [← e]
      have e2 : x = d.2 := by rw [← e]
      refine .inr ⟨e2, ps, by rw [e2], ?_⟩
      exact (e1 ▸ c).old h (Int.le_refl _)
/-! ### the table of the best -/
structure Bst (H : Hp) (r : Nat) (kvs : List (Key × V)) (T : List Pr) : Prop where
  hit : ∀ x v, valV kvs (Sum.inl x : Key) = some v → ∃ qs, IsT H v qs ∧ Ch T x qs ∧ ∀ ps, Ch T x ps → sle qs ps
  all : ∀ x ps, Ch T x ps → (valV kvs (Sum.inl x : Key)).isSome = true
  keys : ∃ xs : List Int, kvs.map (·.1) = xs.map Sum.inl ∧ xs.Nodup ∧ ∀ x ∈ xs, 0 ≤ x ∧ x ≤ r
theorem Bst.kt {H H' : Hp} {r : Nat} {kvs : List (Key × V)} {T : List Pr} (h : Bst H r kvs T) (k : ∀ t xs, H t = some (.tup xs) → H' t = some (.tup xs)) : Bst H' r kvs T := ⟨fun x v e => by
  obtain ⟨qs, ⟨t, e1, e2⟩, h2⟩ := h.hit x v e
  exact ⟨qs, ⟨t, e1, k _ _ e2⟩, h2⟩, h.all, h.keys⟩
theorem Bst.key {H : Hp} {r : Nat} {kvs : List (Key × V)} {T : List Pr} (h : Bst H r kvs T) {xs : List Int} (e : kvs.map (·.1) = xs.map Sum.inl) (x : Int) : x ∈ xs ↔ (valV kvs (Sum.inl x : Key)).isSome = true := by
  rw [← valV_any, List.any_eq_true]
  constructor
  · intro m
    have m2 : (Sum.inl x : Key) ∈ kvs.map (·.1) := by rw [e]; exact List.mem_map.mpr ⟨x, m, rfl⟩
    obtain ⟨kv, h1, h2⟩ := List.mem_map.mp m2
    exact ⟨kv, h1, decide_eq_true h2⟩
  · rintro ⟨kv, h1, h2⟩
    have m2 : kv.1 ∈ xs.map (Sum.inl : Int → Key) := by rw [← e]; exact List.mem_map.mpr ⟨kv, h1, rfl⟩
    rw [of_decide_eq_true h2] at m2
    obtain ⟨y, h3, h4⟩ := List.mem_map.mp m2
    rw [← Sum.inl.inj h4]
    exact h3
theorem Bst.keep {H : Hp} {r : Nat} {kvs : List (Key × V)} {T : List Pr} {d : Pr} (b : Bst H r kvs T) (h : ∀ e ∈ T ++ [d], e.1 < e.2) (le : ∀ e ∈ T, e.1 ≤ d.1)
    (k : ∀ qs, Ch T d.1 qs → ∃ v q0, valV kvs (Sum.inl d.2 : Key) = some v ∧ IsT H v q0 ∧ sle q0 (qs ++ [d.2])) : Bst H r kvs (T ++ [d]) := by
  refine ⟨fun x v e => ?_, fun x ps c => ?_, b.keys⟩
  · obtain ⟨qs, h1, h2, h3⟩ := b.hit x v e
    refine ⟨qs, h1, h2.mono fun d hd => List.mem_append_left _ hd, fun ps c => ?_⟩
    rcases c.new h le with c | ⟨rfl, q, rfl, c2⟩
    · exact h3 ps c
    · obtain ⟨v', q0, e2, i2, s2⟩ := k q c2
      rw [e] at e2
      have e3 := Option.some.inj e2
      subst e3
      have : q0 = qs := by
        obtain ⟨t, e4, h4⟩ := h1
        obtain ⟨t', e5, h5⟩ := i2
        have e6 : t' = t := by rw [e4] at e5; exact (V.ref.inj e5).symm
        rw [e6, h4] at h5
        have e7 := HO.tup.inj (Option.some.inj h5)
        exact (List.map_inj_right (fun a b e => V.int.inj e) |>.mp e7).symm
      rw [← this]
      exact s2
  · rcases c.new h le with c | ⟨rfl, q, rfl, c2⟩
    · exact b.all x ps c
    · obtain ⟨v', _, e2, _⟩ := k q c2
      rw [e2]
      rfl
theorem putK_keys (kvs : List (Key × V)) (k : Key) (v : V) : (putK kvs k v).map (·.1) = if (valV kvs k).isSome = true then kvs.map (·.1) else kvs.map (·.1) ++ [k] := by
  unfold putK
  rw [valV_any]
  split
  · rw [List.map_map]
    refine List.map_congr_left fun kv _ => ?_
    show (if kv.1 = k then (kv.1, v) else kv).1 = kv.1
    split <;> rfl
  · rw [List.map_append]
    rfl
theorem Bst.put {H : Hp} {r : Nat} {kvs : List (Key × V)} {T : List Pr} {d : Pr} {v : V} {q0 : List Int} (b : Bst H r kvs T) (h : ∀ e ∈ T ++ [d], e.1 < e.2) (le : ∀ e ∈ T, e.1 ≤ d.1) (rg : 0 ≤ d.2 ∧ d.2 ≤ r)
    (c0 : Ch T d.1 q0) (l0 : ∀ ps, Ch T d.1 ps → sle q0 ps) (iv : IsT H v (q0 ++ [d.2])) (l1 : ∀ ps, Ch T d.2 ps → sle (q0 ++ [d.2]) ps) : Bst H r (putK kvs (Sum.inl d.2) v) (T ++ [d]) := by
  refine ⟨fun x u e => ?_, fun x ps c => ?_, ?_⟩
  · rw [valV_put] at e
    by_cases hx : x = d.2
    · subst hx
      rw [if_pos rfl] at e
      have e := Option.some.inj e
      subst e
      refine ⟨_, iv, .snoc (c0.mono fun d hd => List.mem_append_left _ hd) (by simp), fun ps c => ?_⟩
      rcases c.new h le with c | ⟨_, q, rfl, c2⟩
      · exact l1 ps c
      · exact sle_app _ (l0 q c2)
    · rw [if_neg (fun z => hx (Sum.inl.inj z))] at e
      obtain ⟨qs, h1, h2, h3⟩ := b.hit x u e
      refine ⟨qs, h1, h2.mono fun d hd => List.mem_append_left _ hd, fun ps c => ?_⟩
      rcases c.new h le with c | ⟨z, _⟩
      · exact h3 ps c
      · exact absurd z hx
  · rw [valV_put]
    by_cases hx : x = d.2
    · rw [if_pos (by rw [hx])]
      rfl
    · rw [if_neg (fun z => hx (Sum.inl.inj z))]
      rcases c.new h le with c | ⟨z, _⟩
      · exact b.all x ps c
      · exact absurd z hx
  · obtain ⟨xs, e, nd, rn⟩ := b.keys
    rw [putK_keys]
    by_cases s : (valV kvs (Sum.inl d.2 : Key)).isSome = true
    · rw [if_pos s]
      exact ⟨xs, e, nd, rn⟩
    · rw [if_neg s]
      refine ⟨xs ++ [d.2], by rw [e, List.map_append]; rfl, ?_, fun x hx => ?_⟩
      · rw [List.nodup_append]
        refine ⟨nd, by simp, fun a ha y hb z => ?_⟩
        rw [List.mem_singleton.mp hb] at z
        rw [z] at ha
        exact s ((b.key e _).mp ha)
      · rcases List.mem_append.mp hx with m | m
        · exact rn x m
        · rw [List.mem_singleton.mp m]
          exact rg
theorem allS_pw (r : Nat) : (allS r).Pairwise fun e f => e.1 ≤ f.1 := by
  unfold allS
  rw [List.pairwise_flatMap]
  constructor
  · intro i _
    unfold rowS
    rw [List.pairwise_map]
    exact List.Pairwise.imp (fun _ => Int.le_refl _) (List.pairwise_lt_range (n := r - i))
  · refine List.Pairwise.imp (fun {a b} lt x hx y hy => ?_) (List.pairwise_lt_range (n := r))
    unfold rowS at hx hy
    obtain ⟨_, _, rfl⟩ := List.mem_map.mp hx
    obtain ⟨_, _, rfl⟩ := List.mem_map.mp hy
    dsimp only
    omega
theorem sndS_asc (L : List Cl) (ks : List Lk) (r : Nat) : AscS (sndS L ks (allS r)) r := ⟨fun d hd => mem_allS.mp (List.mem_filter.mp hd).1, (allS_pw r).sublist List.filter_sublist⟩
theorem asc_step {D : List Pr} {r k : Nat} {d : Pr} (h : AscS D r) (g : D[k]? = some d) : (∀ e ∈ D.take k ++ [d], e.1 < e.2) ∧ (∀ e ∈ D.take k, e.1 ≤ d.1) ∧ D.take (k + 1) = D.take k ++ [d] := by
  have md := List.mem_of_getElem? g
  refine ⟨fun e he => ?_, fun e he => ?_, by rw [List.take_add_one, g]; rfl⟩
  · rcases List.mem_append.mp he with m | m
    · exact (h.1 e (List.mem_of_mem_take m)).2.1
    · rw [List.mem_singleton.mp m]
      exact (h.1 d md).2.1
  · have e1 : D = D.take k ++ d :: D.drop (k + 1) := by
      obtain ⟨lt, e⟩ := List.getElem?_eq_some_iff.mp g
      rw [← e, List.getElem_cons_drop, List.take_append_drop]
    have pw := h.2
    rw [e1, List.pairwise_append] at pw
    exact pw.2.2 e he d List.mem_cons_self

def rLtD (K : PySem.W.Frag) (n : Nat) : R2 := fun x y H Q => ∃ d e, Dp K H x d ∧ Dp K H y e ∧ PySem.W.alike d e = true ∧ d ≠ .none ∧ d.depth ≤ n ∧ Q (.bl (PySem.W.dataLt d e)) H
theorem op_ltD {X : Cx} {n : Nat} (hu : X.A.units + n < cLine) : OpR X (compareOp .Lt) (rLtD X.K n) := by
  intro pins s σ H x y v u Q I rx ry h
  obtain ⟨d, e, hd, he, al, nn, dep, q⟩ := h
  obtain ⟨as, r1⟩ := Dp.reads I d x v hd rx
  obtain ⟨bs, r2⟩ := Dp.reads I e y u he ry
  exact PySem.W.lt_data r1 r2 al nn (by have := Nat.min_le_left d.depth e.depth; omega) ⟨.bl _, H, I, rfl, q⟩
theorem catA_ok {K : PySem.W.Frag} {H : Hp} {a b : Addr} {xs ys : List Int} {Q : VK} (ha : H a = some (.tup (xs.map V.int))) (hb : H b = some (.tup (ys.map V.int))) (len : xs.length + ys.length ≤ 1000) (q : ∀ (t2 : Addr) (H' : Hp), Same H H' → H' t2 = some (.tup ((xs ++ ys).map V.int)) → Q (.ref t2) H') : rCatA K (.ref a) (.ref b) H Q := by
  refine ⟨a, b, _, _, rfl, rfl, SqT.of ha, SqT.of hb, by rw [List.length_map, List.length_map]; exact Nat.le_of_lt (len_big (by omega)), fun e => q b H (Same.refl _) ?_, fun _ e => q a H (Same.refl _) ?_, fun _ _ p np => q p _ (same_upd np) ?_⟩
  · rw [List.map_eq_nil_iff.mp e]
    exact hb
  · rw [List.map_eq_nil_iff.mp e, List.append_nil]
    exact ha
  · rw [List.map_append, upd_same]
theorem Ch.last {T : List Pr} {x : Int} {ps : List Int} (c : Ch T x ps) (h : x ≠ 0) : ∃ cs, ps = cs ++ [x] := by
  cases c with
  | nil => exact absurd rfl h
  | snoc _ _ => exact ⟨_, rfl⟩
theorem u1 {u : Nat} (h : u + 64 < cLine) : u + 1 < cLine := by omega
theorem slA_last {K : PySem.W.Frag} {H : Hp} {t : Addr} {ps : List Int} {Q : VK} (hne : ps ≠ []) (ht : H t = some (.tup (ps.map V.int))) (q : ∀ (t2 : Addr) (H' : Hp), Same H H' → H' t2 = some (.tup (ps.dropLast.map V.int)) → Q (.ref t2) H') : rSlA K (.ref t) none (some (-1)) H Q := by
  have l := List.length_pos_iff.mpr hne
  have e : HT.sIx (ps.map V.int).length (ps.map V.int).length (some (-1)) = ps.length - 1 := by
    rw [List.length_map]
    unfold HT.sIx
    simp
    omega
  refine ⟨t, _, rfl, SqT.of ht, fun h => ?_, fun _ p np => q p _ (same_upd np) ?_⟩
  · have h2 := h.2
    rw [e, List.length_map] at h2
    omega
  · unfold cutV
    rw [e, HT.sIx_none, List.drop_zero, Nat.sub_zero, ← List.map_take, ← List.dropLast_eq_take, upd_same]
section
variable {P : Program} {w : World} {K : PySem.W.Frag} {mg : Str → Option Value} {base : Heap}
theorem scCa : FnScope ["rooms", "log", "looks", "best", "i", "j", "places"] ["rooms", "log", "looks"] (defScope sCa) := ⟨rfl, rfl, rfl, by decide +kernel, rfl, by decide +kernel, by decide +kernel⟩
/-- the fewest cuts that fit, the least of these; or the places that are reached -/
def AnsH (H : Hp) (L : List Cl) (ks : List Lk) (r : Nat) (q : Addr) : Prop :=
  (∃ (t : Addr) (cs : List Int), H q = some (.tup [.str (Str.ofString "cuts"), .ref t]) ∧ H t = some (.tup (cs.map V.int)) ∧ Ch (sndS L ks (allS r)) r (cs ++ [(r : Int)]) ∧ ∀ ps, Ch (sndS L ks (allS r)) r ps → sle (cs ++ [(r : Int)]) ps) ∨
  (∃ (t : Addr) (ys : List Int), H q = some (.tup [.str (Str.ofString "wall"), .ref t]) ∧ H t = some (.tup (ys.map V.int)) ∧ ys.Pairwise (· ≤ ·) ∧ ys.Nodup ∧ (∀ x, x ∈ ys ↔ ∃ ps, Ch (sndS L ks (allS r)) x ps) ∧ (r : Int) ∉ ys)
def spCa : Sp := fun vs H Q _ => ∃ (l m : Addr) (us ms : List V) (L : List Cl) (ks : List Lk) (r : Nat), vs = [.int r, .ref l, .ref m] ∧ H l = some (.lst us) ∧ LG H us L ∧ H m = some (.lst ms) ∧ LKs H ms ks ∧ (∀ k ∈ ks, k.2.length = r) ∧ 1 ≤ r ∧ r ≤ 12 ∧
  ∀ (q : Addr) (H' : Hp), Same H H' → AnsH H' L ks r q → Q (.ref q) H'
theorem ok_ca {f fS : Addr} {fd fdS : FuncData} (F : Fun K "cuts_answer" "cuts_answer" sCa f fd) (T : Bi mg) (d_sound_stretches : Df P w K mg base "sound_stretches" ["rooms", "log", "looks"] 4 spSst fS fdS) : FnOk P w K mg base CX0 5 f fd ["rooms", "log", "looks"] spCa := by
  refine F.ok scCa (fun vs H Q E h => ?_) (fun cdv A0 outer s0 H vs Q E hr h => ?_)
  · obtain ⟨l, m, us, ms, L, ks, r, rfl, _⟩ := h
    rfl
  · obtain ⟨l, m, us, ms, L, ks, r, rfl, hl, lg, hm, lk, klen, r1, r12, ret⟩ := h
    refine ⟨_, (pss_cons (ps_set (i := 3) scCa.nd rfl (Or.inl rfl) (pe_disp (pps_cons pe_int (pe_tup pa_nil) pps_nil) (by rfl) (by rfl) (by decide) (by decide)))
      (pss_cons (ps_for PassesOwn.never rfl (pi_list (pe_call d_sound_stretches.ok (hr.mono (by decide)) (by rfl) d_sound_stretches.at_ d_sound_stretches.kp d_sound_stretches.b .nil pass0 (pa_cons (pv 0) (pa_cons (pv 1) (pa_cons (pv 2) pa_nil))))) (pg_tup rfl (pgs_cons (pg_name (i := 4) scCa.nd rfl (Or.inl rfl)) (pgs_cons (pg_name (i := 5) scCa.nd rfl (Or.inl rfl)) pgs_nil)))
      (pss_one (ps_if (pt_cmp (pc_din (u1 hr.units) (pv 4) (pv 3)))
        (pss_cons (ps_set (i := 6) scCa.nd rfl (Or.inl rfl) (pe_op op_catA (pe_dget (u1 hr.units) (pv 3) (pv 4) (fun _ _ => rfl)) (pe_tup (pa_cons (pv 5) pa_nil))))
          (pss_one (ps_if (PW.pt (pw_or (pt_cmp (pc_dnotin (u1 hr.units) (pv 5) (pv 3))) (pw_or1 (pt_cmpR (op_ltD (n := 2) (Room.u2 hr)) (pe_tup (pa_cons (pe_callB call_len_seq (by rfl) T.len (by decide +kernel) (pa_cons (pv 6) pa_nil)) (pa_cons (pv 6) pa_nil))) (pe_tup (pa_cons (pe_callB call_len_seq (by rfl) T.len (by decide +kernel) (pa_cons (pe_dget (u1 hr.units) (pv 3) (pv 5) (fun _ _ => rfl)) pa_nil)) (pa_cons (pe_dget (u1 hr.units) (pv 3) (pv 5) (fun _ _ => rfl)) pa_nil))) (nomark _)))))
          (pss_one (ps_dput (u1 hr.units) (pv 3) (pv 5) (pv 6) rfl))
          pss_nil)))
        pss_nil)))
      (pss_cons (ps_if (pt_cmp (pc_din (u1 hr.units) (pv 0) (pv 3)))
      (pss_one (ps_ret (pe_tup (pa_cons pe_str (pa_cons (pe_slice sl_tupA (pe_dget (u1 hr.units) (pv 3) (pv 0) (fun _ _ => rfl)) po_none (po_some (pe_un un_neg pe_int))) pa_nil)))))
      pss_nil)
      (pss_one (ps_ret (pe_tup (pa_cons pe_str (pa_cons (pe_callTy call_tuple_of (by rfl) T.tuple (by decide +kernel) (pa_cons (pe_callB (call_sortedDI rfl) (by rfl) T.sorted (by decide +kernel) (pa_cons (pv 3) pa_nil)) pa_nil)) pa_nil)))))))), ?_⟩
    walk_at "rd"
    have asc := sndS_asc L ks r
    obtain ⟨D, hD⟩ : ∃ D, D = sndS L ks (allS r) := ⟨_, rfl⟩
    rw [← hD] at asc
    intro d nd
    unfold tPairs
    walk_at "rd"
    refine ⟨Nat.zero_le _, fun e ne => ?_⟩
    unfold tPairs
    have ned : e ≠ d := fun z => by rw [z, upd_same] at ne; cases ne
    have s1 : Same H (upd (upd (upd H d (.dK [])) e (.tup [])) d (.dK [(Sum.inl 0, .ref e)])) := same_ch ((same_upd nd).trans (same_upd ne)) nd
    refine ⟨by rw [upd_ne ned.symm, upd_same], [(Sum.inl 0, .ref e)], rfl, Nat.le_add_left 1 14, ?_⟩
    have hd1 : (upd (upd (upd H d (.dK [])) e (.tup [])) d (.dK [(Sum.inl 0, .ref e)])) d = some (.dK [(Sum.inl 0, .ref e)]) := upd_same
    have he1 : (upd (upd (upd H d (.dK [])) e (.tup [])) d (.dK [(Sum.inl 0, .ref e)])) e = some (.tup []) := by rw [upd_ne ned, upd_same]
    rw [show mergeK [] [((Sum.inl 0 : Key), V.ref e)] = [(Sum.inl 0, .ref e)] from rfl]
    generalize upd (upd (upd H d (.dK [])) e (.tup [])) d (.dK [(Sum.inl 0, .ref e)]) = H1 at s1 hd1 he1 ⊢
    refine for_iterW ?_
    walk_at "rd"
    refine ⟨l, m, us, ms, L, ks, r, rfl, s1 _ _ hl, lg.kt (KT.same s1), s1 _ _ hm, lk.same s1, klen, r12, fun p ws H2 s2 hp pw => ?_⟩
    rw [← hD] at pw
    have hd2 := s2 _ _ hd1
    have b0 : Bst H2 r [((Sum.inl 0 : Key), V.ref e)] [] := by
      refine ⟨fun x v hx => ?_, fun x ps c => ?_, [0], rfl, by simp, fun x hx => by rw [List.mem_singleton.mp hx]; omega⟩
      · by_cases x0 : x = 0
        · subst x0
          rw [valV_pos rfl] at hx
          have hx := Option.some.inj hx
          subst hx
          refine ⟨[], ⟨e, rfl, s2 _ _ he1⟩, .nil, fun ps c => ?_⟩
          cases c with
          | nil => exact .inl rfl
          | snoc _ m => cases m
        · rw [valV_neg (fun z => x0 (Sum.inl.inj z).symm)] at hx
          cases hx
      · cases c with
        | nil => rw [valV_pos rfl]; rfl
        | snoc _ m => cases m
    have s12 := s1.trans s2
    have pd : p ≠ d := fun z => by rw [z, hd2] at hp; cases hp
    obtain ⟨Pv, hPv⟩ : ∃ Pv : Nat → L2.St → Hp → Prop, Pv = (fun n σ Hx => ∃ (v4 v5 v6 : Option V) (kvs : List (Key × V)), σ = [some (.int r), some (.ref l), some (.ref m), some (.ref d), v4, v5, v6] ∧ Same H Hx ∧ Hx p = some (.lst ws) ∧ PL Hx ws D ∧ Hx d = some (.dK kvs) ∧ Bst Hx r kvs (D.take n)) := ⟨_, rfl⟩
    refine ⟨p, rfl, ⟨_, SqL.of hp⟩, for_list (K := K) (a := p) (xs := ws) Pv (by rw [hPv]; exact ⟨none, none, none, _, rfl, s12, hp, pw, hd2, by rw [List.take_zero]; exact b0⟩) (fun n σ Hx _ pv => by rw [hPv] at pv; obtain ⟨_, _, _, _, _, _, h9, _⟩ := pv; exact SqL.of h9) (fun n v σ Hx gv pv => ?body) (fun σ Hx pv => ?done)⟩
    case done =>
      rw [hPv] at pv
      obtain ⟨v4, v5, v6, kvs, rfl, sm, _, px, hdx, bx⟩ := pv
      rw [pw.len, List.take_length] at bx
      rw [hD] at bx
      have dX : ∀ x : Int, DGet Hx d (.int x) (valV kvs (Sum.inl x : Key)) := fun x => DGet.k (k := Sum.inl x) hdx
      dsimp only
      unfold tDIn tDGet
      walk_at "rd"
      refine ⟨_, dX r, ?_⟩
      cases e1 : valV kvs (Sum.inl (r : Int) : Key) with
      | none =>
        rw [if_neg (by rw [Option.isSome_none]; decide)]
        obtain ⟨xs, ex, nx, rx⟩ := bx.keys
        have xl : xs.length ≤ r + 1 := by
          have h2 := int_sub_len nx (m := (List.range (r + 1)).map fun k : Nat => (k : Int)) (fun x hx => by
            have := rx x hx
            exact List.mem_map.mpr ⟨x.toNat, List.mem_range.mpr (by omega), by omega⟩) (fun x hx => by
            obtain ⟨k, _, rfl⟩ := List.mem_map.mp hx
            omega)
          rw [List.length_map, List.length_range] at h2
          exact h2
        walk_at "rd"
        refine ⟨kvs, .inl hdx, xs, ex, by omega, fun ys s pm pw2 ns => ?_⟩
        have ss := same_upd (o := HO.lst (ys.map V.int)) ns
        refine ⟨_, .inl ⟨SqL.of upd_same, fun t nt => ?_⟩⟩
        have st := same_upd (o := HO.tup (ys.map V.int)) nt
        have ht := upd_same (H := upd Hx s (HO.lst (ys.map V.int))) (a := t) (o := HO.tup (ys.map V.int))
        generalize upd (upd Hx s (HO.lst (ys.map V.int))) t (HO.tup (ys.map V.int)) = Hz at st ht ⊢
        refine ⟨by decide, fun q nq => ?_⟩
        have sq := same_upd (o := HO.tup [V.str (Str.ofString "wall"), V.ref t]) nq
        refine ret q _ (sm.trans (ss.trans (st.trans sq))) (.inr ⟨t, ys, upd_same, sq _ _ ht, pw2, pm.nodup_iff.mpr nx, fun x => ?_, fun h => ?_⟩)
        · rw [pm.mem_iff, bx.key ex]
          constructor
          · intro h
            obtain ⟨v, hv⟩ := Option.isSome_iff_exists.mp h
            obtain ⟨qs, _, c, _⟩ := bx.hit _ _ hv
            exact ⟨qs, c⟩
          · rintro ⟨ps, c⟩
            exact bx.all _ _ c
        · rw [pm.mem_iff, bx.key ex, e1] at h
          cases h
      | some v =>
        rw [if_pos (by rfl)]
        obtain ⟨qs, ⟨tq, rfl, htq⟩, cq, lq⟩ := bx.hit _ _ e1
        walk_at "rd"
        refine ⟨.ref tq, by rw [← e1]; exact dX r, ?_⟩
        obtain ⟨cs, rfl⟩ := cq.last (by omega)
        refine slA_last (by simp) htq fun t Hz st ht => ⟨by decide, fun q nq => ?_⟩
        rw [List.dropLast_concat] at ht
        have sq := same_upd (o := HO.tup [V.str (Str.ofString "cuts"), V.ref t]) nq
        exact ret q _ (sm.trans (st.trans sq)) (.inl ⟨t, cs, upd_same, sq _ _ ht, cq, lq⟩)
    case body =>
      have nxt : ∀ (v4 v5 v6 : Option V) (kvs : List (Key × V)) (Hx : Hp), Same H Hx → Hx p = some (.lst ws) → PL Hx ws D → Hx d = some (.dK kvs) → Bst Hx r kvs (D.take (n + 1)) → Pv (n + 1) [some (.int r), some (.ref l), some (.ref m), some (.ref d), v4, v5, v6] Hx := fun v4 v5 v6 kvs Hx h1 h2 h3 h4 h5 => by
        rw [hPv]
        exact ⟨v4, v5, v6, kvs, rfl, h1, h2, h3, h4, h5⟩
      rw [hPv] at pv
      obtain ⟨v4, v5, v6, kvs, rfl, sm, hpx, px, hdx, bx⟩ := pv
      obtain ⟨dd, gd, t, rfl, ht⟩ := px.get gv
      obtain ⟨lts, les, tk⟩ := asc_step asc gd
      rw [tk] at nxt
      have rg := asc.1 dd (List.mem_of_getElem? gd)
      generalize D.take n = T at bx lts les nxt tk
      clear hPv
      walk_at "rd"
      refine ⟨_, SqT.of ht, rfl, _, _, rfl, _, _, rfl, rfl, ?_⟩
      unfold tDIn
      walk_at "rd"
      have dI : ∀ x : Int, DGet Hx d (.int x) (valV kvs (Sum.inl x : Key)) := fun x => DGet.k (k := Sum.inl x) hdx
      refine ⟨_, dI dd.1, ?_⟩
      cases e1 : valV kvs (Sum.inl dd.1 : Key) with
      | none =>
        rw [if_neg (by decide)]
        refine nxt _ _ _ kvs _ sm hpx px hdx (bx.keep lts les fun qs c => ?_)
        have := bx.all _ _ c
        rw [e1] at this
        cases this
      | some vi =>
        rw [if_pos (by rfl)]
        obtain ⟨qs, ⟨tq, rfl, htq⟩, cq, lq⟩ := bx.hit _ _ e1
        have ql := (cq.rng fun e he => asc.1 e (by
          have : e ∈ T ++ [dd] := List.mem_append_left _ he
          rw [← tk] at this
          exact List.mem_of_mem_take this)).2.2
        unfold tDGet
        walk_at "rd"
        refine ⟨_, e1 ▸ dI dd.1, by decide, fun u nu => ?_⟩
        have su := same_upd (o := HO.tup [V.int dd.2]) nu
        refine catA_ok (ys := [dd.2]) (su _ _ htq) upd_same (by show qs.length + 1 ≤ 1000; omega) fun tp H3 s3 hp3 => ?_
        have s03 := su.trans s3
        have hd3 := s03 _ _ hdx
        have px3 := px.kt (KT.same s03)
        have bx3 := bx.kt (KT.same s03)
        have hpx3 := s03 _ _ hpx
        have sm3 := sm.trans s03
        clear hp s3 su
        unfold tDNotIn
        walk_at "rd"
        have dJ : ∀ x : Int, DGet H3 d (.int x) (valV kvs (Sum.inl x : Key)) := fun x => DGet.k (k := Sum.inl x) hd3
        refine ⟨_, dJ dd.2, ?_⟩
        have put : ∀ (v4 v5 v6 : Option V) (Hy : Hp), Same H3 Hy → (∀ ps, Ch T dd.2 ps → sle (qs ++ [dd.2]) ps) → Pv (n + 1) [some (.int r), some (.ref l), some (.ref m), some (.ref d), v4, v5, v6] (upd Hy d (.dK (putK kvs (Sum.inl dd.2) (.ref tp)))) := fun v4 v5 v6 Hy sy ls => by
          have hdy := sy _ _ hd3
          have kt : KT Hy (upd Hy d (.dK (putK kvs (Sum.inl dd.2) (.ref tp)))) := KT.ch hdy (fun _ h => by cases h)
          refine nxt _ _ _ _ _ (same_ch (sm3.trans sy) nd) (by rw [upd_ne pd]; exact sy _ _ hpx3) ((px3.kt (KT.same sy)).kt kt) upd_same ?_
          exact ((bx3.kt (KT.same sy)).put lts les ⟨by omega, rg.2.2⟩ cq lq ⟨tp, rfl, sy _ _ hp3⟩ ls).kt kt
        have kl : kvs.length < sizeLine := by
          obtain ⟨xs, ex, nx, rx⟩ := bx.keys
          have h1 : xs.length ≤ r + 1 := by
            have h2 := int_sub_len nx (m := (List.range (r + 1)).map fun k : Nat => (k : Int)) (fun x hx => by
              have := rx x hx
              exact List.mem_map.mpr ⟨x.toNat, List.mem_range.mpr (by omega), by omega⟩) (fun x hx => by
              obtain ⟨k, _, rfl⟩ := List.mem_map.mp hx
              omega)
            rw [List.length_map, List.length_range] at h2
            exact h2
          have h3 : (kvs.map (·.1)).length = xs.length := by rw [ex, List.length_map]
          rw [List.length_map] at h3
          rw [h3]
          exact len_big (by omega)
        cases e2 : valV kvs (Sum.inl dd.2 : Key) with
        | none =>
          rw [if_pos (by rfl), if_pos trivial]
          unfold sDPut
          walk_at "rd"
          refine ⟨_, DPut.k (k := Sum.inl dd.2) hd3 kl, ?_⟩
          exact put _ _ _ H3 (Same.refl _) fun ps c => by
            have := bx.all _ _ c
            rw [e2] at this
            cases this
        | some vj =>
          rw [if_neg (show ¬ (!(some vj).isSome) = true from fun z => by cases z)]
          obtain ⟨qj, ⟨tj, rfl, htj⟩, cj, lj⟩ := bx3.hit _ _ e2
          refine ⟨_, .inr (SqT.of hp3), by decide, fun u1 nu1 => ?_⟩
          have t1 := same_upd (o := HO.tup [V.int (((qs ++ [dd.2]).map V.int).length : Nat), V.ref tp]) nu1
          refine ⟨.ref tj, ?_, tj, rfl, _, .inr (SqT.of (t1 _ _ htj)), .ref tj, ?_, by decide, fun u2 nu2 => ?_⟩
          · rw [← e2]
            exact DGet.k (k := Sum.inl dd.2) (t1 _ _ hd3)
          · rw [← e2]
            exact DGet.k (k := Sum.inl dd.2) (t1 _ _ hd3)
          have t2 := same_upd (o := HO.tup [V.int ((qj.map V.int).length : Nat), V.ref tj]) nu2
          have t12 := t1.trans t2
          have hu1 := t2 _ _ (upd_same (H := H3) (a := u1) (o := HO.tup [V.int (((qs ++ [dd.2]).map V.int).length : Nat), V.ref tp]))
          have hu2 := upd_same (H := upd H3 u1 (HO.tup [V.int (((qs ++ [dd.2]).map V.int).length : Nat), V.ref tp])) (a := u2) (o := HO.tup [V.int ((qj.map V.int).length : Nat), V.ref tj])
          generalize upd (upd H3 u1 (HO.tup [V.int (((qs ++ [dd.2]).map V.int).length : Nat), V.ref tp])) u2 (HO.tup [V.int ((qj.map V.int).length : Nat), V.ref tj]) = Hz at t12 hu1 hu2 ⊢
          rw [List.length_map] at hu1 hu2
          refine ⟨lenD (qs ++ [dd.2]), lenD qj, dp_len hu1 (t12 _ _ hp3), dp_len hu2 (t12 _ _ htj), alike_len _ _, (fun z => by unfold lenD at z; cases z), dep_len _, _, rfl, ?_⟩
          by_cases lt : slt (qs ++ [dd.2]) qj
          · rw [(dataLt_len _ qj).mpr lt, if_pos rfl]
            unfold sDPut
            walk_at "rd"
            refine ⟨_, DPut.k (k := Sum.inl dd.2) (t12 _ _ hd3) kl, ?_⟩
            exact put _ _ _ Hz t12 fun ps c => sle_trans (.inr lt) (lj ps c)
          · have e : PySem.W.dataLt (lenD (qs ++ [dd.2])) (lenD qj) = false := by
              cases h : PySem.W.dataLt (lenD (qs ++ [dd.2])) (lenD qj) with
              | false => rfl
              | true => exact absurd ((dataLt_len _ qj).mp h) lt
            rw [e, if_neg (by decide)]
            refine nxt _ _ _ kvs Hz (sm3.trans t12) (t12 _ _ hpx3) (px3.kt (KT.same t12)) (t12 _ _ hd3) ((bx3.kt (KT.same t12)).keep lts les fun q c => ⟨_, qj, e2, ⟨tj, rfl, t12 _ _ htj⟩, ?_⟩)
            refine sle_trans ?_ (sle_app _ (lq q c))
            rcases slt_tri qj (qs ++ [dd.2]) with z | z | z
            · exact .inl z
            · exact .inr z
            · exact absurd z lt
end

abbrev sCu : Stmt := topS 21
/-! ### all cuts up to a place -/
def Wc (S : List Pr) (p : Int) (cs : List Int) : Prop := (p = 0 ∧ cs = []) ∨ (0 < p ∧ Ch S p (cs ++ [p]))
/-- the cuts of which the last stretch begins before a place -/
def Wf (S : List Pr) (p : Int) (n : Nat) (cs : List Int) : Prop := ∃ i : Int, 0 ≤ i ∧ i < n ∧ (i, p) ∈ S ∧ ((i = 0 ∧ cs = []) ∨ (0 < i ∧ ∃ qs, cs = qs ++ [i] ∧ Wc S i qs))
theorem Ch.zero {S : List Pr} (h : ∀ d ∈ S, 0 ≤ d.1 ∧ d.1 < d.2) {ps : List Int} (c : Ch S 0 ps) : ps = [] := by
  cases c with
  | nil => rfl
  | snoc _ m =>
    have := h _ m
    dsimp only at this
    omega
theorem Wf.full {S : List Pr} (h : ∀ d ∈ S, 0 ≤ d.1 ∧ d.1 < d.2) {p : Nat} (p0 : 0 < p) (cs : List Int) : Wf S p p cs ↔ Wc S p cs := by
  constructor
  · rintro ⟨i, i0, ip, m, z | ⟨i1, qs, rfl, w⟩⟩
    · obtain ⟨rfl, rfl⟩ := z
      exact .inr ⟨by omega, .snoc .nil m⟩
    · rcases w with ⟨z, _⟩ | ⟨_, c⟩
      · omega
      · exact .inr ⟨by omega, .snoc c m⟩
  · rintro (⟨z, _⟩ | ⟨_, c⟩)
    · omega
    · generalize e : cs ++ [(p : Int)] = ps at c
      cases c with
      | nil => simp at e
      | @snoc i _ qs c m =>
        have e1 : cs = qs := List.append_cancel_right e
        subst e1
        have hm := h _ m
        dsimp only at hm
        by_cases i0 : i = 0
        · subst i0
          exact ⟨0, by omega, by omega, m, .inl ⟨rfl, c.zero h⟩⟩
        · obtain ⟨q, rfl⟩ := c.last i0
          exact ⟨i, by omega, by omega, m, .inr ⟨by omega, q, rfl, .inr ⟨by omega, c⟩⟩⟩
theorem Wf.succ {S : List Pr} {p : Int} {n : Nat} {cs : List Int} : Wf S p (n + 1) cs ↔ Wf S p n cs ∨ (((n : Int), p) ∈ S ∧ ((n = 0 ∧ cs = []) ∨ (0 < n ∧ ∃ qs, cs = qs ++ [(n : Int)] ∧ Wc S n qs))) := by
  constructor
  · rintro ⟨i, i0, ip, m, w⟩
    by_cases e : i = n
    · subst e
      refine .inr ⟨m, ?_⟩
      rcases w with ⟨z, e⟩ | ⟨z, e⟩
      · exact .inl ⟨by omega, e⟩
      · exact .inr ⟨by omega, e⟩
    · exact .inl ⟨i, i0, by omega, m, w⟩
  · rintro (⟨i, i0, ip, m, w⟩ | ⟨m, w⟩)
    · exact ⟨i, i0, by omega, m, w⟩
    · refine ⟨n, by omega, by omega, m, ?_⟩
      rcases w with ⟨z, e⟩ | ⟨z, e⟩
      · exact .inl ⟨by omega, e⟩
      · exact .inr ⟨by omega, e⟩
theorem mem_snd {L : List Cl} {ks : List Lk} {r i j : Nat} : ((i : Int), (j : Int)) ∈ sndS L ks (allS r) ↔ i < j ∧ j ≤ r ∧ Snd L ks i j := by
  unfold sndS
  rw [List.mem_filter, mem_allS]
  simp only [Int.toNat_natCast, decide_eq_true_iff]
  constructor
  · rintro ⟨⟨h1, h2, h3⟩, h4⟩
    exact ⟨by omega, by omega, h4⟩
  · rintro ⟨h2, h3, h4⟩
    exact ⟨⟨by omega, by omega, by omega⟩, h4⟩
def IsW (H : Hp) (a : Addr) (v : V) (W : List (List Int)) : Prop := ∃ b us, v = .ref b ∧ b ≠ a ∧ H b = some (.lst us) ∧ TL H us W
theorem IsW.same {H H' : Hp} {a : Addr} {v : V} {W : List (List Int)} (h : IsW H a v W) (s : Same H H') : IsW H' a v W := by
  obtain ⟨b, us, e, n, hb, t⟩ := h
  exact ⟨b, us, e, n, s _ _ hb, t.same s⟩
theorem TL.kt {H H' : Hp} {us : List V} {L : List (List Int)} (h : TL H us L) (k : KT H H') : TL H' us L := Paired.mapP h fun _ _ q => by
  obtain ⟨t, e, ht⟩ := q
  exact ⟨t, e, k _ _ ht⟩
theorem IsW.lst {H : Hp} {a : Addr} {v : V} {o : HO} {ws : List V} {W : List (List Int)} (h : IsW H a v W) (ha : H a = some (.lst ws)) : IsW (upd H a o) a v W := by
  obtain ⟨b, us, e, n, hb, t⟩ := h
  exact ⟨b, us, e, n, by rw [upd_ne n]; exact hb, t.kt (KT.lst ha)⟩
def WayOk (S : List Pr) (p : Nat) (W : List (List Int)) : Prop := (∀ cs, cs ∈ W ↔ Wc S p cs) ∧ W.length ≤ 2 ^ p
section
variable {P : Program} {w : World} {K : PySem.W.Frag} {mg : Str → Option Value} {base : Heap}
theorem scCu : FnScope ["rooms", "log", "looks", "ways", "place", "found", "start", "cuts"] ["rooms", "log", "looks"] (defScope sCu) := ⟨rfl, rfl, rfl, by decide +kernel, rfl, by decide +kernel, by decide +kernel⟩
def WaysH (H : Hp) (S : List Pr) (n : Nat) (a : Addr) (ws : List V) (Ws : List (List (List Int))) : Prop := H a = some (.lst ws) ∧ Paired (IsW H a) ws Ws ∧ Ws.length = n ∧ ∀ (i : Nat) (W : List (List Int)), Ws[i]? = some W → WayOk S i W
def spCu : Sp := fun vs H Q _ => ∃ (l m : Addr) (us ms : List V) (L : List Cl) (ks : List Lk) (r : Nat), vs = [.int r, .ref l, .ref m] ∧ H l = some (.lst us) ∧ LG H us L ∧ H m = some (.lst ms) ∧ LKs H ms ks ∧ (∀ k ∈ ks, k.2.length = r) ∧ r ≤ 12 ∧
  ∀ (a : Addr) (ws : List V) (Ws : List (List (List Int))) (H' : Hp), Same H H' → WaysH H' (sndS L ks (allS r)) (r + 1) a ws Ws → Q (.ref a) H'
theorem ok_lcu {f fS : Addr} {fd fdS : FuncData} (F : Fun K "_law_cuts_up_to" "_law_cuts_up_to" sCu f fd) (T : Bi mg) (d__law_sound : Df P w K mg base "_law_sound" ["log", "looks", "start", "end"] 2 (spSnd fun i j _ xs => xs = [.int i, .int j]) fS fdS) : FnOk P w K mg base CX0 3 f fd ["rooms", "log", "looks"] spCu := by
  refine F.ok scCu (fun vs H Q E h => ?_) (fun cdv A0 outer s0 H vs Q E hr h => ?_)
  · obtain ⟨l, m, us, ms, L, ks, r, rfl, _⟩ := h
    rfl
  · obtain ⟨l, m, us, ms, L, ks, r, rfl, hl, lg, hm, lk, klen, r12, ret⟩ := h
    refine ⟨_, (pss_cons (ps_set (i := 3) scCu.nd rfl (Or.inl rfl) (pe_lst (pa_cons (pe_lst (pa_cons (pe_tup pa_nil) pa_nil)) pa_nil)))
      (pss_cons (ps_for PassesOwn.never rfl (pi_range2 (by rfl) T.range (pa_cons pe_int (pa_cons (pe_op op_add (pv 0) pe_int) pa_nil))) (pg_name (i := 4) scCu.nd rfl (Or.inl rfl))
      (pss_cons (ps_set (i := 5) scCu.nd rfl (Or.inl rfl) (pe_lst pa_nil))
        (pss_cons (ps_for PassesOwn.never rfl (pi_range1 (by rfl) T.range (pa_cons (pv 4) pa_nil)) (pg_name (i := 6) scCu.nd rfl (Or.inr rfl))
        (pss_one (ps_if (PW.pt (pw_and (pt_cmpR op_gt (pe_callB call_len_seq (by rfl) T.len (by decide +kernel) (pa_cons (pe_ix ix_list (pv 3) (pv 6) (fun _ _ => rfl)) pa_nil)) pe_int (nomark _)) (pw_and1 (pt_val (pe_call d__law_sound.ok (hr.mono (by decide)) (by rfl) d__law_sound.at_ d__law_sound.kp d__law_sound.b .nil pass0 (pa_cons (pv 1) (pa_cons (pv 2) (pa_cons (pv 6) (pa_cons (pv 4) pa_nil)))))))))
          (pss_one (ps_if (pt_cmpR op_eqI (pv 6) pe_int (nomark _))
            (pss_one (ps_expr (pe_bm PySem.F.plainAttrs_list PySem.F.slot_list_append PySem.F.type_list_append mt_append (pv 5) (pa_cons (pe_tup pa_nil) pa_nil))))
            (pss_one (ps_expr (pe_bm PySem.F.plainAttrs_list PySem.F.slot_list_extend PySem.F.type_list_extend mt_extend (pv 5) (pa_cons (pe_lc (own := [("cuts", 7)]) (by rfl) scCu.nd (pi_list (pe_ix ix_list (pv 3) (pv 6) (fun _ _ => rfl))) (blkOk_by (N := ["rooms", "log", "looks", "ways", "place", "found", "start", "cuts"]) (sc := defScope sCu) (by decide +kernel)) (fun _ _ _ _ _ => pg_name (i := 7) scCu.nd rfl (Or.inl rfl)) (fun _ _ _ _ _ => pts_nil) (fun _ _ _ _ _ => (pe_op (show OpR _ (binaryOp .Add) (rCatA K) from op_catA) (pv 7) (pe_tup (pa_cons (pv 6) pa_nil))))) pa_nil))))))
          pss_nil)))
        (pss_one (ps_expr (pe_bm PySem.F.plainAttrs_list PySem.F.slot_list_append PySem.F.type_list_append mt_append (pv 3) (pa_cons (pv 5) pa_nil)))))))
      (pss_one (ps_ret (pv 3))))), ?_⟩
    walk_at "rd"
    refine ⟨Nat.zero_le _, fun q nq => ⟨by decide, fun b nb => ⟨by decide, fun a na => ?_⟩⟩⟩
    have s1 := ((same_upd (o := HO.tup []) nq).trans (same_upd (o := HO.lst [V.ref q]) nb)).trans (same_upd (o := HO.lst [V.ref b]) na)
    have qb : q ≠ b := fun z => by rw [z, upd_same] at nb; cases nb
    have bna : b ≠ a := fun z => by rw [z, upd_same] at na; cases na
    have qa : q ≠ a := fun z => by rw [z, upd_ne (z ▸ qb), upd_same] at na; cases na
    have ha1 : (upd (upd (upd H q (HO.tup [])) b (HO.lst [V.ref q])) a (HO.lst [V.ref b])) a = some (.lst [.ref b]) := upd_same
    have hb1 : (upd (upd (upd H q (HO.tup [])) b (HO.lst [V.ref q])) a (HO.lst [V.ref b])) b = some (.lst [.ref q]) := by rw [upd_ne bna, upd_same]
    have hq1 : (upd (upd (upd H q (HO.tup [])) b (HO.lst [V.ref q])) a (HO.lst [V.ref b])) q = some (.tup []) := by rw [upd_ne qa, upd_ne qb, upd_same]
    have hna : H a = none := by
      by_cases h : H a = none
      · exact h
      · exfalso
        obtain ⟨o, ho⟩ := Option.ne_none_iff_exists'.mp h
        have := ((same_upd (o := HO.tup []) nq).trans (same_upd (o := HO.lst [V.ref q]) nb)) _ _ ho
        rw [na] at this
        cases this
    generalize upd (upd (upd H q (HO.tup [])) b (HO.lst [V.ref q])) a (HO.lst [V.ref b]) = H1 at s1 ha1 hb1 hq1 ⊢
    obtain ⟨S, hS⟩ : ∃ S, S = sndS L ks (allS r) := ⟨_, rfl⟩
    have hSl : ∀ d ∈ S, 0 ≤ d.1 ∧ d.1 < d.2 := fun d hd => by
      rw [hS] at hd
      have := (sndS_asc L ks r).1 d hd
      exact ⟨this.1, this.2.1⟩
    rw [← hS] at ret
    refine for_iterW ?_
    walk_at "rd"
    obtain ⟨Pv, hPv⟩ : ∃ Pv : Nat → L2.St → Hp → Prop, Pv = (fun n σ Hx => ∃ (ws : List V) (Ws : List (List (List Int))) (v4 v5 v6 v7 : Option V), σ = [some (.int r), some (.ref l), some (.ref m), some (.ref a), v4, v5, v6, v7] ∧ Same H Hx ∧ WaysH Hx S (n + 1) a ws Ws) := ⟨_, rfl⟩
    have w0 : WaysH H1 S 1 a [.ref b] [[[]]] := by
      refine ⟨ha1, .cons ⟨b, _, rfl, bna, hb1, .cons ⟨q, rfl, hq1⟩ .nil⟩ .nil, rfl, fun i W hi => ?_⟩
      match i, hi with
      | 0, hi =>
        have hi := Option.some.inj hi
        subst hi
        refine ⟨fun cs => ?_, Nat.le_refl _⟩
        rw [List.mem_singleton]
        exact ⟨fun z => .inl ⟨rfl, z⟩, fun z => z.elim (·.2) fun z => absurd z.1 (by omega)⟩
    refine ⟨by omega, by omega, by omega, by omega, for_range (lo := 1) (n := ((r : Int) + 1 - 1).toNat) Pv (by rw [hPv]; exact ⟨_, _, none, none, none, none, rfl, s1, w0⟩) (fun n σ Hx hn pv => ?_) (fun σ Hx pv => ?_)⟩
    rotate_left
    · rw [hPv] at pv
      obtain ⟨ws, Ws, v4, v5, v6, v7, rfl, sm, wy⟩ := pv
      rw [show ((r : Int) + 1 - 1).toNat + 1 = r + 1 by omega] at wy
      walk_at "rd"
      exact ret a ws Ws Hx sm wy
    · have nxt : ∀ (ws : List V) (Ws : List (List (List Int))) (v4 v5 v6 v7 : Option V) (Hx : Hp), Same H Hx → WaysH Hx S (n + 1 + 1) a ws Ws → Pv (n + 1) [some (.int r), some (.ref l), some (.ref m), some (.ref a), v4, v5, v6, v7] Hx := fun ws Ws v4 v5 v6 v7 Hx h1 h2 => by
        rw [hPv]
        exact ⟨ws, Ws, v4, v5, v6, v7, rfl, h1, h2⟩
      rw [hPv] at pv
      obtain ⟨ws, Ws, v4, v5, v6, v7, rfl, sm, wy⟩ := pv
      clear hPv
      obtain ⟨hax, pwx, wl, wok⟩ := wy
      walk_at "rd"
      refine ⟨Nat.zero_le _, fun c nc => ?_⟩
      refine for_iterW ?_
      walk_at "rd"
      have ca : c ≠ a := fun z => by rw [z, hax] at nc; cases nc
      have pwE : ((1 : Int) + (n : Int)) = ((n + 1 : Nat) : Int) := by omega
      rw [pwE]
      obtain ⟨Pw, hPw⟩ : ∃ Pw : Nat → L2.St → Hp → Prop, Pw = (fun k σ Hy => ∃ (fs : List V) (F : List (List Int)) (v6 v7 : Option V), σ = [some (.int r), some (.ref l), some (.ref m), some (.ref a), some (.int ((n + 1 : Nat) : Int)), some (.ref c), v6, v7] ∧ Same Hx Hy ∧ Hy c = some (.lst fs) ∧ TL Hy fs F ∧ (∀ cs, cs ∈ F ↔ Wf S ((n + 1 : Nat) : Int) k cs) ∧ F.length + 1 ≤ 2 ^ k) := ⟨_, rfl⟩
      refine ⟨by omega, by omega, for_range (lo := 0) (n := ((n + 1 : Nat) : Int).toNat) Pw (by rw [hPw]; exact ⟨[], [], v6, v7, rfl, same_upd nc, upd_same, .nil, fun cs => ⟨fun z => (by cases z), fun ⟨i, h1, h2, _⟩ => absurd h2 (by omega)⟩, Nat.le_refl _⟩) (fun k σ Hy hk pv => ?_) (fun σ Hy pv => ?_)⟩
      rotate_left
      · rw [hPw] at pv
        obtain ⟨fs, F, v6', v7', rfl, sx, hc, tl, mf, fl⟩ := pv
        rw [show ((n + 1 : Nat) : Int).toNat = n + 1 by omega] at mf fl
        walk_at "rd"
        have wsl : ws.length = n + 1 := by rw [Paired.length pwx, wl]
        refine ⟨.inl ⟨rfl, _, SqL.of (sx _ _ hax)⟩, ws, sx _ _ hax, len_big (by omega), ?_⟩
        have hax' := sx _ _ hax
        refine nxt (ws ++ [.ref c]) (Ws ++ [F]) _ _ _ _ _ (same_ch (sm.trans sx) hna) ⟨upd_same, Paired.snoc (Paired.mapP pwx fun _ _ q => (q.same sx).lst hax') ⟨c, fs, rfl, ca, by rw [upd_ne ca]; exact hc, tl.kt (KT.lst hax')⟩, by rw [List.length_append, wl]; rfl, fun i W hi => ?_⟩
        by_cases h : i < Ws.length
        · rw [List.getElem?_append_left h] at hi
          exact wok i W hi
        · rw [List.getElem?_append_right (by omega)] at hi
          have i0 : i = n + 1 := by
            have := (List.getElem?_eq_some_iff.mp hi).1
            rw [List.length_singleton] at this
            omega
          subst i0
          rw [wl, Nat.sub_self] at hi
          have hi := Option.some.inj hi
          subst hi
          exact ⟨fun cs => (mf cs).trans (Wf.full hSl (by omega) cs), by omega⟩
      · have nxw : ∀ (fs : List V) (F : List (List Int)) (v6 v7 : Option V) (Hy : Hp), Same Hx Hy → Hy c = some (.lst fs) → TL Hy fs F → (∀ cs, cs ∈ F ↔ Wf S ((n + 1 : Nat) : Int) (k + 1) cs) → F.length + 1 ≤ 2 ^ (k + 1) → Pw (k + 1) [some (.int r), some (.ref l), some (.ref m), some (.ref a), some (.int ((n + 1 : Nat) : Int)), some (.ref c), v6, v7] Hy := fun fs F v6 v7 Hy h1 h2 h3 h4 h5 => by
          rw [hPw]
          exact ⟨fs, F, v6, v7, rfl, h1, h2, h3, h4, h5⟩
        rw [hPw] at pv
        obtain ⟨fs, F, v6', v7', rfl, sx, hc, tl, mf, fl⟩ := pv
        clear hPw
        have kn : k < n + 1 := by omega
        have kl : k < Ws.length := by omega
        obtain ⟨v, gv, b, us2, rfl, ba, hb, tb⟩ := pget2 pwx (List.getElem?_eq_getElem kl)
        have ok := wok k _ (List.getElem?_eq_getElem kl)
        generalize Ws[k] = W at tb ok
        rw [show ((0 : Int) + (k : Int)) = (k : Int) by omega]
        walk_at "rd"
        have p12 : ∀ i, i ≤ 12 → 2 ^ i ≤ 4096 := fun i hi => Nat.pow_le_pow_right (n := 2) (by decide) hi
        have pk := p12 k (by omega)
        have psk : 2 ^ (k + 1) = 2 ^ k + 2 ^ k := by rw [Nat.pow_succ]; omega
        have usl : us2.length = W.length := Paired.length tb
        have wk := ok.2
        have fsl : fs.length = F.length := Paired.length tl
        have stay : ¬ (((k : Int), ((n + 1 : Nat) : Int)) ∈ S ∧ ((k = 0 ∧ True) ∨ (0 < k ∧ ∃ qs, Wc S k qs))) → ∀ cs, cs ∈ F ↔ Wf S ((n + 1 : Nat) : Int) (k + 1) cs := fun no cs => by
          rw [Wf.succ, mf cs]
          refine ⟨.inl, fun z => z.elim id fun ⟨m, z⟩ => absurd ⟨m, ?_⟩ no⟩
          rcases z with ⟨z, _⟩ | ⟨z, q, _, y⟩
          · exact .inl ⟨z, trivial⟩
          · exact .inr ⟨z, q, y⟩
        refine ⟨_, SqL.of (sx _ _ hax), _, at_of (j := k) rfl gv, b, rfl, us2, .inl (SqL.of (sx _ _ hb)), ?_⟩
        by_cases w0 : 0 < W.length
        · rw [if_pos (by rw [usl]; omega)]
          have s2 := sm.trans sx
          refine ⟨l, m, us, ms, L, ks, k, n + 1, r, _, rfl, rfl, s2 _ _ hl, lg.kt (KT.same s2), s2 _ _ hm, lk.same s2, klen, by omega, by omega, r12, fun g H3 s3 hg => ?_⟩
          have hc3 := s3 _ _ hc
          have tl3 := tl.same s3
          have sx3 := sx.trans s3
          have mS : ((k : Int), ((n + 1 : Nat) : Int)) ∈ S ↔ g = true := by
            rw [hS, mem_snd, hg]
            exact ⟨fun z => z.2.2, fun z => ⟨by omega, by omega, z⟩⟩
          refine ⟨g, rfl, ?_⟩
          cases g with
          | false =>
            rw [if_neg (by decide)]
            exact nxw fs F _ _ H3 sx3 hc3 tl3 (stay fun z => by cases mS.mp z.1) (by omega)
          | true =>
            rw [if_pos rfl]
            by_cases k0 : k = 0
            · rw [if_pos (by omega)]
              refine ⟨.inl ⟨rfl, _, SqL.of hc3⟩, Nat.zero_le _, fun e ne => ⟨fs, ?_, len_big (by omega), ?_⟩⟩
              · exact same_upd ne _ _ hc3
              have se := same_upd (o := HO.tup []) ne
              have ec : e ≠ c := fun z => by rw [z, hc3] at ne; cases ne
              refine nxw (fs ++ [.ref e]) (F ++ [[]]) _ _ _ (same_ch (sx3.trans se) nc) upd_same (Paired.snoc ((tl3.same se).kt (KT.lst (se _ _ hc3))) ⟨e, rfl, by rw [upd_ne ec, upd_same]; rfl⟩) (fun cs => ?_) (by rw [List.length_append]; show F.length + 1 + 1 ≤ _; have := Nat.one_le_two_pow (n := k); omega)
              rw [Wf.succ, List.mem_append, List.mem_singleton, mf cs]
              constructor
              · rintro (z | z)
                · exact .inl z
                · exact .inr ⟨mS.mpr rfl, .inl ⟨k0, z⟩⟩
              · rintro (z | ⟨_, ⟨_, z⟩ | ⟨z, _⟩⟩)
                · exact .inl z
                · exact .inr z
                · omega
            · rw [if_neg (by omega)]
              refine ⟨.inl ⟨rfl, _, SqL.of hc3⟩, ?_⟩
              refine lcW ?_
              walk_at "rd"
              refine ⟨_, SqL.of (s3 _ _ (sx _ _ hax)), _, at_of (j := k) rfl gv, b, rfl, ⟨_, SqL.of (s3 _ _ (sx _ _ hb))⟩, fun e ne => ?_⟩
              have hb3 := s3 _ _ (sx _ _ hb)
              have tb3 := (tb.same sx).same s3
              have ec : e ≠ c := fun z => by rw [z, hc3] at ne; cases ne
              obtain ⟨Pc, hPc⟩ : ∃ Pc : Nat → Hp → Prop, Pc = (fun j Hz => Same H3 Hz ∧ ∃ gs, Hz e = some (.lst gs) ∧ TL Hz gs ((W.take j).map fun q => q ++ [(k : Int)])) := ⟨_, rfl⟩
              refine lc_list (K := K) (a := b) (xs := us2) Pc (by rw [hPc]; exact ⟨same_upd ne, [], upd_same, .nil⟩) (fun j Hz _ pv => by rw [hPc] at pv; exact SqL.of (pv.1 _ _ hb3)) (fun j v Hz gv2 pv => ?_) (fun Hz pv => ?_)
              · obtain ⟨q, gq, t, rfl, ht⟩ := pget tb3 gv2
                rw [hPc] at pv
                obtain ⟨sz, gs, he, tg⟩ := pv
                have mq := (ok.1 q).mp (List.mem_of_getElem? gq)
                have qlen : q.length ≤ 12 := by
                  rcases mq with ⟨_, z⟩ | ⟨_, z⟩
                  · rw [z]; exact Nat.zero_le _
                  · have := (z.rng (r := r) fun d hd => by rw [hS] at hd; exact (sndS_asc L ks r).1 d hd).2.2
                    rw [List.length_append, List.length_singleton] at this
                    omega
                have gl : gs.length ≤ 4096 := by
                  rw [Paired.length tg, List.length_map, List.length_take]
                  omega
                simp only [wipe]
                walk_at "rd"
                refine ⟨by decide, fun u nu => ?_⟩
                have su := same_upd (o := HO.tup [V.int (k : Int)]) nu
                refine catA_ok (ys := [(k : Int)]) (su _ _ (sz _ _ ht)) upd_same (by rw [List.length_singleton]; omega) fun t2 H4 s4 ht2 => ?_
                have s34 := sz.trans (su.trans s4)
                have he4 := s4 _ _ (su _ _ he)
                refine ⟨gs, he4, len_big (by omega), ?_⟩
                rw [hPc]
                refine ⟨same_ch s34 ne, gs ++ [.ref t2], upd_same, ?_⟩
                rw [List.take_add_one, gq, List.map_append]
                have et : t2 ≠ e := fun z => by rw [z, he4] at ht2; cases ht2
                exact Paired.snoc (((tg.same su).same s4).kt (KT.lst he4)) ⟨t2, rfl, by rw [upd_ne et]; exact ht2⟩
              · rw [hPc] at pv
                obtain ⟨sz, gs, he, tg⟩ := pv
                rw [usl, List.take_length] at tg
                have hcz := sz _ _ hc3
                have gl : gs.length = W.length := by rw [Paired.length tg, List.length_map]
                refine ⟨e, rfl, fs, hcz, gs, he, Nat.le_of_lt (len_big (by omega)), ?_⟩
                refine nxw (fs ++ gs) (F ++ W.map fun q => q ++ [(k : Int)]) _ _ _ (same_ch (sx3.trans sz) nc) upd_same (paired_append ((tl3.same sz).kt (KT.lst hcz)) (tg.kt (KT.lst hcz))) (fun cs => ?_) (by rw [List.length_append, List.length_map]; omega)
                rw [Wf.succ, List.mem_append, List.mem_map, mf cs]
                constructor
                · rintro (z | ⟨q, hq, rfl⟩)
                  · exact .inl z
                  · exact .inr ⟨mS.mpr rfl, .inr ⟨by omega, q, rfl, (ok.1 q).mp hq⟩⟩
                · rintro (z | ⟨_, ⟨z, _⟩ | ⟨_, q, rfl, z⟩⟩)
                  · exact .inl z
                  · exact absurd z k0
                  · exact .inr ⟨q, (ok.1 q).mpr z, rfl⟩
        · rw [if_neg (by rw [usl]; omega), if_neg (fun z => z)]
          refine nxw fs F _ _ Hy sx hc tl (stay ?_) (by omega)
          rintro ⟨_, ⟨z, _⟩ | ⟨_, qs, z⟩⟩
          · have := (ok.1 []).mpr (.inl ⟨by omega, rfl⟩)
            have := List.length_pos_of_mem this
            omega
          · have := List.length_pos_of_mem ((ok.1 qs).mpr z)
            omega
end

abbrev sLso : Stmt := topS 22
/-! ### the corridor with the doors of the cuts shut -/
theorem seg_of {S : List Pr} (h : ∀ d ∈ S, 0 ≤ d.1 ∧ d.1 < d.2) {p : Int} {ps : List Int} (c : Ch S p ps) : (∀ q ∈ ps, 0 < q ∧ q ≤ p) ∧ (p = 0 ∨ p ∈ ps) ∧ ∀ x, 0 ≤ x → x < p → ∃ i j, (i, j) ∈ S ∧ i ≤ x ∧ x < j ∧ (i = 0 ∨ i ∈ ps) ∧ j ∈ ps ∧ ∀ q ∈ ps, ¬ (i < q ∧ q < j) := by
  induction c with
  | nil => exact ⟨fun q hq => (by cases hq), .inl rfl, fun x h1 h2 => (by omega)⟩
  | @snoc i j ps c m ih =>
    obtain ⟨ih1, ih2, ih3⟩ := ih
    have hm := h _ m
    dsimp only at hm
    refine ⟨fun q hq => ?_, .inr (by simp), fun x x0 xj => ?_⟩
    · rcases List.mem_append.mp hq with z | z
      · have := ih1 q z
        omega
      · rw [List.mem_singleton.mp z]
        omega
    · by_cases xi : x < i
      · obtain ⟨a, b, h1, h2, h3, h4, h5, h6⟩ := ih3 x x0 xi
        refine ⟨a, b, h1, h2, h3, h4.imp id (List.mem_append_left _), List.mem_append_left _ h5, fun q hq => ?_⟩
        rcases List.mem_append.mp hq with z | z
        · exact h6 q z
        · rw [List.mem_singleton.mp z]
          have := (ih1 b h5).2
          omega
      · refine ⟨i, j, m, by omega, xj, ih2.imp id (List.mem_append_left _), by simp, fun q hq => ?_⟩
        rcases List.mem_append.mp hq with z | z
        · have := (ih1 q z).2
          omega
        · rw [List.mem_singleton.mp z]
          omega
/-- the doors that are open when those before the cuts are shut -/
def Opn (r : Nat) (cs : List Int) (O : List Pr) : Prop := ∀ a b : Int, (a, b) ∈ O ↔ b = a + 1 ∧ 0 ≤ a ∧ b < r ∧ b ∉ cs
theorem rch_up {r : Nat} {cs : List Int} {O : List Pr} (hO : Opn r cs O) {x : Int} (x0 : 0 ≤ x) {y : Int} (hx : Rch O (rg r) x y) : ∀ k : Nat, y + k < r → 0 ≤ y → (∀ q ∈ cs, ¬ (y < q ∧ q ≤ y + k)) → Rch O (rg r) x (y + k)
  | 0, _, _, _ => by rw [show y + ((0 : Nat) : Int) = y by omega]; exact hx
  | k + 1, h1, y0, h2 => by
    have ih := rch_up hO x0 hx k (by omega) y0 fun q hq z => h2 q hq ⟨z.1, by omega⟩
    refine .step ih (.inl ((hO _ _).mpr ⟨by omega, by omega, by omega, fun z => h2 _ z ⟨by omega, by omega⟩⟩)) (mem_rg (by omega) (by omega))
theorem rch_dn {r : Nat} {cs : List Int} {O : List Pr} (hO : Opn r cs O) {x : Int} {y : Int} (hx : Rch O (rg r) x y) (yr : y < r) : ∀ k : Nat, 0 ≤ y - k → (∀ q ∈ cs, ¬ (y - k < q ∧ q ≤ y)) → Rch O (rg r) x (y - k)
  | 0, _, _ => by rw [show y - ((0 : Nat) : Int) = y by omega]; exact hx
  | k + 1, h1, h2 => by
    have ih := rch_dn hO hx yr k (by omega) fun q hq z => h2 q hq ⟨by omega, z.2⟩
    refine .step ih (.inr ((hO _ _).mpr ⟨by omega, by omega, by omega, fun z => h2 _ z ⟨by omega, by omega⟩⟩)) (mem_rg (by omega) (by omega))
theorem rch_seg {r : Nat} {cs : List Int} {O : List Pr} (hO : Opn r cs O) {i j : Int} (i0 : 0 ≤ i) (jr : j ≤ r) (hi : i = 0 ∨ i ∈ cs ++ [(r : Int)]) (hj : j ∈ cs ++ [(r : Int)]) (no : ∀ q ∈ cs ++ [(r : Int)], ¬ (i < q ∧ q < j)) {x : Int} (xi : i ≤ x) (xj : x < j) (y : Int) : Rch O (rg r) x y ↔ i ≤ y ∧ y < j := by
  have no2 : ∀ q ∈ cs, ¬ (i < q ∧ q < j) := fun q hq => no q (List.mem_append_left _ hq)
  constructor
  · intro h
    induction h with
    | base _ => exact ⟨xi, xj⟩
    | @step a b _ ad mb ih =>
      rcases ad with z | z
      · obtain ⟨h1, h2, h3, h4⟩ := (hO _ _).mp z
        refine ⟨by omega, ?_⟩
        by_cases e : b = j
        · exfalso
          rw [← e] at hj
          rcases List.mem_append.mp hj with z | z
          · exact h4 z
          · have := List.mem_singleton.mp z
            omega
        · omega
      · obtain ⟨h1, h2, h3, h4⟩ := (hO _ _).mp z
        refine ⟨?_, by omega⟩
        by_cases e : a = i
        · exfalso
          rcases hi with z | z
          · omega
          · rw [← e] at z
            rcases List.mem_append.mp z with z | z
            · exact h4 z
            · have := List.mem_singleton.mp z
              omega
        · omega
  · rintro ⟨h1, h2⟩
    have b : Rch O (rg r) x x := .base (mem_rg (by omega) (by omega))
    by_cases c : x ≤ y
    · have := rch_up hO (by omega) b (y - x).toNat (by omega) (by omega) fun q hq z => no2 q hq ⟨by omega, by omega⟩
      rw [show x + ((y - x).toNat : Int) = y by omega] at this
      exact this
    · have := rch_dn hO b (by omega) (x - y).toNat (by omega) fun q hq z => no2 q hq ⟨by omega, by omega⟩
      rw [show x - ((x - y).toNat : Int) = y by omega] at this
      exact this
/-- with the doors of sound cuts shut every room keeps what was seen -/
theorem seen_ok {L : List Cl} {ks : List Lk} {r : Nat} {cs : List Int} {O : List Pr} (hO : Opn r cs O) (c : Ch (sndS L ks (allS r)) r (cs ++ [(r : Int)])) {k : Lk} (mk : k ∈ ks) {x : Int} (x0 : 0 ≤ x) (xr : x < r) :
    k.2.getD x.toNat none = unS ∨ k.2.getD x.toNat none = wordP (L.take k.1) (rchF r O x) := by
  have asc := (sndS_asc L ks r).1
  obtain ⟨_, _, h3⟩ := seg_of (fun d hd => ⟨(asc d hd).1, (asc d hd).2.1⟩) c
  obtain ⟨i, j, m, h4, h5, h6, h7, h8⟩ := h3 x x0 xr
  have aij := asc _ m
  dsimp only at aij
  have ei : ((i.toNat : Nat) : Int) = i := by omega
  have ej : ((j.toNat : Nat) : Int) = j := by omega
  rw [← ei, ← ej] at m
  have snd := (mem_snd.mp m).2.2
  have h := snd k mk x (mem_seg.mpr (by omega))
  unfold Ok1 at h
  rw [wordP_congr (R := rchF r O x) (S := segL i.toNat j.toNat) fun y => by
    rw [mem_rchF, mem_seg, rch_seg hO aij.1 aij.2.2 h6 h7 h8 h4 h5, ei, ej]]
  exact h
section
variable {P : Program} {w : World} {K : PySem.W.Frag} {mg : Str → Option Value} {base : Heap}
theorem scLso : FnScope ["rooms", "log", "looks", "cuts", "opening", "look", "heard", "r", "p"] ["rooms", "log", "looks", "cuts"] (defScope sLso) := ⟨rfl, rfl, rfl, by decide +kernel, rfl, by decide +kernel, by decide +kernel⟩
def spLso : Sp := fun vs H Q _ => ∃ (l m t : Addr) (us ms : List V) (L : List Cl) (ks : List Lk) (cs : List Int) (r : Nat), vs = [.int r, .ref l, .ref m, .ref t] ∧ H l = some (.lst us) ∧ LG H us L ∧ InR r L ∧ H m = some (.lst ms) ∧ LKs H ms ks ∧ (∀ k ∈ ks, k.2.length = r) ∧ H t = some (.tup (cs.map V.int)) ∧ Ch (sndS L ks (allS r)) r (cs ++ [(r : Int)]) ∧ r ≤ 12 ∧
  ∀ (H' : Hp), Same H H' → Q (.bl true) H'
theorem ok_lso {f fS : Addr} {fd fdS : FuncData} (F : Fun K "_law_seen_so" "_law_seen_so" sLso f fd) (T : Bi mg) (d__law_hear : Df P w K mg base "_law_hear" ["rooms", "log", "opening"] 2 spLhr fS fdS) : FnOk P w K mg base CX0 3 f fd ["rooms", "log", "looks", "cuts"] spLso := by
  refine F.ok scLso (fun vs H Q E h => ?_) (fun cdv A0 outer s0 H vs Q E hr h => ?_)
  · obtain ⟨l, m, t, us, ms, L, ks, cs, r, rfl, _⟩ := h
    rfl
  · obtain ⟨l, m, t, us, ms, L, ks, cs, r, rfl, hl, lg, inr, hm, lk, klen, ht, ch, r12, ret⟩ := h
    refine ⟨_, (pss_cons (ps_setLc (i := 4) (own := [("p", 8)]) (by rfl) scLso.nd rfl rfl (sw_true rfl rfl rfl (by decide +kernel)) (pi_range2 (by rfl) T.range (pa_cons pe_int (pa_cons (pv 0) pa_nil))) (blkOk_by (N := ["rooms", "log", "looks", "cuts", "opening", "look", "heard", "r", "p"]) (sc := defScope sLso) (by decide +kernel)) (fun _ _ _ _ _ => pg_name (i := 8) scLso.nd rfl (Or.inl rfl)) (fun _ _ _ _ _ => (pts_one (pt_cmpR (show OpR _ (compareOp .NotIn) (rIn K true) from op_notIn_seq) (pv 8) (pv 3) (by rfl)))) (fun _ _ _ _ _ => (pe_tup (pa_cons (pe_op op_sub (pv 8) pe_int) (pa_cons (pv 8) pa_nil)))))
      (pss_cons (ps_for PassesOwn.never rfl (pi_list (pv 2)) (pg_name (i := 5) scLso.nd rfl (Or.inl rfl))
      (pss_cons (ps_set (i := 6) scLso.nd rfl (Or.inl rfl) (pe_call d__law_hear.ok (hr.mono (by decide)) (by rfl) d__law_hear.at_ d__law_hear.kp d__law_hear.b .nil pass0 (pa_cons (pv 0) (pa_cons (pe_slice sl_list (pv 1) po_none (po_some (pe_ix ix_tup (pv 5) pe_int (fun _ _ => rfl)))) (pa_cons (pv 4) pa_nil)))))
        (pss_one (ps_for PassesOwn.never rfl (pi_range1 (by rfl) T.range (pa_cons (pv 0) pa_nil)) (pg_name (i := 7) scLso.nd rfl (Or.inl rfl))
        (pss_one (ps_if (PW.pt (pw_and (pt_cmpR op_ne (pe_ix ix_list (pe_ix ix_tup (pv 5) pe_int (fun _ _ => rfl)) (pv 7) (fun _ _ => rfl)) pe_str (nomark _)) (pw_and1 (pt_cmpR op_ne (pe_ix ix_list (pe_ix ix_tup (pv 5) pe_int (fun _ _ => rfl)) (pv 7) (fun _ _ => rfl)) (pe_ix ix_list (pv 6) (pv 7) (fun _ _ => rfl)) (nomark _)))))
          (pss_one (ps_ret pe_bl))
          pss_nil))))))
      (pss_one (ps_ret pe_bl)))), ?_⟩
    walk_at "rd"
    refine lcW ?_
    walk_at "rd"
    refine ⟨by omega, by omega, by omega, by omega, fun c nc => ?_⟩
    obtain ⟨Pc, hPc⟩ : ∃ Pc : Nat → Hp → Prop, Pc = (fun (n : Nat) Hx => Same H Hx ∧ ∃ zs O, Hx c = some (.lst zs) ∧ PL Hx zs O ∧ (∀ a b : Int, (a, b) ∈ O ↔ b = a + 1 ∧ 0 ≤ a ∧ b < 1 + (n : Int) ∧ b ∉ cs) ∧ O.length ≤ n) := ⟨_, rfl⟩
    refine lc_range (lo := 1) (n := ((r : Int) - 1).toNat) Pc (by rw [hPc]; exact ⟨same_upd nc, [], [], upd_same, PL.nil0 _, fun a b => ⟨fun z => (by cases z), fun z => absurd z.2.2.1 (by omega)⟩, Nat.le_refl _⟩) (fun n Hx hn pv => ?_) (fun Hx pv => ?_)
    · rw [hPc] at pv
      obtain ⟨sx, zs, O, hc, po, mo, ol⟩ := pv
      have zl := po.len
      have nxc : ∀ zs O Hx, Same H Hx → Hx c = some (.lst zs) → PL Hx zs O → (∀ a b : Int, (a, b) ∈ O ↔ b = a + 1 ∧ 0 ≤ a ∧ b < 1 + ((n + 1 : Nat) : Int) ∧ b ∉ cs) → O.length ≤ n + 1 → Pc (n + 1) Hx := fun zs O Hx h1 h2 h3 h4 h5 => by
        rw [hPc]
        exact ⟨h1, zs, O, h2, h3, h4, h5⟩
      simp only [wipe]
      walk_at "rd"
      refine ⟨t, _, rfl, .inr (SqT.of (sx _ _ ht)), rfl, flI _, ?_⟩
      rw [inI]
      refine ⟨_, rfl, ?_⟩
      by_cases c0 : (1 + (n : Int)) ∈ cs
      · rw [decide_eq_true c0, if_neg (by decide)]
        refine nxc zs O Hx sx hc po (fun a b => (mo a b).trans ⟨fun z => ⟨z.1, z.2.1, by omega, z.2.2.2⟩, fun z => ⟨z.1, z.2.1, ?_, z.2.2.2⟩⟩) (by omega)
        by_cases e : b = 1 + (n : Int)
        · exact absurd (e ▸ c0) z.2.2.2
        · omega
      · rw [decide_eq_false c0, if_pos (by rfl)]
        refine ⟨by decide, fun e ne => ?_⟩
        have se := same_upd (o := HO.tup [V.int (1 + (n : Int) - 1), V.int (1 + (n : Int))]) ne
        have ec : e ≠ c := fun z => by rw [z, hc] at ne; cases ne
        refine ⟨zs, se _ _ hc, len_big (by omega), ?_⟩
        refine nxc (zs ++ [.ref e]) (O ++ [((1 + (n : Int) - 1), (1 + (n : Int)))]) _ (same_ch (sx.trans se) nc) upd_same (PL.snoc ((po.kt (KT.same se)).kt (KT.lst (se _ _ hc))) ⟨e, rfl, by rw [upd_ne ec, upd_same]⟩) (fun a b => ?_) (by rw [List.length_append]; exact Nat.succ_le_succ ol)
        rw [List.mem_append, List.mem_singleton, mo a b]
        constructor
        · rintro (z | z)
          · exact ⟨z.1, z.2.1, by omega, z.2.2.2⟩
          · have z1 : a = 1 + (n : Int) - 1 := congrArg Prod.fst z
            have z2 : b = 1 + (n : Int) := congrArg Prod.snd z
            exact ⟨by omega, by omega, by omega, by rw [z2]; exact c0⟩
        · rintro ⟨z1, z2, z3, z4⟩
          by_cases e : b = 1 + (n : Int)
          · exact .inr (Prod.ext (by show a = _; omega) e)
          · exact .inl ⟨z1, z2, by omega, z4⟩
    · rw [hPc] at pv
      obtain ⟨s1, zs, O, hc, po, mo, ol⟩ := pv
      have hO : Opn r cs O := fun a b => (mo a b).trans ⟨fun z => ⟨z.1, z.2.1, by omega, z.2.2.2⟩, fun z => ⟨z.1, z.2.1, by omega, z.2.2.2⟩⟩
      clear hPc Pc mo
      have ml : ms.length = ks.length := Paired.length lk
      obtain ⟨Pv, hPv⟩ : ∃ Pv : Nat → L2.St → Hp → Prop, Pv = (fun _ σ Hy => ∃ (v5 v6 v7 v8 : Option V), σ = [some (.int r), some (.ref l), some (.ref m), some (.ref t), some (.ref c), v5, v6, v7, v8] ∧ Same Hx Hy) := ⟨_, rfl⟩
      refine for_iterW ?_
      walk_at "rd"
      refine ⟨⟨_, SqL.of (s1 _ _ hm)⟩, for_list (K := K) (a := m) (xs := ms) Pv (by rw [hPv]; exact ⟨none, none, none, none, rfl, Same.refl _⟩) (fun n σ Hy _ pv => by rw [hPv] at pv; obtain ⟨_, _, _, _, _, s9⟩ := pv; exact SqL.of (s9 _ _ (s1 _ _ hm))) (fun n v σ H2 gv pv => ?body) (fun σ H2 pv => ?done)⟩
      case done =>
        rw [hPv] at pv
        obtain ⟨v5, v6, v7, v8, rfl, sm⟩ := pv
        walk_at "rd"
        exact ret H2 (s1.trans sm)
      case body =>
        have nxt : ∀ (v5 v6 v7 v8 : Option V) (Hy : Hp), Same Hx Hy → Pv (n + 1) [some (.int r), some (.ref l), some (.ref m), some (.ref t), some (.ref c), v5, v6, v7, v8] Hy := fun v5 v6 v7 v8 Hy h1 => by
          rw [hPv]
          exact ⟨v5, v6, v7, v8, rfl, h1⟩
        rw [hPv] at pv
        obtain ⟨v5, v6, v7, v8, rfl, sm⟩ := pv
        clear hPv
        obtain ⟨k, gk, u, b, rfl, hu0, hb0⟩ := pget lk gv
        have mk := List.mem_of_getElem? gk
        have kl := klen k mk
        have s12 := s1.trans sm
        have hu := s12 _ _ hu0
        have hb := s12 _ _ hb0
        walk_at "rd"
        refine ⟨_, SqT.of hu, _, rfl, k.1, rfl, us, SqL.of (s12 _ _ hl), fun p np => ?_⟩
        rw [cut_takeU]
        have s3 := same_upd (o := HO.lst (us.take k.1)) np
        have hp := upd_same (H := H2) (a := p) (o := HO.lst (us.take k.1))
        generalize upd H2 p (HO.lst (us.take k.1)) = H3 at s3 hp ⊢
        have s13 := s12.trans s3
        have sm3 := sm.trans s3
        refine ⟨p, c, us.take k.1, zs, L.take k.1, O, r, rfl, hp, lg_take (lg.kt (KT.same s13)) k.1, (fun d hd => inr d (List.mem_of_mem_take hd)), sm3 _ _ hc, po.kt (KT.same sm3), r12, fun q H4 s4 hq => ?_⟩
        have sm4 := sm3.trans s4
        have hu4 := s4 _ _ (s3 _ _ hu)
        have hb4 := s4 _ _ (s3 _ _ hb)
        refine for_iterW ?_
        walk_at "rd"
        obtain ⟨Pw, hPw⟩ : ∃ Pw : Nat → L2.St → Hp → Prop, Pw = (fun _ σ Hy => ∃ (v7 v8 : Option V), σ = [some (.int r), some (.ref l), some (.ref m), some (.ref t), some (.ref c), some (.ref u), some (.ref q), v7, v8] ∧ Hy = H4) := ⟨_, rfl⟩
        refine ⟨by omega, by omega, for_range (lo := 0) (n := ((r : Nat) : Int).toNat) Pw (by rw [hPw]; exact ⟨v7, v8, rfl, rfl⟩) (fun j σ Hy hj pv => ?_) (fun σ Hy pv => ?_)⟩
        · rw [hPw] at pv
          obtain ⟨v7', v8', rfl, rfl⟩ := pv
          have next : ∀ v7 v8 : Option V, Pw (j + 1) [some (.int r), some (.ref l), some (.ref m), some (.ref t), some (.ref c), some (.ref u), some (.ref q), v7, v8] Hy := fun v7 v8 => by
            rw [hPw]
            exact ⟨v7, v8, rfl, rfl⟩
          clear hPw
          have jr : j < r := by omega
          have gb : (k.2.map optS)[j]? = some (optS (k.2.getD j none)) := by
            rw [List.getElem?_map, List.getElem?_eq_getElem (by omega), List.getD_eq_getElem?_getD, List.getElem?_eq_getElem (by omega)]
            rfl
          have gh : ((rg r).map fun x => optS (wordP (L.take k.1) (rchF r O x)))[j]? = some (optS (wordP (L.take k.1) (rchF r O (j : Int)))) := by
            unfold rg
            rw [List.getElem?_map, List.getElem?_map, List.getElem?_range jr]
            rfl
          have sk := seen_ok hO ch mk (x := (j : Int)) (by omega) (by omega)
          rw [Int.toNat_natCast] at sk
          rw [show ((0 : Int) + (j : Int)) = (j : Int) by omega]
          walk_at "rd"
          refine ⟨_, SqT.of hu4, _, rfl, b, rfl, _, SqL.of hb4, _, at_of (j := j) rfl gb, ?_⟩
          refine ⟨optS_scal _ unS, ?_⟩
          dsimp only
          by_cases c1 : k.2.getD j none = unS
          · rw [c1]
            rw [show decide (optS unS = V.str (Str.ofString "?")) = true from decide_eq_true rfl]
            refine ⟨false, rfl, ?_⟩
            rw [if_neg (by decide), if_neg id]
            exact next _ _
          · have c2 : ¬ optS (k.2.getD j none) = V.str (Str.ofString "?") := fun z => c1 (optS_inj (o' := unS) z)
            have c3 := sk.resolve_left c1
            rw [decide_eq_false c2]
            refine ⟨true, rfl, ?_⟩
            rw [if_pos rfl]
            refine ⟨_, SqT.of hu4, _, rfl, b, rfl, _, SqL.of hb4, _, at_of (j := j) rfl gb, _, SqL.of hq, _, at_of (j := j) rfl gh, ?_⟩
            refine ⟨optS_scal _ _, ?_⟩
            dsimp only
            rw [c3, decide_eq_true rfl]
            refine ⟨false, rfl, ?_⟩
            rw [if_neg (by decide)]
            exact next _ _
        · rw [hPw] at pv
          obtain ⟨v7', v8', rfl, rfl⟩ := pv
          exact nxt _ _ _ _ _ sm4
end

abbrev sLaw : Stmt := topS 23
theorem by_tail {S : V → Hp → Prop} {G : Prop} (T : V → Hp → Prop) (h1 : (∀ v Hx, S v Hx → T v Hx) → G) (h2 : ∀ v Hx, S v Hx → T v Hx) : G := h1 h2
theorem by_tail1 {S : Nat → Prop} {G : Prop} (T : Nat → Prop) (h1 : (∀ m, S m → T m) → G) (h2 : ∀ m, S m → T m) : G := h1 h2
theorem IsLk.lst {H : Hp} {p : Addr} {xs ms : List V} {ks : List Lk} {v : V} {k : Lk} (h : IsLk H v k) (hp : H p = some (.lst ms)) (lk : LKs H ms ks) (k1 : 1 ≤ k.2.length) : IsLk (upd H p (.lst xs)) v k := by
  obtain ⟨t, b, e, h1, h2⟩ := h
  refine ⟨t, b, e, ?_, ?_⟩
  · rw [upd_ne (fun z => by rw [z, hp] at h1; cases h1)]
    exact h1
  · rw [upd_ne (fun z => ?_)]
    · exact h2
    · rw [z, hp] at h2
      have e2 := HO.lst.inj (Option.some.inj h2)
      cases hk : k.2 with
      | nil => rw [hk] at k1; exact absurd k1 (by decide)
      | cons o rest =>
        rw [hk] at e2
        subst e2
        cases lk with
        | cons r _ =>
          obtain ⟨t', _, e3, _⟩ := r
          cases o <;> cases e3
theorem paired_mapPm {α β : Type} {F G : α → β → Prop} {xs : List α} {ys : List β} (h : Paired F xs ys) (f : ∀ x y, y ∈ ys → F x y → G x y) : Paired G xs ys := by
  induction h with
  | nil => exact .nil
  | cons r _ ih => exact .cons (f _ _ List.mem_cons_self r) (ih fun x y hy => f x y (List.mem_cons_of_mem _ hy))
theorem way_ne {S : List Pr} {j : Nat} {W : List (List Int)} (ok : WayOk S j W) : 0 < W.length ↔ ∃ ps, Ch S j ps := by
  constructor
  · intro h
    obtain ⟨cs, hcs⟩ := List.exists_mem_of_length_pos h
    rcases (ok.1 cs).mp hcs with ⟨z, _⟩ | ⟨_, c⟩
    · rw [z]
      exact ⟨[], .nil⟩
    · exact ⟨_, c⟩
  · rintro ⟨ps, c⟩
    by_cases j0 : (j : Int) = 0
    · exact List.length_pos_of_mem ((ok.1 []).mpr (.inl ⟨j0, rfl⟩))
    · obtain ⟨cs, rfl⟩ := c.last j0
      exact List.length_pos_of_mem ((ok.1 cs).mpr (.inr ⟨by omega, c⟩))
theorem AnsH.same {H H' : Hp} {L : List Cl} {ks : List Lk} {r : Nat} {q : Addr} (h : AnsH H L ks r q) (s : Same H H') : AnsH H' L ks r q := by
  rcases h with ⟨t, cs, h1, h2, h3⟩ | ⟨t, ys, h1, h2, h3⟩
  · exact .inl ⟨t, cs, s _ _ h1, s _ _ h2, h3⟩
  · exact .inr ⟨t, ys, s _ _ h1, s _ _ h2, h3⟩
theorem ans_sm {H : Hp} {L : List Cl} {ks : List Lk} {r : Nat} {q q' : Addr} (r12 : r ≤ 12) (h : AnsH H L ks r q) (h' : AnsH H L ks r q') (n : Nat) : Sm H (n + 2) (.ref q) (.ref q') := by
  have asc := (sndS_asc L ks r).1
  have two : ∀ (x : Str) (t t' : Addr) (us : List Int), H q = some (.tup [.str x, .ref t]) → H q' = some (.tup [.str x, .ref t']) → H t = some (.tup (us.map V.int)) → H t' = some (.tup (us.map V.int)) → us.length ≤ 100000 → Sm H (n + 2) (.ref q) (.ref q') := fun x t t' us h1 h2 h3 h4 hl =>
    .inr ⟨q, q', _, _, rfl, rfl, .inr ⟨h1, h2⟩, Paired.cons (Sm.flat rfl) (Paired.cons (sm_flatsT h3 h4 (flat_intsV us) (by rw [List.length_map]; exact hl) n) Paired.nil), by show 2 ≤ 100000; decide⟩
  rcases h with ⟨t, cs, h1, h2, h3, h4⟩ | ⟨t, ys, h1, h2, h3, h4, h5, h6⟩ <;> rcases h' with ⟨t', cs', k1, k2, k3, k4⟩ | ⟨t', ys', k1, k2, k3, k4, k5, k6⟩
  · have e : cs = cs' := List.append_cancel_right (sle_anti (h4 _ k3) (k4 _ h3))
    subst e
    have := (h3.rng asc).2.2
    rw [List.length_append] at this
    exact two _ t t' cs h1 k1 h2 k2 (by omega)
  · exact absurd ((k5 r).mpr ⟨_, h3⟩) k6
  · exact absurd ((h5 r).mpr ⟨_, k3⟩) h6
  · have e : ys = ys' := List.Perm.eq_of_pairwise (fun a b _ _ h1 h2 => Int.le_antisymm h1 h2) h3 k3 ((List.perm_ext_iff_of_nodup h4 k4).mpr fun x => (h5 x).trans (k5 x).symm)
    subst e
    have l := int_sub_len h4 (m := (List.range (r + 1)).map fun k : Nat => (k : Int)) (fun x hx => by
      obtain ⟨ps, c⟩ := (h5 x).mp hx
      have := c.rng asc
      exact List.mem_map.mpr ⟨x.toNat, List.mem_range.mpr (by omega), by omega⟩) (fun x hx => by
      obtain ⟨k, _, rfl⟩ := List.mem_map.mp hx
      omega)
    rw [List.length_map, List.length_range] at l
    exact two _ t t' ys h1 k1 h2 k2 (by omega)
theorem by_tailH {S : Hp → Prop} {G : Prop} (T : Hp → Prop) (h1 : (∀ Hx, S Hx → T Hx) → G) (h2 : ∀ Hx, S Hx → T Hx) : G := h1 h2
theorem sm_look {H : Hp} {u v : V} {k : Lk} (hu : IsLk H u k) (hv : IsLk H v k) (hl : k.2.length ≤ 100000) : Sm H 2 u v := by
  obtain ⟨t, b, rfl, e1, e2⟩ := hu
  obtain ⟨t', b', rfl, f1, f2⟩ := hv
  refine .inr ⟨t, t', _, _, rfl, rfl, .inr ⟨e1, f1⟩, Paired.cons (Sm.flat rfl) (Paired.cons (sm_flats e2 f2 (fun x hx => ?_) (by rw [List.length_map]; exact hl) 0) Paired.nil), by show 2 ≤ 100000; decide⟩
  obtain ⟨o, _, rfl⟩ := List.mem_map.mp hx
  cases o <;> rfl
theorem sm_looks {H : Hp} {x y : Addr} {us vs : List V} {ks : List Lk} (hx : H x = some (.lst us)) (hy : H y = some (.lst vs)) (pu : LKs H us ks) (pv : LKs H vs ks) (hl : ks.length ≤ 100000) (kl : ∀ k ∈ ks, k.2.length ≤ 100000) : Sm H 3 (.ref x) (.ref y) := by
  refine .inr ⟨x, y, _, _, rfl, rfl, .inl ⟨hx, hy⟩, ?_, by rw [Paired.length pu]; exact hl⟩
  clear hx hy hl
  induction pu generalizing vs with
  | nil => cases pv; exact Paired.nil
  | cons r _ ih => cases pv with | cons r2 t2 => exact Paired.cons (sm_look r r2 (kl _ List.mem_cons_self)) (ih t2 fun k hk => kl k (List.mem_cons_of_mem _ hk))
theorem u3 {u : Nat} (h : u + 64 < cLine) : u + 3 < cLine := by omega
/-! ### min of a list of pairs of a length and a tuple of ints -/
def IsL (H : Hp) (v : V) (q : List Int) : Prop := ∃ u t, v = .ref u ∧ H u = some (.tup [.int q.length, .ref t]) ∧ H t = some (.tup (q.map V.int))
theorem IsL.kt {H H' : Hp} {v : V} {q : List Int} (h : IsL H v q) (k : KT H H') : IsL H' v q := by
  obtain ⟨u, t, e, h1, h2⟩ := h
  exact ⟨u, t, e, k _ _ h1, k _ _ h2⟩
theorem dp_L {K : PySem.W.Frag} {H : Hp} {us : List V} {L : List (List Int)} (h : Paired (IsL H) us L) : DpAll K H us (L.map lenD) := by
  induction h with
  | nil => exact .nil
  | cons r _ ih =>
    obtain ⟨u, t, rfl, hu, ht⟩ := r
    exact .cons (dp_len hu ht) ih
theorem dep_LL (L : List (List Int)) : PyData.depthAll (L.map lenD) ≤ 2 := by
  induction L with
  | nil => exact Nat.zero_le _
  | cons q L ih =>
    show max (lenD q).depth (PyData.depthAll (L.map lenD)) ≤ 2
    exact Nat.max_le.mpr ⟨dep_len q, ih⟩
theorem lenD_inj {p q : List Int} (h : lenD p = lenD q) : p = q := by
  unfold lenD at h
  have h2 := PyData.tuple.inj h
  have h3 := PyData.tuple.inj (List.cons.inj (List.cons.inj h2).2).1
  exact List.map_inj_right (fun a b e => PyData.int.inj e) |>.mp h3
theorem minD_L : ∀ (L : List (List Int)) (q : List Int), ∃ m ∈ q :: L, PySem.W.minD (lenD q) (L.map lenD) = lenD m ∧ ∀ p ∈ q :: L, m = p ∨ slt m p
  | [], q => ⟨q, List.mem_cons_self, rfl, fun p hp => .inl (List.mem_singleton.mp hp).symm⟩
  | y :: L, q => by
    have e : PySem.W.minD (lenD q) ((y :: L).map lenD) = PySem.W.minD (if PySem.W.dataLt (lenD y) (lenD q) then lenD y else lenD q) (L.map lenD) := rfl
    by_cases c : slt y q
    · rw [(dataLt_len y q).mpr c, if_pos rfl] at e
      obtain ⟨m, hm, em, le⟩ := minD_L L y
      refine ⟨m, List.mem_cons_of_mem _ hm, e.trans em, fun p hp => ?_⟩
      rcases List.mem_cons.mp hp with h | h
      · rw [h]
        rcases le y List.mem_cons_self with z | z
        · rw [z]; exact .inr c
        · exact .inr (slt_trans z c)
      · exact le p h
    · have nc : ¬ PySem.W.dataLt (lenD y) (lenD q) = true := fun z => c ((dataLt_len y q).mp z)
      rw [if_neg nc] at e
      obtain ⟨m, hm, em, le⟩ := minD_L L q
      refine ⟨m, ?_, e.trans em, fun p hp => ?_⟩
      · rcases List.mem_cons.mp hm with h | h
        · rw [h]; exact List.mem_cons_self
        · exact List.mem_cons_of_mem _ (List.mem_cons_of_mem _ h)
      · rcases List.mem_cons.mp hp with h | h
        · exact le p (by rw [h]; exact List.mem_cons_self)
        · rcases List.mem_cons.mp h with h | h
          · rw [h]
            rcases le q List.mem_cons_self with z | z
            · rw [z]
              rcases slt_tri q y with w | w | w
              · exact .inl w
              · exact .inr w
              · exact absurd w c
            · rcases slt_tri q y with w | w | w
              · exact .inr (by rw [← w]; exact z)
              · exact .inr (slt_trans z w)
              · exact absurd w c
          · exact le p (List.mem_cons_of_mem _ h)
def rMinL (K : PySem.W.Frag) : List V → Hp → VK → Prop := fun vs H Q => ∃ (a : Addr) (us : List V) (L : List (List Int)), vs = [.ref a] ∧ SqL K H a us ∧ Paired (IsL H) us L ∧ L ≠ [] ∧ ∀ (v : V) (q : List Int), v ∈ us → IsL H v q → q ∈ L → (∀ p ∈ L, q = p ∨ slt q p) → Q v H
theorem cr_minL {X : Cx} (hc : X.calm = true) (hu : X.A.units + 3 < cLine) : CallR X (.builtin "min") (rMinL X.K) := by
  intro pins s σ H vs us0 Q I r h
  obtain ⟨a, us, L, rfl, hs, tl, ne, q⟩ := h
  obtain ⟨its, rv, hl, _⟩ := I.list hs
  rw [Vals.ref1 r]
  cases L with
  | nil => exact absurd rfl ne
  | cons q0 L =>
    have dp := dp_L (K := X.K) tl
    obtain ⟨as, hr⟩ := Dp.readsAll I ((q0 :: L).map lenD) us its dp rv
    obtain ⟨m, hm, em, le⟩ := minD_L L q0
    refine PySem.W.min_list_data (x := lenD q0) (xs := L.map lenD) (I.ok.hd hc) hl.isList (by simpa using hr) ⟨fun x hx y hy => ?_, fun x hx => ?_⟩ ?_ fun i v h' tk bs hv hb hk => ?_
    · obtain ⟨p1, _, rfl⟩ := List.mem_map.mp (show x ∈ (q0 :: L).map lenD from hx)
      obtain ⟨p2, _, rfl⟩ := List.mem_map.mp (show y ∈ (q0 :: L).map lenD from hy)
      exact alike_len p1 p2
    · obtain ⟨p1, _, rfl⟩ := List.mem_map.mp (show x ∈ (q0 :: L).map lenD from hx)
      intro z
      cases z
    · have := dep_LL (q0 :: L)
      show X.A.units + 1 + PyData.depthAll ((q0 :: L).map lenD) < cLine
      omega
    · have hv2 : its[i]? = some v := by simpa using hv
      have hi := (List.getElem?_eq_some_iff.mp hv2).1
      have ul := rv.length
      obtain ⟨u, hu'⟩ : ∃ u, us[i]? = some u := ⟨us[i]'(by omega), List.getElem?_eq_getElem (by omega)⟩
      obtain ⟨v', hv', rel⟩ := rv.get hu'
      have ev := Option.some.inj (hv'.symm.trans hv2)
      subst ev
      obtain ⟨d, hd, isd⟩ := pget tl hu'
      have dpd : Dp X.K H u (lenD d) := by
        obtain ⟨u, t, rfl, hu2, ht⟩ := isd
        exact dp_len hu2 ht
      obtain ⟨as2, r2⟩ := Dp.reads I (lenD d) u v' dpd rel
      have eq := (PySem.Reads.unique (PySem.W.reads_keeps hk r2) _ _ hb).1
      rw [em] at eq
      have edm := lenD_inj eq
      subst edm
      exact ⟨u, H, I.kept hk, rel, q u d (List.mem_of_getElem? hu') isd hm le⟩
section
variable {P : Program} {w : World} {K : PySem.W.Frag} {mg : Str → Option Value} {base : Heap}
theorem scLaw : FnScope ["script", "n", "m", "rooms", "words", "log", "hidden", "many", "looks", "k", "numbers", "ways", "due", "handed", "answer", "p", "look", "place", "cuts"] ["script"] (defScope sLaw) := ⟨rfl, rfl, rfl, by decide +kernel, rfl, by decide +kernel, by decide +kernel⟩
def spLaw (K : PySem.W.Frag) : Sp := fun vs H Q _ => ∃ (a : Addr) (ns : List Int), vs = [.ref a] ∧ SqL K H a (ns.map V.int) ∧ ns.length ≤ 63 ∧ ∀ H', Q (.bl true) H'
set_option maxHeartbeats 4000000 in
theorem ok_law {f f1 f2 f3 f4 f5 f6 f7 f8 f9 : Addr} {fd fd1 fd2 fd3 fd4 fd5 fd6 fd7 fd8 fd9 : FuncData} (F : Fun K "law" "law" sLaw f fd) (T : Bi mg)
    (d__law_cell : Df P w K mg base "_law_cell" ["script", "k"] 1 (spCell K) f1 fd1) (d__law_numbers : Df P w K mg base "_law_numbers" ["cell", "count"] 1 (spNum K) f2 fd2) (d__law_words : Df P w K mg base "_law_words" ["numbers", "at", "many"] 2 (spLws K) f3 fd3)
    (d__law_log : Df P w K mg base "_law_log" ["numbers", "at", "many", "rooms", "words"] 1 (spLlg K) f4 fd4) (d__law_partial_look : Df P w K mg base "_law_partial_look" ["numbers", "rooms", "log", "hidden", "words"] 3 (spLpo K) f5 fd5)
    (d__law_cuts_up_to : Df P w K mg base "_law_cuts_up_to" ["rooms", "log", "looks"] 3 spCu f6 fd6) (d__law_seen_so : Df P w K mg base "_law_seen_so" ["rooms", "log", "looks", "cuts"] 3 spLso f7 fd7)
    (d_cuts_answer : Df P w K mg base "cuts_answer" ["rooms", "log", "looks"] 5 spCa f8 fd8) (d__law_same : Df P w K mg base "_law_same" ["got", "due"] 5 (spSame 4) f9 fd9) : FnOk P w K mg base CX0 6 f fd ["script"] (spLaw K) := by
  refine F.ok scLaw (fun vs H Q E h => ?_) (fun cdv A outer s H vs Q E hr h => ?_)
  · obtain ⟨a, ns, rfl, _⟩ := h
    rfl
  · obtain ⟨a, ss, rfl, hS, _, qfin⟩ := h
    refine ⟨_, (pss_cons (ps_set (i := 1) scLaw.nd rfl (Or.inr rfl) (pe_call d__law_numbers.ok (hr.mono (by decide)) (by rfl) d__law_numbers.at_ d__law_numbers.kp d__law_numbers.b .nil pass0 (pa_cons (pe_call d__law_cell.ok (hr.mono (by decide)) (by rfl) d__law_cell.at_ d__law_cell.kp d__law_cell.b .nil pass0 (pa_cons (pv 0) (pa_cons pe_int pa_nil))) (pa_cons pe_int pa_nil))))
      (pss_cons (ps_set (i := 2) scLaw.nd rfl (Or.inl rfl) (pe_call d__law_numbers.ok (hr.mono (by decide)) (by rfl) d__law_numbers.at_ d__law_numbers.kp d__law_numbers.b .nil pass0 (pa_cons (pe_call d__law_cell.ok (hr.mono (by decide)) (by rfl) d__law_cell.at_ d__law_cell.kp d__law_cell.b .nil pass0 (pa_cons (pv 0) (pa_cons pe_int pa_nil))) (pa_cons pe_int pa_nil))))
      (pss_cons (ps_set (i := 3) scLaw.nd rfl (Or.inl rfl) (pe_op op_add pe_int (pe_op op_mod (pe_callTy cr_intI (by rfl) T.int (by decide +kernel) (pa_cons (pe_ix ix_list (pv 1) pe_int (fun _ _ => rfl)) pa_nil)) pe_int)))
      (pss_cons (ps_set (i := 4) scLaw.nd rfl (Or.inl rfl) (pe_slice sl_list (pe_call d__law_words.ok (hr.mono (by decide)) (by rfl) d__law_words.at_ d__law_words.kp d__law_words.b .nil pass0 (pa_cons (pv 2) (pa_cons pe_int (pa_cons pe_int pa_nil)))) po_none (po_some (pe_op op_add pe_int (pe_op op_mod (pe_callTy cr_intI (by rfl) T.int (by decide +kernel) (pa_cons (pe_ix ix_list (pv 2) pe_int (fun _ _ => rfl)) pa_nil)) pe_int)))))
      (pss_cons (ps_set (i := 5) scLaw.nd rfl (Or.inl rfl) (pe_call d__law_log.ok (hr.mono (by decide)) (by rfl) d__law_log.at_ d__law_log.kp d__law_log.b .nil pass0 (pa_cons (pv 2) (pa_cons pe_int (pa_cons (pe_op op_mod (pe_callTy cr_intI (by rfl) T.int (by decide +kernel) (pa_cons (pe_ix ix_list (pv 2) pe_int (fun _ _ => rfl)) pa_nil)) pe_int) (pa_cons (pv 3) (pa_cons (pv 4) pa_nil)))))))
      (pss_cons (ps_setLc (i := 6) (own := [("p", 15)]) (by rfl) scLaw.nd rfl rfl (sw_true rfl rfl rfl (by decide +kernel)) (pi_range2 (by rfl) T.range (pa_cons pe_int (pa_cons (pv 3) pa_nil))) (blkOk_by (N := ["script", "n", "m", "rooms", "words", "log", "hidden", "many", "looks", "k", "numbers", "ways", "due", "handed", "answer", "p", "look", "place", "cuts"]) (sc := defScope sLaw) (by decide +kernel)) (fun _ _ _ _ _ => pg_name (i := 15) scLaw.nd rfl (Or.inl rfl)) (fun _ _ _ _ _ => (pts_one (pt_cmpR op_eqI (pe_op op_mod (pe_callTy cr_intI (by rfl) T.int (by decide +kernel) (pa_cons (pe_ix (show IxR _ (rIxL K) from ix_list) (pv 1) (pe_op op_add pe_int (pv 15)) (fun _ _ => rfl)) pa_nil)) pe_int) pe_int (nomark _)))) (fun _ _ _ _ _ => (pe_tup (pa_cons (pe_op op_sub (pv 15) pe_int) (pa_cons (pv 15) pa_nil)))))
      (pss_cons (ps_set (i := 7) scLaw.nd rfl (Or.inl rfl) (pe_op op_mod (pe_callTy cr_intI (by rfl) T.int (by decide +kernel) (pa_cons (pe_ix ix_list (pv 1) pe_int (fun _ _ => rfl)) pa_nil)) pe_int))
      (pss_cons (ps_if (pt_cmpR op_eqI (pe_op op_mod (pe_callTy cr_intI (by rfl) T.int (by decide +kernel) (pa_cons (pe_ix ix_list (pv 1) pe_int (fun _ _ => rfl)) pa_nil)) pe_int) pe_int (nomark _))
      (pss_one (ps_set (i := 7) scLaw.nd rfl (Or.inl rfl) (pe_op op_add (pv 7) pe_int)))
      pss_nil)
      (pss_cons (ps_set (i := 8) scLaw.nd rfl (Or.inl rfl) (pe_lst pa_nil))
      (pss_cons (ps_for PassesOwn.never rfl (pi_range1 (by rfl) T.range (pa_cons (pv 7) pa_nil)) (pg_name (i := 9) scLaw.nd rfl (Or.inl rfl))
      (pss_cons (ps_set (i := 10) scLaw.nd rfl (Or.inl rfl) (pe_call d__law_numbers.ok (hr.mono (by decide)) (by rfl) d__law_numbers.at_ d__law_numbers.kp d__law_numbers.b .nil pass0 (pa_cons (pe_op op_add (pe_call d__law_cell.ok (hr.mono (by decide)) (by rfl) d__law_cell.at_ d__law_cell.kp d__law_cell.b .nil pass0 (pa_cons (pv 0) (pa_cons (pe_op op_add pe_int (pv 9)) pa_nil))) (pe_op op_mul pe_int (pv 9))) (pa_cons pe_int pa_nil))))
        (pss_one (ps_expr (pe_bm PySem.F.plainAttrs_list PySem.F.slot_list_append PySem.F.type_list_append mt_append (pv 8) (pa_cons (pe_call d__law_partial_look.ok (hr.mono (by decide)) (by rfl) d__law_partial_look.at_ d__law_partial_look.kp d__law_partial_look.b .nil pass0 (pa_cons (pv 10) (pa_cons (pv 3) (pa_cons (pv 5) (pa_cons (pv 6) (pa_cons (pv 4) pa_nil)))))) pa_nil))))))
      (pss_cons (ps_set (i := 11) scLaw.nd rfl (Or.inr rfl) (pe_call d__law_cuts_up_to.ok (hr.mono (by decide)) (by rfl) d__law_cuts_up_to.at_ d__law_cuts_up_to.kp d__law_cuts_up_to.b .nil pass0 (pa_cons (pv 3) (pa_cons (pv 5) (pa_cons (pv 8) pa_nil)))))
      (pss_cons (ps_set (i := 12) scLaw.nd rfl (Or.inl rfl) (pe_tup (pa_cons pe_str (pa_cons (pe_callTy call_tuple_of (by rfl) T.tuple (by decide +kernel) (pa_cons (pe_lc (own := [("place", 17)]) (tt := tTest (tOp (rI0 fun i j => V.bl (decide (j < i))) (tCB (fun xs H Q => ∃ p ys, xs = [V.ref p] ∧ (SqL K H p ys ∨ SqT K H p ys) ∧ Q (V.int ys.length) H) (tCons (tOp (rIxL K) (tVar 11) (tVar 17)) tNil)) (tC (V.int 0)))) (by rfl) scLaw.nd (pi_range1 (by rfl) T.range (pa_cons (pe_op op_add (pv 3) pe_int) pa_nil)) (blkOk_by (N := ["script", "n", "m", "rooms", "words", "log", "hidden", "many", "looks", "k", "numbers", "ways", "due", "handed", "answer", "p", "look", "place", "cuts"]) (sc := defScope sLaw) (by decide +kernel)) (fun _ _ _ _ _ => pg_name (i := 17) scLaw.nd rfl (Or.inl rfl)) (fun _ _ _ _ _ => (pts_one (pt_cmpR op_gt (pe_callB call_len_seq (by rfl) T.len (by decide +kernel) (pa_cons (pe_ix ix_list (pv 11) (pv 17) (fun _ _ => rfl)) pa_nil)) pe_int (nomark _)))) (fun _ _ _ _ _ => (pv 17))) pa_nil)) pa_nil))))
      (pss_cons (ps_if (pt_cmpR op_gt (pe_callB call_len_seq (by rfl) T.len (by decide +kernel) (pa_cons (pe_ix ix_list (pv 11) (pv 3) (fun _ _ => rfl)) pa_nil)) pe_int (nomark _))
      (pss_one (ps_set (i := 12) scLaw.nd rfl (Or.inl rfl) (pe_tup (pa_cons pe_str (pa_cons (pe_ix ix_tup (pe_callB (cr_minL rfl (u3 hr.units)) (by rfl) T.min (by decide +kernel) (pa_cons (pe_lc (own := [("cuts", 18)]) (te := tTup (tCons (tCB (fun xs H Q => ∃ p ys, xs = [V.ref p] ∧ (SqL K H p ys ∨ SqT K H p ys) ∧ Q (V.int ys.length) H) (tCons (tVar 18) tNil)) (tCons (tVar 18) tNil))) (by rfl) scLaw.nd (pi_list (pe_ix ix_list (pv 11) (pv 3) (fun _ _ => rfl))) (blkOk_by (N := ["script", "n", "m", "rooms", "words", "log", "hidden", "many", "looks", "k", "numbers", "ways", "due", "handed", "answer", "p", "look", "place", "cuts"]) (sc := defScope sLaw) (by decide +kernel)) (fun _ _ _ _ _ => pg_name (i := 18) scLaw.nd rfl (Or.inl rfl)) (fun _ _ _ _ _ => pts_nil) (fun _ _ _ _ _ => (pe_tup (pa_cons (pe_callB call_len_seq (by rfl) T.len (by decide +kernel) (pa_cons (pv 18) pa_nil)) (pa_cons (pv 18) pa_nil))))) pa_nil)) pe_int (fun _ _ => rfl)) pa_nil)))))
      pss_nil)
      (pss_cons (ps_set (i := 13) scLaw.nd rfl (Or.inl rfl) (pe_lst (pa_cons (pe_callTy call_list_of (by rfl) T.list (by decide +kernel) (pa_cons (pv 5) pa_nil)) (pa_cons (pe_lc (own := [("look", 16)]) (te := tTup (tCons (tOp (rIxT K) (tVar 16) (tC (V.int 0))) (tCons (tCB (fun xs H Q => ∃ p ys, xs = [V.ref p] ∧ (SqL K H p ys ∨ SqT K H p ys) ∧ ∀ l, H l = none → Q (V.ref l) (upd H l (HO.lst ys))) (tCons (tOp (rIxT K) (tVar 16) (tC (V.int 1))) tNil)) tNil))) (by rfl) scLaw.nd (pi_list (pv 8)) (blkOk_by (N := ["script", "n", "m", "rooms", "words", "log", "hidden", "many", "looks", "k", "numbers", "ways", "due", "handed", "answer", "p", "look", "place", "cuts"]) (sc := defScope sLaw) (by decide +kernel)) (fun _ _ _ _ _ => pg_name (i := 16) scLaw.nd rfl (Or.inl rfl)) (fun _ _ _ _ _ => pts_nil) (fun _ _ _ _ _ => (pe_tup (pa_cons (pe_ix ix_tup (pv 16) pe_int (fun _ _ => rfl)) (pa_cons (pe_callTy call_list_of (by rfl) T.list (by decide +kernel) (pa_cons (pe_ix ix_tup (pv 16) pe_int (fun _ _ => rfl)) pa_nil)) pa_nil))))) pa_nil))))
      (pss_cons (ps_set (i := 14) scLaw.nd rfl (Or.inl rfl) (pe_call d_cuts_answer.ok (hr.mono (by decide)) (by rfl) d_cuts_answer.at_ d_cuts_answer.kp d_cuts_answer.b .nil pass0 (pa_cons (pv 3) (pa_cons (pe_ix ix_list (pv 13) pe_int (fun _ _ => rfl)) (pa_cons (pe_ix ix_list (pv 13) pe_int (fun _ _ => rfl)) pa_nil)))))
      (pss_cons (ps_if (pt_not (pt_val (pe_call d__law_same.ok (hr.mono (by decide)) (by rfl) d__law_same.at_ d__law_same.kp d__law_same.b .nil pass0 (pa_cons (pv 14) (pa_cons (pv 12) pa_nil)))))
      (pss_one (ps_ret pe_bl))
      pss_nil)
      (pss_cons (ps_if (PW.pt (pw_and (pt_cmpR op_eq (pe_ix ix_tup (pv 14) pe_int (fun _ _ => rfl)) pe_str (nomark _)) (pw_and1 (pt_not (pt_val (pe_call d__law_seen_so.ok (hr.mono (by decide)) (by rfl) d__law_seen_so.at_ d__law_seen_so.kp d__law_seen_so.b .nil pass0 (pa_cons (pv 3) (pa_cons (pv 5) (pa_cons (pv 8) (pa_cons (pe_ix ix_tup (pv 14) pe_int (fun _ _ => rfl)) pa_nil))))))))))
      (pss_one (ps_ret pe_bl))
      pss_nil)
      (pss_cons (ps_if (PW.pt (pw_and (pt_cmpR op_eq (pe_ix ix_tup (pv 14) pe_int (fun _ _ => rfl)) pe_str (nomark _)) (pw_and1 (pt_cmpR op_in_seq (pv 3) (pe_ix ix_tup (pv 14) pe_int (fun _ _ => rfl)) (by rfl)))))
      (pss_one (ps_ret pe_bl))
      pss_nil)
      (pss_cons (ps_if (pt_not (pt_truth (pe_call d__law_same.ok (hr.mono (by decide)) (by rfl) d__law_same.at_ d__law_same.kp d__law_same.b .nil pass0 (pa_cons (pe_call d_cuts_answer.ok (hr.mono (by decide)) (by rfl) d_cuts_answer.at_ d_cuts_answer.kp d_cuts_answer.b .nil pass0 (pa_cons (pv 3) (pa_cons (pe_ix ix_list (pv 13) pe_int (fun _ _ => rfl)) (pa_cons (pe_lst pa_nil) pa_nil)))) (pa_cons (pe_tup (pa_cons pe_str (pa_cons (pe_tup pa_nil) pa_nil))) pa_nil))) (by intro _; rfl)))
      (pss_one (ps_ret pe_bl))
      pss_nil)
      (pss_cons (ps_if (pt_not (pt_val (pe_call d__law_same.ok (hr.mono (by decide)) (by rfl) d__law_same.at_ d__law_same.kp d__law_same.b .nil pass0 (pa_cons (pe_call d_cuts_answer.ok (hr.mono (by decide)) (by rfl) d_cuts_answer.at_ d_cuts_answer.kp d_cuts_answer.b .nil pass0 (pa_cons (pv 3) (pa_cons (pe_ix ix_list (pv 13) pe_int (fun _ _ => rfl)) (pa_cons (pe_ix ix_list (pv 13) pe_int (fun _ _ => rfl)) pa_nil)))) (pa_cons (pv 12) pa_nil)))))
      (pss_one (ps_ret pe_bl))
      pss_nil)
      (pss_one (ps_ret (pe_call d__law_same.ok (hr.mono (by decide)) (by rfl) d__law_same.at_ d__law_same.kp d__law_same.b .nil pass0 (pa_cons (pv 13) (pa_cons (pe_lst (pa_cons (pv 5) (pa_cons (pv 8) pa_nil))) pa_nil))))))))))))))))))))))))), ?_⟩
    walk_at "rd"
    refine ⟨a, ss, 0, rfl, hS, fun c0 _ => ⟨c0, 16, rfl, by decide, fun nl ln H1 N1 s1 fn1 hln => ?_⟩⟩
    refine ⟨a, ss, 1, rfl, s1.seq hS, fun c1 _ => ⟨c1, 34, rfl, by decide, fun ml lm H2 N2 s2 fm2 hlm => ?_⟩⟩
    have s02 := s1.trans s2
    have gN : ∀ j : Nat, j < 16 → ∃ x, (nl.map V.int)[j]? = some (.int x) := fun j hj => ⟨nl[j]'(by rw [N1.1]; exact hj), by rw [List.getElem?_map, List.getElem?_eq_getElem (by rw [N1.1]; exact hj)]; rfl⟩
    have gM : ∀ j : Nat, j < 34 → ∃ x, (ml.map V.int)[j]? = some (.int x) := fun j hj => ⟨ml[j]'(by rw [N2.1]; exact hj), by rw [List.getElem?_map, List.getElem?_eq_getElem (by rw [N2.1]; exact hj)]; rfl⟩
    obtain ⟨n0, g0⟩ := gN 0 (by decide)
    obtain ⟨n1, g1⟩ := gN 1 (by decide)
    obtain ⟨n13, g13⟩ := gN 13 (by decide)
    obtain ⟨m8, h8⟩ := gM 8 (by decide)
    obtain ⟨m9, h9⟩ := gM 9 (by decide)
    have hln2 := s2 _ _ hln
    refine ⟨ln, rfl, _, SqL.of hln2, .int n0, at_of (j := 0) rfl g0, n0, rfl, by decide, ?_⟩
    obtain ⟨r, er, hr1, hr12⟩ : ∃ r : Nat, 1 + n0 % 12 = (r : Int) ∧ 1 ≤ r ∧ r ≤ 12 := ⟨(1 + n0 % 12).toNat, by omega, by omega, by omega⟩
    rw [er]
    clear er
    refine ⟨lm, ml, 0, 4, rfl, SqL.of hlm, by rw [N2.1]; omega, by decide, by decide, fun Z p0 H3 wz s3 fp0 hp0 => ?_⟩
    have hlm3 := s3 _ _ hlm
    obtain ⟨q, eq, hq1, hq4⟩ : ∃ q : Nat, 1 + m8 % 4 = (q : Int) ∧ 1 ≤ q ∧ q ≤ 4 := ⟨(1 + m8 % 4).toNat, by omega, by omega, by omega⟩
    refine ⟨lm, rfl, _, SqL.of hlm3, .int m8, at_of (j := 8) rfl h8, m8, rfl, by decide, p0, rfl, _, SqL.of hp0, fun pz npz => ?_⟩
    rw [eq, cut_takeU, ← List.map_take]
    have s4 := same_upd (o := HO.lst ((Z.take q).map V.str)) npz
    have hpz := upd_same (H := H3) (a := pz) (o := HO.lst ((Z.take q).map V.str))
    generalize upd H3 pz (HO.lst ((Z.take q).map V.str)) = H4 at s4 hpz ⊢
    have zl : 1 ≤ (Z.take q).length := by rw [List.length_take, wz.1]; omega
    have zw : ∀ z ∈ Z.take q, wk 17 z := fun z hz => wz.2 z (List.mem_of_mem_take hz)
    obtain ⟨b, eb, hb12⟩ : ∃ b : Nat, m9 % 13 = (b : Int) ∧ b ≤ 12 := ⟨(m9 % 13).toNat, by omega, by omega⟩
    have hlm4 := s4 _ _ hlm3
    refine ⟨lm, rfl, _, SqL.of hlm4, .int m9, at_of (j := 9) rfl h9, m9, rfl, by decide, ?_⟩
    rw [eb]
    refine ⟨lm, pz, ml, 10, b, r, Z.take q, rfl, SqL.of hlm4, by rw [N2.1]; omega, by omega, hr1, hpz, zl, zw, fun L us l H5 len inr wkL s5 fl hl lg => ?_⟩
    have s25 := s3.trans (s4.trans s5)
    have hln5 := s25 _ _ hln2
    have hpz5 := s5 _ _ hpz
    clear hlm hlm3 hlm4 hp0 fp0 fm2 fn1 npz zl zw wz eb eq
    refine lcW ?_
    walk_at "rd"
    refine ⟨by omega, by omega, by omega, by omega, fun ho nho => ?_⟩
    have s6 : ∃ H6 os O, Same H5 H6 ∧ H6 ho = some (.lst os) ∧ PL H6 os O := ⟨_, [], [], same_upd nho, upd_same, PL.nil0 _⟩
    clear s6
    obtain ⟨Pc, hPc⟩ : ∃ Pc : Nat → Hp → Prop, Pc = (fun (n : Nat) Hx => Same H5 Hx ∧ ∃ os O, Hx ho = some (.lst os) ∧ PL Hx os O ∧ O.length ≤ n) := ⟨_, rfl⟩
    refine lc_range (lo := 1) (n := ((r : Int) - 1).toNat) Pc (by rw [hPc]; exact ⟨same_upd nho, [], [], upd_same, PL.nil0 _, Nat.le_refl _⟩) (fun n Hx hn pv => ?_) (fun H6 pv => ?_)
    · rw [hPc] at pv
      obtain ⟨sx, os, O, hho, po, ol⟩ := pv
      obtain ⟨x, gx⟩ := gN (1 + (1 + n)) (by omega)
      simp only [wipe]
      walk_at "rd"
      refine ⟨_, SqL.of (sx _ _ hln5), _, at_of (j := 1 + (1 + n)) (by omega) gx, x, rfl, by decide, ?_⟩
      by_cases c0 : x % 2 = 1
      · rw [if_pos c0]
        refine ⟨by decide, fun e ne => ?_⟩
        have se := same_upd (o := HO.tup [V.int (1 + (n : Int) - 1), V.int (1 + (n : Int))]) ne
        have ec : e ≠ ho := fun z => by rw [z, hho] at ne; cases ne
        refine ⟨os, se _ _ hho, len_big (by rw [po.len]; omega), ?_⟩
        rw [hPc]
        exact ⟨same_ch (sx.trans se) nho, os ++ [.ref e], O ++ [((1 + (n : Int) - 1), (1 + (n : Int)))], upd_same, PL.snoc ((po.kt (KT.same se)).kt (KT.lst (se _ _ hho))) ⟨e, rfl, by rw [upd_ne ec, upd_same]⟩, by rw [List.length_append]; exact Nat.succ_le_succ ol⟩
      · rw [if_neg c0, hPc]
        exact ⟨sx, os, O, hho, po, Nat.le_succ_of_le ol⟩
    rw [hPc] at pv
    obtain ⟨s6, os, O, hho, po, _⟩ := pv
    clear hPc Pc
    have hln6 := s6 _ _ hln5
    have hl6 := s6 _ _ hl
    have lg6 := lg.kt (KT.same s6)
    have hpz6 := s6 _ _ hpz5
    have s06 : Same H H6 := s02.trans (s25.trans s6)
    walk_at "rd"
    refine ⟨_, SqL.of hln6, .int n1, at_of (j := 1) rfl g1, n1, rfl, by decide, _, SqL.of hln6, .int n13, at_of (j := 13) rfl g13, n13, rfl, by decide, ?_⟩
    apply by_tail1 (S := fun m => m ≤ 8)
    · intro tail
      refine ite2 (fun _ => ?_) (fun _ => ?_)
      · obtain ⟨mm, e, hm⟩ : ∃ mm : Nat, n1 % 5 + 4 = (mm : Int) ∧ mm ≤ 8 := ⟨(n1 % 5 + 4).toNat, by omega, by omega⟩
        rw [e]
        exact tail mm hm
      · obtain ⟨mm, e, hm⟩ : ∃ mm : Nat, n1 % 5 = (mm : Int) ∧ mm ≤ 8 := ⟨(n1 % 5).toNat, by omega, by omega⟩
        rw [e]
        exact tail mm hm
    intro many hmany
    refine ⟨Nat.zero_le _, fun p nlk => ?_⟩
    refine for_iterW ?_
    walk_at "rd"
    have s5p := same_upd (o := HO.lst []) nlk
    obtain ⟨Pv, hPv⟩ : ∃ Pv : Nat → L2.St → Hp → Prop, Pv = (fun i σ Hx => ∃ (ms : List V) (ks : List Lk) (v9 v10 : Option V), σ = [some (.ref a), some (.ref ln), some (.ref lm), some (.int r), some (.ref pz), some (.ref l), some (.ref ho), some (.int many), some (.ref p), v9, v10, none, none, none, none, none, none, none, none] ∧ Same H6 Hx ∧ Hx p = some (.lst ms) ∧ LKs Hx ms ks ∧ (∀ k ∈ ks, k.2.length = r) ∧ ms.length = i) := ⟨_, rfl⟩
    refine ⟨by omega, by omega, for_range (lo := 0) (n := ((many : Nat) : Int).toNat) Pv (by rw [hPv]; exact ⟨[], [], none, none, rfl, s5p, upd_same, .nil, fun k hk => (by cases hk), rfl⟩) (fun i σ Hx hi pv => ?_) (fun σ H7 pv => ?_)⟩
    · have nxt : ∀ (ms : List V) (ks : List Lk) (v9 v10 : Option V) (Hx : Hp), Same H6 Hx → Hx p = some (.lst ms) → LKs Hx ms ks → (∀ k ∈ ks, k.2.length = r) → ms.length = i + 1 → Pv (i + 1) [some (.ref a), some (.ref ln), some (.ref lm), some (.int r), some (.ref pz), some (.ref l), some (.ref ho), some (.int many), some (.ref p), v9, v10, none, none, none, none, none, none, none, none] Hx := fun ms ks v9 v10 Hx h1 h2 h3 h4 h5 => by
        rw [hPv]
        exact ⟨ms, ks, v9, v10, rfl, h1, h2, h3, h4, h5⟩
      rw [hPv] at pv
      obtain ⟨ms, ks, v9, v10, rfl, sx, hpx, lk, kl, ml'⟩ := pv
      clear hPv
      walk_at "rd"
      rw [show ((2 : Int) + (0 + (i : Int))) = ((2 + i : Nat) : Int) by omega]
      refine ⟨a, ss, 2 + i, rfl, (s06.trans sx).seq hS, fun c _ => ?_⟩
      refine ⟨.inl (by decide), c, rfl, _, 14, rfl, by decide, fun nums pn H7 N7 s7 fn7 hn7 => ?_⟩
      have s67 := sx.trans s7
      refine ⟨.inl ⟨rfl, _, SqL.of (s7 _ _ hpx)⟩, pn, l, ho, pz, nums, r, us, os, L, O, Z.take q, rfl, SqL.of hn7, by rw [N7.1]; omega, hr12, s67 _ _ hl6, lg6.kt (KT.same s67), inr, s67 _ _ hho, po.kt (KT.same s67), s67 _ _ hpz6, fun v k H8 s8 ik k2 k1 => ?_⟩
      have hp8 := s8 _ _ (s7 _ _ hpx)
      have lk8 := (lk.same s7).same s8
      refine ⟨ms, hp8, len_big (by omega), ?_⟩
      refine nxt (ms ++ [v]) (ks ++ [k]) _ _ _ (same_ch (s67.trans s8) nlk) upd_same (Paired.snoc (paired_mapPm lk8 fun v' k' mk iv => iv.lst hp8 lk8 (by rw [kl k' mk]; exact hr1)) (ik.lst hp8 lk8 (by rw [k2]; exact hr1))) (fun k' hk' => ?_) (by rw [List.length_append, ml']; rfl)
      rcases List.mem_append.mp hk' with z | z
      · exact kl k' z
      · rw [List.mem_singleton.mp z]
        exact k2
    · rw [hPv] at pv
      obtain ⟨ms, ks, v9, v10, rfl, s67, hp7, lk7, klen, msl⟩ := pv
      clear hPv Pv
      have hl7 := s67 _ _ hl6
      have lg7 := lg6.kt (KT.same s67)
      clear hln6 hln5 hln2 hln hpz5 hpz6 hpz hho po s5p nlk s6 s25 s06 g0 g1 g13 h8 h9 gN gM N1 N2
      dsimp only
      walk_at "rd"
      refine ⟨l, p, us, ms, L, ks, r, rfl, hl7, lg7, hp7, lk7, klen, hr12, fun wa ws Ws H8 s8 wy => ?_⟩
      refine lcW ?_
      walk_at "rd"
      obtain ⟨S, hSd⟩ : ∃ S, S = sndS L ks (allS r) := ⟨_, rfl⟩
      rw [← hSd] at wy
      obtain ⟨hwa, pws, wl, wok⟩ := wy
      have wsl : ws.length = r + 1 := by rw [Paired.length pws, wl]
      have way : ∀ (Hx : Hp), Same H8 Hx → ∀ j : Nat, j < r + 1 → ∃ b us W, ws[j]? = some (.ref b) ∧ Hx b = some (.lst us) ∧ TL Hx us W ∧ WayOk S j W := fun Hx sx j hj => by
        have kl : j < Ws.length := by omega
        obtain ⟨v, gv, b, us2, rfl, ba, hb, tb⟩ := pget2 pws (List.getElem?_eq_getElem kl)
        exact ⟨b, us2, _, gv, sx _ _ hb, tb.same sx, wok j _ (List.getElem?_eq_getElem kl)⟩
      refine ⟨by omega, by omega, fun e ne => ?_⟩
      obtain ⟨Pl, hPl⟩ : ∃ Pl : Nat → Hp → Prop, Pl = (fun (j : Nat) Hx => Same H8 Hx ∧ ∃ ys : List Int, Hx e = some (.lst (ys.map V.int)) ∧ ys.Pairwise (· < ·) ∧ (∀ x, x ∈ ys ↔ 0 ≤ x ∧ x < j ∧ ∃ ps, Ch S x ps) ∧ ys.length ≤ j) := ⟨_, rfl⟩
      refine lc_range (lo := 0) (n := ((r : Int) + 1).toNat) Pl (by rw [hPl]; exact ⟨same_upd ne, [], upd_same, .nil, fun x => ⟨fun z => (by cases z), fun z => absurd z.2.1 (by omega)⟩, Nat.le_refl _⟩) (fun j Hx hj pv => ?_) (fun H9 pv => ?_)
      · rw [hPl] at pv
        obtain ⟨sx, ys, he, pw, my, yl⟩ := pv
        obtain ⟨b, us2, W, gb, hb, tb, ok⟩ := way Hx sx j (by omega)
        have wn := way_ne ok
        rw [show ((0 : Int) + (j : Int)) = (j : Int) by omega]
        simp only [wipe]
        walk_at "rd"
        refine ⟨_, SqL.of (sx _ _ hwa), _, at_of (j := j) rfl gb, b, rfl, us2, .inl (SqL.of hb), ?_⟩
        rw [Paired.length tb]
        by_cases c0 : ∃ ps, Ch S j ps
        · rw [if_pos (by have := wn.mpr c0; omega)]
          refine ⟨_, he, len_big (by rw [List.length_map]; omega), ?_⟩
          rw [hPl]
          refine ⟨same_ch sx ne, ys ++ [(j : Int)], by rw [upd_same, List.map_append]; rfl, ?_, fun x => ?_, by rw [List.length_append]; exact Nat.succ_le_succ yl⟩
          · rw [List.pairwise_append]
            refine ⟨pw, List.pairwise_singleton _ _, fun x hx y hy => ?_⟩
            rw [List.mem_singleton.mp hy]
            exact ((my x).mp hx).2.1
          · rw [List.mem_append, List.mem_singleton, my x]
            constructor
            · rintro (z | z)
              · exact ⟨z.1, by omega, z.2.2⟩
              · exact ⟨by omega, by omega, by rw [z]; exact c0⟩
            · rintro ⟨z1, z2, z3⟩
              by_cases ex : x = j
              · exact .inr ex
              · exact .inl ⟨z1, by omega, z3⟩
        · rw [if_neg (by have : ¬ 0 < W.length := fun z => c0 (wn.mp z); omega), hPl]
          refine ⟨sx, ys, he, pw, fun x => (my x).trans ⟨fun z => ⟨z.1, by omega, z.2.2⟩, fun z => ⟨z.1, ?_, z.2.2⟩⟩, Nat.le_succ_of_le yl⟩
          by_cases ex : x = j
          · exact absurd (ex ▸ z.2.2) c0
          · omega
      rw [hPl] at pv
      obtain ⟨s89, ys, he, pw, my, yl⟩ := pv
      clear hPl Pl
      have ndy : ys.Nodup := List.Pairwise.imp (fun {a b} h => by omega) pw
      have pwy : ys.Pairwise (· ≤ ·) := List.Pairwise.imp (fun {a b} h => Int.le_of_lt h) pw
      have myS : ∀ x, x ∈ ys ↔ ∃ ps, Ch S x ps := fun x => (my x).trans ⟨fun z => z.2.2, fun ⟨ps, c⟩ => by
        have := c.rng (r := r) fun d hd => by rw [hSd] at hd; exact (sndS_asc L ks r).1 d hd
        exact ⟨this.1, by omega, ps, c⟩⟩
      walk_at "rd"
      refine ⟨_, .inl ⟨SqL.of he, fun t1 nt1 => ⟨by decide, fun d1 nd1 => ?_⟩⟩⟩
      have u1 := same_upd (o := HO.tup (ys.map V.int)) nt1
      have u2 := same_upd (o := HO.tup [V.str (Str.ofString "wall"), V.ref t1]) nd1
      have ht1 := u2 _ _ (upd_same (H := H9) (a := t1) (o := HO.tup (ys.map V.int)))
      have hd1 := upd_same (H := upd H9 t1 (HO.tup (ys.map V.int))) (a := d1) (o := HO.tup [V.str (Str.ofString "wall"), V.ref t1])
      generalize upd (upd H9 t1 (HO.tup (ys.map V.int))) d1 (HO.tup [V.str (Str.ofString "wall"), V.ref t1]) = H10 at u2 ht1 hd1 ⊢
      have s80 := s89.trans (u1.trans u2)
      obtain ⟨br, us2, W, gb, hb, tb, ok⟩ := way H10 s80 r (by omega)
      have wn := way_ne ok
      refine ⟨_, SqL.of (s80 _ _ hwa), _, at_of (j := r) rfl gb, br, rfl, us2, .inl (SqL.of hb), ?_⟩
      apply by_tail (S := fun v Hx => ∃ d, v = V.ref d ∧ Same H8 Hx ∧ AnsH Hx L ks r d)
      · intro tail
        by_cases c0 : ∃ ps, Ch S r ps
        · rw [if_pos (by have := wn.mpr c0; have := Paired.length tb; omega)]
          refine lcW ?_
          walk_at "rd"
          refine ⟨_, SqL.of (s80 _ _ hwa), _, at_of (j := r) rfl gb, br, rfl, ⟨_, SqL.of hb⟩, fun e2 ne2 => ?_⟩
          have w12 : 2 ^ r ≤ 4096 := Nat.pow_le_pow_right (n := 2) (by decide) hr12
          have wk := ok.2
          obtain ⟨Pm, hPm⟩ : ∃ Pm : Nat → Hp → Prop, Pm = (fun j Hx => Same H10 Hx ∧ ∃ gs, Hx e2 = some (.lst gs) ∧ Paired (IsL Hx) gs (W.take j)) := ⟨_, rfl⟩
          refine lc_list (K := K) (a := br) (xs := us2) Pm (by rw [hPm]; exact ⟨same_upd ne2, [], upd_same, .nil⟩) (fun j Hx _ pv => by rw [hPm] at pv; exact SqL.of (pv.1 _ _ hb)) (fun j v Hx gv2 pv => ?_) (fun Hx pv => ?_)
          · obtain ⟨q', gq, t, rfl, ht⟩ := pget tb gv2
            rw [hPm] at pv
            obtain ⟨sz, gs, he2, tg⟩ := pv
            have gl : gs.length ≤ 4096 := by
              rw [Paired.length tg, List.length_take]
              omega
            simp only [wipe]
            walk_at "rd"
            refine ⟨_, .inr (SqT.of (sz _ _ ht)), by decide, fun u nu => ?_⟩
            have su := same_upd (o := HO.tup [V.int ((q'.map V.int).length : Nat), V.ref t]) nu
            have eu : u ≠ e2 := fun z => by rw [z, he2] at nu; cases nu
            refine ⟨gs, su _ _ he2, len_big (by omega), ?_⟩
            rw [hPm]
            refine ⟨same_ch (sz.trans su) ne2, gs ++ [.ref u], upd_same, ?_⟩
            rw [List.take_add_one, gq]
            have kt := KT.lst (o := HO.lst (gs ++ [V.ref u])) (su _ _ he2)
            exact Paired.snoc (Paired.mapP tg fun _ _ z => (z.kt (KT.same su)).kt kt) ⟨u, t, rfl, kt _ _ (by rw [upd_same, List.length_map]), kt _ _ (su _ _ (sz _ _ ht))⟩
          · rw [hPm] at pv
            obtain ⟨sz, gs, he2, tg⟩ := pv
            rw [Paired.length tb, List.take_length] at tg
            have wne : W ≠ [] := fun z => by have := wn.mpr c0; rw [z] at this; cases this
            walk_at "rd"
            refine ⟨e2, gs, W, rfl, SqL.of he2, tg, wne, fun v q' _ iv mq le => ?_⟩
            obtain ⟨u, t, rfl, hu, ht⟩ := iv
            refine ⟨u, rfl, _, SqT.of hu, .ref t, rfl, by decide, fun d2 nd2 => ?_⟩
            have sd := same_upd (o := HO.tup [V.str (Str.ofString "cuts"), V.ref t]) nd2
            have hd2 := upd_same (H := Hx) (a := d2) (o := HO.tup [V.str (Str.ofString "cuts"), V.ref t])
            have ht2 := sd _ _ ht
            generalize upd Hx d2 (HO.tup [V.str (Str.ofString "cuts"), V.ref t]) = Hy at sd hd2 ht2 ⊢
            have s8y := s80.trans (sz.trans sd)
            obtain ⟨v, hv⟩ : ∃ v, v = V.ref d2 := ⟨_, rfl⟩
            rw [← hv]
            refine tail v Hy ⟨d2, hv, s8y, .inl ⟨t, q', hd2, ht2, ?_, fun ps c => ?_⟩⟩
            · rw [← hSd]
              rcases (ok.1 q').mp mq with ⟨z, _⟩ | ⟨_, z⟩
              · omega
              · exact z
            · rw [← hSd] at c
              obtain ⟨cs, rfl⟩ := c.last (by omega)
              exact sle_app _ (le cs ((ok.1 cs).mpr (.inr ⟨by omega, c⟩)))
        · rw [if_neg (by have : ¬ 0 < W.length := fun z => c0 (wn.mp z); have := Paired.length tb; omega)]
          obtain ⟨v, hv⟩ : ∃ v, v = V.ref d1 := ⟨_, rfl⟩
          rw [← hv]
          obtain ⟨Hx, hHx⟩ : ∃ Hx, Hx = H10 := ⟨_, rfl⟩
          rw [← hHx] at hd1 ht1 s80 ⊢
          exact tail v Hx ⟨d1, hv, s80, .inr ⟨t1, ys, hd1, ht1, pwy, ndy, by rw [← hSd]; exact myS, fun z => c0 ((myS r).mp z)⟩⟩
      rintro dv H11 ⟨d, rfl, s811, ansd⟩
      have hl11 := s811 _ _ (s8 _ _ hl7)
      have lg11 := (lg7.kt (KT.same s8)).kt (KT.same s811)
      have hp11 := s811 _ _ (s8 _ _ hp7)
      have lk11 := (lk7.same s8).same s811
      have usl : us.length = L.length := lg.len
      refine ⟨us, .inl (SqL.of hl11), fun h0 nh0 => ?_⟩
      have s12 := same_upd (o := HO.lst us) nh0
      have hh0 := upd_same (H := H11) (a := h0) (o := HO.lst us)
      generalize upd H11 h0 (HO.lst us) = H12 at s12 hh0 ⊢
      have hp12 := s12 _ _ hp11
      have lk12 := lk11.same s12
      have ksl : ms.length = ks.length := Paired.length lk12
      refine lcW ?_
      walk_at "rd"
      refine ⟨⟨_, SqL.of hp12⟩, fun e3 ne3 => ?_⟩
      obtain ⟨Pk, hPk⟩ : ∃ Pk : Nat → Hp → Prop, Pk = (fun j Hx => Same H12 Hx ∧ ∃ gs, Hx e3 = some (.lst gs) ∧ LKs Hx gs (ks.take j)) := ⟨_, rfl⟩
      refine lc_list (K := K) (a := p) (xs := ms) Pk (by rw [hPk]; exact ⟨same_upd ne3, [], upd_same, .nil⟩) (fun j Hx _ pv => by rw [hPk] at pv; exact SqL.of (pv.1 _ _ hp12)) (fun j v Hx gv pv => ?_) (fun H13 pv => ?_)
      · obtain ⟨k, gk, t, b2, rfl, ht0, hb0⟩ := pget lk12 gv
        have mk := List.mem_of_getElem? gk
        have kl := klen k mk
        rw [hPk] at pv
        obtain ⟨sz, gs, he3, lgs⟩ := pv
        have gl : gs.length ≤ 8 := by
          rw [Paired.length lgs, List.length_take]
          omega
        have ht := sz _ _ ht0
        have hb2 := sz _ _ hb0
        simp only [wipe]
        walk_at "rd"
        refine ⟨_, SqT.of ht, _, rfl, _, SqT.of ht, .ref b2, rfl, b2, rfl, _, .inl (SqL.of hb2), fun g ng => ⟨by decide, fun u nu => ?_⟩⟩
        have su := same_upd (o := HO.lst (k.2.map optS)) ng
        have sv := same_upd (o := HO.tup [V.int k.1, V.ref g]) nu
        have ik : IsLk (upd (upd Hx g (HO.lst (k.2.map optS))) u (HO.tup [V.int k.1, V.ref g])) (.ref u) k := ⟨u, g, rfl, upd_same, sv _ _ upd_same⟩
        generalize upd (upd Hx g (HO.lst (k.2.map optS))) u (HO.tup [V.int k.1, V.ref g]) = Hy at sv ik ⊢
        have suv := su.trans sv
        have he3y := suv _ _ he3
        have lgy := lgs.same suv
        refine ⟨gs, he3y, len_big (by omega), ?_⟩
        rw [hPk]
        refine ⟨same_ch (sz.trans suv) ne3, gs ++ [.ref u], upd_same, ?_⟩
        rw [List.take_add_one, gk]
        exact Paired.snoc (paired_mapPm lgy fun v' k' mk' iv => iv.lst he3y lgy (by rw [klen k' (List.mem_of_mem_take mk')]; exact hr1)) (ik.lst he3y lgy (by rw [kl]; exact hr1))
      rw [hPk] at pv
      obtain ⟨s13, gs, he3, lk13⟩ := pv
      clear hPk Pk
      rw [ksl, List.take_length] at lk13
      walk_at "rd"
      refine ⟨by decide, fun hh nhh => ?_⟩
      have s14 := same_upd (o := HO.lst [V.ref h0, V.ref e3]) nhh
      have hhh := upd_same (H := H13) (a := hh) (o := HO.lst [V.ref h0, V.ref e3])
      generalize upd H13 hh (HO.lst [V.ref h0, V.ref e3]) = H14 at s14 hhh ⊢
      have s124 := s12.trans (s13.trans s14)
      have hh0' := s14 _ _ (s13 _ _ hh0)
      have he3' := s14 _ _ he3
      have lk14 := lk13.same s14
      have lg14 := lg11.kt (KT.same s124)
      have hl14 := s124 _ _ hl11
      have hp14 := s124 _ _ hp11
      have lkp14 := lk11.same s124
      have ansd14 := ansd.same s124
      refine ⟨_, SqL.of hhh, .ref h0, rfl, _, SqL.of hhh, .ref e3, rfl, ?_⟩
      refine ⟨h0, e3, us, gs, L, ks, r, rfl, hh0', lg14, he3', lk14, klen, hr1, hr12, fun an H15 s15 ansa => ?_⟩
      have l15 : Same H14 H15 := s15
      refine same_ok (ans_sm hr12 ansa (ansd14.same s15) 2) ⟨true, rfl, iteF ?_⟩
      have hl15 := s15 _ _ hl14
      have lg15 := lg14.kt (KT.same s15)
      have hp15 := s15 _ _ hp14
      have lk15 := lkp14.same s15
      have hcw : ¬ V.str (Str.ofString "cuts") = V.str (Str.ofString "wall") := fun z => absurd (V.str.inj z) (by decide +kernel)
      apply by_tailH (S := fun Hx => Same H15 Hx)
      · intro tail
        have a2 := ansa
        rcases a2 with ⟨t, cs, h1, h2, h3, h4⟩ | ⟨t, yz, h1, h2, h3, h4, h5, h6⟩
        · refine ⟨an, rfl, _, SqT.of h1, .str (Str.ofString "cuts"), rfl, rfl, ?_⟩
          dsimp only
          rw [decide_eq_true rfl]
          refine ⟨true, rfl, ?_⟩
          rw [if_pos rfl]
          refine ⟨an, rfl, _, SqT.of h1, .ref t, rfl, ?_⟩
          refine ⟨l, p, t, us, ms, L, ks, cs, r, rfl, hl15, lg15, inr, hp15, lk15, klen, h2, h3, hr12, fun H16 s16 => ?_⟩
          refine ⟨true, rfl, ?_⟩
          rw [if_neg (by decide)]
          refine ⟨an, rfl, _, SqT.of (s16 _ _ h1), .str (Str.ofString "cuts"), rfl, rfl, ?_⟩
          dsimp only
          rw [decide_eq_false hcw]
          refine ⟨false, rfl, ?_⟩
          rw [if_neg (by decide), if_neg id]
          exact tail H16 s16
        · obtain ⟨Hx, hHx⟩ : ∃ Hx, Hx = H15 := ⟨_, rfl⟩
          rw [← hHx] at h1 h2 ⊢
          refine ⟨an, rfl, _, SqT.of h1, .str (Str.ofString "wall"), rfl, rfl, ?_⟩
          dsimp only
          rw [decide_eq_false (fun z => hcw z.symm)]
          refine ⟨false, rfl, ?_⟩
          rw [if_neg (by decide), if_neg id]
          refine ⟨an, rfl, _, SqT.of h1, .str (Str.ofString "wall"), rfl, rfl, ?_⟩
          dsimp only
          rw [decide_eq_true rfl]
          refine ⟨true, rfl, ?_⟩
          rw [if_pos rfl]
          refine ⟨an, rfl, _, SqT.of h1, .ref t, rfl, ?_⟩
          refine ⟨t, _, rfl, .inr (SqT.of h2), rfl, flI _, ?_⟩
          rw [inI]
          refine ⟨_, rfl, ?_⟩
          rw [decide_eq_false h6, if_neg (by decide)]
          exact tail Hx (by rw [hHx]; exact Same.refl _)
      intro H16 s16
      have s146 := s15.trans s16
      have hhh16 := s146 _ _ hhh
      refine ⟨_, SqL.of hhh16, .ref h0, rfl, Nat.zero_le _, fun e4 ne4 => ?_⟩
      have s17 := same_upd (o := HO.lst []) ne4
      refine ⟨h0, e4, us, [], L, [], r, rfl, s17 _ _ (s146 _ _ hh0'), lg14.kt (KT.same (s146.trans s17)), upd_same, .nil, (fun k hk => by cases hk), hr1, hr12, fun an2 H18 s18 ans2 => ?_⟩
      refine ⟨Nat.zero_le _, fun t3 nt3 => ⟨by decide, fun d3 nd3 => ?_⟩⟩
      have u3 := same_upd (o := HO.tup []) nt3
      have u4 := same_upd (o := HO.tup [V.str (Str.ofString "cuts"), V.ref t3]) nd3
      have dueA : AnsH (upd (upd H18 t3 (HO.tup [])) d3 (HO.tup [V.str (Str.ofString "cuts"), V.ref t3])) L [] r d3 := by
        refine .inl ⟨t3, [], upd_same, u4 _ _ upd_same, .snoc .nil (mem_snd (i := 0).mpr ⟨hr1, Nat.le_refl _, fun k hk => by cases hk⟩), fun ps c => ?_⟩
        obtain ⟨cs, rfl⟩ := c.last (by omega)
        cases cs with
        | nil => exact .inl rfl
        | cons x cs => exact .inr (.inl (by rw [List.length_append, List.length_append]; show 0 + 1 < cs.length + 1 + 1; omega))
      generalize upd (upd H18 t3 (HO.tup [])) d3 (HO.tup [V.str (Str.ofString "cuts"), V.ref t3]) = H19 at u4 dueA ⊢
      refine same_ok (ans_sm hr12 (ans2.same (u3.trans u4)) dueA 2) ⟨true, rfl, iteF ?_⟩
      have s149 := s146.trans (s17.trans (s18.trans (u3.trans u4)))
      refine ⟨_, SqL.of (s149 _ _ hhh), .ref h0, rfl, _, SqL.of (s149 _ _ hhh), .ref e3, rfl, ?_⟩
      refine ⟨h0, e3, us, gs, L, ks, r, rfl, s149 _ _ hh0', lg14.kt (KT.same s149), s149 _ _ he3', lk14.same s149, klen, hr1, hr12, fun an3 H20 s20 ans3 => ?_⟩
      refine same_ok (ans_sm hr12 ans3 ((ansd14.same s149).same s20) 2) ⟨true, rfl, iteF ?_⟩
      refine ⟨by decide, fun z nz => ?_⟩
      have s21 := s149.trans (s20.trans (same_upd (o := HO.lst [V.ref l, V.ref p]) nz))
      have smk : Sm (upd H20 z (HO.lst [V.ref l, V.ref p])) 4 (.ref hh) (.ref z) := by
        refine .inr ⟨hh, z, _, _, rfl, rfl, .inl ⟨s21 _ _ hhh, upd_same⟩, ?_, by show 2 ≤ 100000; decide⟩
        exact Paired.cons (sm_logs (s21 _ _ hh0') (s21 _ _ hl14) (lg14.kt (KT.same s21)) (lg14.kt (KT.same s21)) (by omega) 1) (Paired.cons (sm_looks (s21 _ _ he3') (s21 _ _ hp14) (lk14.same s21) (lkp14.same s21) (by omega) (fun k hk => by rw [klen k hk]; omega)) Paired.nil)
      exact same_ok smk (qfin _)
end

set_option maxHeartbeats 8000000 in
theorem all_mk {l : PySem.W.OpenLaw} {w : World} {K : PySem.W.Frag} {h : Heap} {mg : Str → Option Value} {fa : Addr} (X : K.In h) (G : h.Ns mainGlobals mg) (hfa : mg "law" = some (.ref fa))
    {f_last_call_in : Addr} {od_last_call_in an_last_call_in : Option Addr} {sl_last_call_in : Array (Option Value)} {oc_last_call_in kV_last_call_in dc_last_call_in pm_last_call_in cd_last_call_in ct_last_call_in : Value}
    {f_word_of : Addr} {od_word_of an_word_of : Option Addr} {sl_word_of : Array (Option Value)} {oc_word_of kV_word_of dc_word_of pm_word_of cd_word_of ct_word_of : Value}
    {f_is_sound : Addr} {od_is_sound an_is_sound : Option Addr} {sl_is_sound : Array (Option Value)} {oc_is_sound kV_is_sound dc_is_sound pm_is_sound cd_is_sound ct_is_sound : Value}
    {f_sound_stretches : Addr} {od_sound_stretches an_sound_stretches : Option Addr} {sl_sound_stretches : Array (Option Value)} {oc_sound_stretches kV_sound_stretches dc_sound_stretches pm_sound_stretches cd_sound_stretches ct_sound_stretches : Value}
    {f_cuts_answer : Addr} {od_cuts_answer an_cuts_answer : Option Addr} {sl_cuts_answer : Array (Option Value)} {oc_cuts_answer kV_cuts_answer dc_cuts_answer pm_cuts_answer cd_cuts_answer ct_cuts_answer : Value}
    {f__law_cell : Addr} {od__law_cell an__law_cell : Option Addr} {sl__law_cell : Array (Option Value)} {oc__law_cell kV__law_cell dc__law_cell pm__law_cell cd__law_cell ct__law_cell : Value}
    {f__law_numbers : Addr} {od__law_numbers an__law_numbers : Option Addr} {sl__law_numbers : Array (Option Value)} {oc__law_numbers kV__law_numbers dc__law_numbers pm__law_numbers cd__law_numbers ct__law_numbers : Value}
    {f__law_word : Addr} {od__law_word an__law_word : Option Addr} {sl__law_word : Array (Option Value)} {oc__law_word kV__law_word dc__law_word pm__law_word cd__law_word ct__law_word : Value}
    {f__law_words : Addr} {od__law_words an__law_words : Option Addr} {sl__law_words : Array (Option Value)} {oc__law_words kV__law_words dc__law_words pm__law_words cd__law_words ct__law_words : Value}
    {f__law_log : Addr} {od__law_log an__law_log : Option Addr} {sl__law_log : Array (Option Value)} {oc__law_log kV__law_log dc__law_log pm__law_log cd__law_log ct__law_log : Value}
    {f__law_reach : Addr} {od__law_reach an__law_reach : Option Addr} {sl__law_reach : Array (Option Value)} {oc__law_reach kV__law_reach dc__law_reach pm__law_reach cd__law_reach ct__law_reach : Value}
    {f__law_word_of : Addr} {od__law_word_of an__law_word_of : Option Addr} {sl__law_word_of : Array (Option Value)} {oc__law_word_of kV__law_word_of dc__law_word_of pm__law_word_of cd__law_word_of ct__law_word_of : Value}
    {f__law_hear : Addr} {od__law_hear an__law_hear : Option Addr} {sl__law_hear : Array (Option Value)} {oc__law_hear kV__law_hear dc__law_hear pm__law_hear cd__law_hear ct__law_hear : Value}
    {f__law_same : Addr} {od__law_same an__law_same : Option Addr} {sl__law_same : Array (Option Value)} {oc__law_same kV__law_same dc__law_same pm__law_same cd__law_same ct__law_same : Value}
    {f__law_pick : Addr} {od__law_pick an__law_pick : Option Addr} {sl__law_pick : Array (Option Value)} {oc__law_pick kV__law_pick dc__law_pick pm__law_pick cd__law_pick ct__law_pick : Value}
    {f__law_partial_look : Addr} {od__law_partial_look an__law_partial_look : Option Addr} {sl__law_partial_look : Array (Option Value)} {oc__law_partial_look kV__law_partial_look dc__law_partial_look pm__law_partial_look cd__law_partial_look ct__law_partial_look : Value}
    {f__law_sound : Addr} {od__law_sound an__law_sound : Option Addr} {sl__law_sound : Array (Option Value)} {oc__law_sound kV__law_sound dc__law_sound pm__law_sound cd__law_sound ct__law_sound : Value}
    {f__law_cuts_up_to : Addr} {od__law_cuts_up_to an__law_cuts_up_to : Option Addr} {sl__law_cuts_up_to : Array (Option Value)} {oc__law_cuts_up_to kV__law_cuts_up_to dc__law_cuts_up_to pm__law_cuts_up_to cd__law_cuts_up_to ct__law_cuts_up_to : Value}
    {f__law_seen_so : Addr} {od__law_seen_so an__law_seen_so : Option Addr} {sl__law_seen_so : Array (Option Value)} {oc__law_seen_so kV__law_seen_so dc__law_seen_so pm__law_seen_so cd__law_seen_so ct__law_seen_so : Value}
    {f_law : Addr} {od_law an_law : Option Addr} {sl_law : Array (Option Value)} {oc_law kV_law dc_law pm_law cd_law ct_law : Value}
    {tk_UNSEEN : Tok}
    (a_last_call_in : PySem.W.nsIn K mainGlobals "last_call_in" = some (some (.ref f_last_call_in)))
    (l_last_call_in : K.lookup f_last_call_in = some ⟨oc_last_call_in, od_last_call_in, .func (PySem.W.fnOf "last_call_in" "last_call_in" (defArgs sLci) (defBody sLci) (defScope sLci) .none kV_last_call_in dc_last_call_in pm_last_call_in an_last_call_in cd_last_call_in ct_last_call_in), sl_last_call_in⟩)
    (c_last_call_in : PySem.W.codeIn K cd_last_call_in "last_call_in" = true)
    (k_last_call_in : PySem.W.keepIn K (.ref f_last_call_in) = true)
    (a_word_of : PySem.W.nsIn K mainGlobals "word_of" = some (some (.ref f_word_of)))
    (l_word_of : K.lookup f_word_of = some ⟨oc_word_of, od_word_of, .func (PySem.W.fnOf "word_of" "word_of" (defArgs sWof) (defBody sWof) (defScope sWof) .none kV_word_of dc_word_of pm_word_of an_word_of cd_word_of ct_word_of), sl_word_of⟩)
    (c_word_of : PySem.W.codeIn K cd_word_of "word_of" = true)
    (k_word_of : PySem.W.keepIn K (.ref f_word_of) = true)
    (a_is_sound : PySem.W.nsIn K mainGlobals "is_sound" = some (some (.ref f_is_sound)))
    (l_is_sound : K.lookup f_is_sound = some ⟨oc_is_sound, od_is_sound, .func (PySem.W.fnOf "is_sound" "is_sound" (defArgs sIsd) (defBody sIsd) (defScope sIsd) .none kV_is_sound dc_is_sound pm_is_sound an_is_sound cd_is_sound ct_is_sound), sl_is_sound⟩)
    (c_is_sound : PySem.W.codeIn K cd_is_sound "is_sound" = true)
    (k_is_sound : PySem.W.keepIn K (.ref f_is_sound) = true)
    (a_sound_stretches : PySem.W.nsIn K mainGlobals "sound_stretches" = some (some (.ref f_sound_stretches)))
    (l_sound_stretches : K.lookup f_sound_stretches = some ⟨oc_sound_stretches, od_sound_stretches, .func (PySem.W.fnOf "sound_stretches" "sound_stretches" (defArgs sSst) (defBody sSst) (defScope sSst) .none kV_sound_stretches dc_sound_stretches pm_sound_stretches an_sound_stretches cd_sound_stretches ct_sound_stretches), sl_sound_stretches⟩)
    (c_sound_stretches : PySem.W.codeIn K cd_sound_stretches "sound_stretches" = true)
    (k_sound_stretches : PySem.W.keepIn K (.ref f_sound_stretches) = true)
    (a_cuts_answer : PySem.W.nsIn K mainGlobals "cuts_answer" = some (some (.ref f_cuts_answer)))
    (l_cuts_answer : K.lookup f_cuts_answer = some ⟨oc_cuts_answer, od_cuts_answer, .func (PySem.W.fnOf "cuts_answer" "cuts_answer" (defArgs sCa) (defBody sCa) (defScope sCa) .none kV_cuts_answer dc_cuts_answer pm_cuts_answer an_cuts_answer cd_cuts_answer ct_cuts_answer), sl_cuts_answer⟩)
    (c_cuts_answer : PySem.W.codeIn K cd_cuts_answer "cuts_answer" = true)
    (k_cuts_answer : PySem.W.keepIn K (.ref f_cuts_answer) = true)
    (a__law_cell : PySem.W.nsIn K mainGlobals "_law_cell" = some (some (.ref f__law_cell)))
    (l__law_cell : K.lookup f__law_cell = some ⟨oc__law_cell, od__law_cell, .func (PySem.W.fnOf "_law_cell" "_law_cell" (defArgs sCell) (defBody sCell) (defScope sCell) .none kV__law_cell dc__law_cell pm__law_cell an__law_cell cd__law_cell ct__law_cell), sl__law_cell⟩)
    (c__law_cell : PySem.W.codeIn K cd__law_cell "_law_cell" = true)
    (k__law_cell : PySem.W.keepIn K (.ref f__law_cell) = true)
    (a__law_numbers : PySem.W.nsIn K mainGlobals "_law_numbers" = some (some (.ref f__law_numbers)))
    (l__law_numbers : K.lookup f__law_numbers = some ⟨oc__law_numbers, od__law_numbers, .func (PySem.W.fnOf "_law_numbers" "_law_numbers" (defArgs sNum) (defBody sNum) (defScope sNum) .none kV__law_numbers dc__law_numbers pm__law_numbers an__law_numbers cd__law_numbers ct__law_numbers), sl__law_numbers⟩)
    (c__law_numbers : PySem.W.codeIn K cd__law_numbers "_law_numbers" = true)
    (k__law_numbers : PySem.W.keepIn K (.ref f__law_numbers) = true)
    (a__law_word : PySem.W.nsIn K mainGlobals "_law_word" = some (some (.ref f__law_word)))
    (l__law_word : K.lookup f__law_word = some ⟨oc__law_word, od__law_word, .func (PySem.W.fnOf "_law_word" "_law_word" (defArgs sLwd) (defBody sLwd) (defScope sLwd) .none kV__law_word dc__law_word pm__law_word an__law_word cd__law_word ct__law_word), sl__law_word⟩)
    (c__law_word : PySem.W.codeIn K cd__law_word "_law_word" = true)
    (k__law_word : PySem.W.keepIn K (.ref f__law_word) = true)
    (a__law_words : PySem.W.nsIn K mainGlobals "_law_words" = some (some (.ref f__law_words)))
    (l__law_words : K.lookup f__law_words = some ⟨oc__law_words, od__law_words, .func (PySem.W.fnOf "_law_words" "_law_words" (defArgs sLws) (defBody sLws) (defScope sLws) .none kV__law_words dc__law_words pm__law_words an__law_words cd__law_words ct__law_words), sl__law_words⟩)
    (c__law_words : PySem.W.codeIn K cd__law_words "_law_words" = true)
    (k__law_words : PySem.W.keepIn K (.ref f__law_words) = true)
    (a__law_log : PySem.W.nsIn K mainGlobals "_law_log" = some (some (.ref f__law_log)))
    (l__law_log : K.lookup f__law_log = some ⟨oc__law_log, od__law_log, .func (PySem.W.fnOf "_law_log" "_law_log" (defArgs sLlg) (defBody sLlg) (defScope sLlg) .none kV__law_log dc__law_log pm__law_log an__law_log cd__law_log ct__law_log), sl__law_log⟩)
    (c__law_log : PySem.W.codeIn K cd__law_log "_law_log" = true)
    (k__law_log : PySem.W.keepIn K (.ref f__law_log) = true)
    (a__law_reach : PySem.W.nsIn K mainGlobals "_law_reach" = some (some (.ref f__law_reach)))
    (l__law_reach : K.lookup f__law_reach = some ⟨oc__law_reach, od__law_reach, .func (PySem.W.fnOf "_law_reach" "_law_reach" (defArgs sLre) (defBody sLre) (defScope sLre) .none kV__law_reach dc__law_reach pm__law_reach an__law_reach cd__law_reach ct__law_reach), sl__law_reach⟩)
    (c__law_reach : PySem.W.codeIn K cd__law_reach "_law_reach" = true)
    (k__law_reach : PySem.W.keepIn K (.ref f__law_reach) = true)
    (a__law_word_of : PySem.W.nsIn K mainGlobals "_law_word_of" = some (some (.ref f__law_word_of)))
    (l__law_word_of : K.lookup f__law_word_of = some ⟨oc__law_word_of, od__law_word_of, .func (PySem.W.fnOf "_law_word_of" "_law_word_of" (defArgs sLwof) (defBody sLwof) (defScope sLwof) .none kV__law_word_of dc__law_word_of pm__law_word_of an__law_word_of cd__law_word_of ct__law_word_of), sl__law_word_of⟩)
    (c__law_word_of : PySem.W.codeIn K cd__law_word_of "_law_word_of" = true)
    (k__law_word_of : PySem.W.keepIn K (.ref f__law_word_of) = true)
    (a__law_hear : PySem.W.nsIn K mainGlobals "_law_hear" = some (some (.ref f__law_hear)))
    (l__law_hear : K.lookup f__law_hear = some ⟨oc__law_hear, od__law_hear, .func (PySem.W.fnOf "_law_hear" "_law_hear" (defArgs sLhr) (defBody sLhr) (defScope sLhr) .none kV__law_hear dc__law_hear pm__law_hear an__law_hear cd__law_hear ct__law_hear), sl__law_hear⟩)
    (c__law_hear : PySem.W.codeIn K cd__law_hear "_law_hear" = true)
    (k__law_hear : PySem.W.keepIn K (.ref f__law_hear) = true)
    (a__law_same : PySem.W.nsIn K mainGlobals "_law_same" = some (some (.ref f__law_same)))
    (l__law_same : K.lookup f__law_same = some ⟨oc__law_same, od__law_same, .func (PySem.W.fnOf "_law_same" "_law_same" (defArgs sSame) (defBody sSame) (defScope sSame) .none kV__law_same dc__law_same pm__law_same an__law_same cd__law_same ct__law_same), sl__law_same⟩)
    (c__law_same : PySem.W.codeIn K cd__law_same "_law_same" = true)
    (k__law_same : PySem.W.keepIn K (.ref f__law_same) = true)
    (a__law_pick : PySem.W.nsIn K mainGlobals "_law_pick" = some (some (.ref f__law_pick)))
    (l__law_pick : K.lookup f__law_pick = some ⟨oc__law_pick, od__law_pick, .func (PySem.W.fnOf "_law_pick" "_law_pick" (defArgs sLpk) (defBody sLpk) (defScope sLpk) .none kV__law_pick dc__law_pick pm__law_pick an__law_pick cd__law_pick ct__law_pick), sl__law_pick⟩)
    (c__law_pick : PySem.W.codeIn K cd__law_pick "_law_pick" = true)
    (k__law_pick : PySem.W.keepIn K (.ref f__law_pick) = true)
    (a__law_partial_look : PySem.W.nsIn K mainGlobals "_law_partial_look" = some (some (.ref f__law_partial_look)))
    (l__law_partial_look : K.lookup f__law_partial_look = some ⟨oc__law_partial_look, od__law_partial_look, .func (PySem.W.fnOf "_law_partial_look" "_law_partial_look" (defArgs sLpl) (defBody sLpl) (defScope sLpl) .none kV__law_partial_look dc__law_partial_look pm__law_partial_look an__law_partial_look cd__law_partial_look ct__law_partial_look), sl__law_partial_look⟩)
    (c__law_partial_look : PySem.W.codeIn K cd__law_partial_look "_law_partial_look" = true)
    (k__law_partial_look : PySem.W.keepIn K (.ref f__law_partial_look) = true)
    (a__law_sound : PySem.W.nsIn K mainGlobals "_law_sound" = some (some (.ref f__law_sound)))
    (l__law_sound : K.lookup f__law_sound = some ⟨oc__law_sound, od__law_sound, .func (PySem.W.fnOf "_law_sound" "_law_sound" (defArgs sLsd) (defBody sLsd) (defScope sLsd) .none kV__law_sound dc__law_sound pm__law_sound an__law_sound cd__law_sound ct__law_sound), sl__law_sound⟩)
    (c__law_sound : PySem.W.codeIn K cd__law_sound "_law_sound" = true)
    (k__law_sound : PySem.W.keepIn K (.ref f__law_sound) = true)
    (a__law_cuts_up_to : PySem.W.nsIn K mainGlobals "_law_cuts_up_to" = some (some (.ref f__law_cuts_up_to)))
    (l__law_cuts_up_to : K.lookup f__law_cuts_up_to = some ⟨oc__law_cuts_up_to, od__law_cuts_up_to, .func (PySem.W.fnOf "_law_cuts_up_to" "_law_cuts_up_to" (defArgs sCu) (defBody sCu) (defScope sCu) .none kV__law_cuts_up_to dc__law_cuts_up_to pm__law_cuts_up_to an__law_cuts_up_to cd__law_cuts_up_to ct__law_cuts_up_to), sl__law_cuts_up_to⟩)
    (c__law_cuts_up_to : PySem.W.codeIn K cd__law_cuts_up_to "_law_cuts_up_to" = true)
    (k__law_cuts_up_to : PySem.W.keepIn K (.ref f__law_cuts_up_to) = true)
    (a__law_seen_so : PySem.W.nsIn K mainGlobals "_law_seen_so" = some (some (.ref f__law_seen_so)))
    (l__law_seen_so : K.lookup f__law_seen_so = some ⟨oc__law_seen_so, od__law_seen_so, .func (PySem.W.fnOf "_law_seen_so" "_law_seen_so" (defArgs sLso) (defBody sLso) (defScope sLso) .none kV__law_seen_so dc__law_seen_so pm__law_seen_so an__law_seen_so cd__law_seen_so ct__law_seen_so), sl__law_seen_so⟩)
    (c__law_seen_so : PySem.W.codeIn K cd__law_seen_so "_law_seen_so" = true)
    (k__law_seen_so : PySem.W.keepIn K (.ref f__law_seen_so) = true)
    (a_law : PySem.W.nsIn K mainGlobals "law" = some (some (.ref f_law)))
    (l_law : K.lookup f_law = some ⟨oc_law, od_law, .func (PySem.W.fnOf "law" "law" (defArgs sLaw) (defBody sLaw) (defScope sLaw) .none kV_law dc_law pm_law an_law cd_law ct_law), sl_law⟩)
    (c_law : PySem.W.codeIn K cd_law "law" = true)
    (k_law : PySem.W.keepIn K (.ref f_law) = true)
    (a_UNSEEN : PySem.W.nsIn K mainGlobals "UNSEEN" = some (some (.str (Str.ofString "?") tk_UNSEEN)))
    (z_len : PySem.W.nsIn K mainGlobals "len" = some none)
    (z_abs : PySem.W.nsIn K mainGlobals "abs" = some none)
    (z_int : PySem.W.nsIn K mainGlobals "int" = some none)
    (z_range : PySem.W.nsIn K mainGlobals "range" = some none)
    (z_list : PySem.W.nsIn K mainGlobals "list" = some none)
    (z_tuple : PySem.W.nsIn K mainGlobals "tuple" = some none)
    (z_min : PySem.W.nsIn K mainGlobals "min" = some none)
    (z_max : PySem.W.nsIn K mainGlobals "max" = some none)
    (z_sorted : PySem.W.nsIn K mainGlobals "sorted" = some none)
    (z_isinstance : PySem.W.nsIn K mainGlobals "isinstance" = some none)
    (z_bool : PySem.W.nsIn K mainGlobals "bool" = some none)
    (z_str : PySem.W.nsIn K mainGlobals "str" = some none)
    (z_set : PySem.W.nsIn K mainGlobals "set" = some none)
    (z_enumerate : PySem.W.nsIn K mainGlobals "enumerate" = some none)
    (z_any : PySem.W.nsIn K mainGlobals "any" = some none)
    (z_reversed : PySem.W.nsIn K mainGlobals "reversed" = some none) :
    ∃ fd : FuncData, (∀ (s : Shared) (v : Value), BindsTo s fd ⟨[v], []⟩ [("script", v)]) ∧ ∀ base : Heap, K.In base → base.Ns mainGlobals mg → FnOk l.prog w K mg base CX0 6 fa fd ["script"] (spLaw K) := by
  have e := hfa.symm.trans (PySem.W.mg_of X G a_law)
  cases e
  have T : Bi mg := ⟨PySem.W.mg_none_of X G z_len, PySem.W.mg_none_of X G z_abs, PySem.W.mg_none_of X G z_int, PySem.W.mg_none_of X G z_range, PySem.W.mg_none_of X G z_list, PySem.W.mg_none_of X G z_tuple, PySem.W.mg_none_of X G z_min, PySem.W.mg_none_of X G z_max, PySem.W.mg_none_of X G z_sorted, PySem.W.mg_none_of X G z_isinstance, PySem.W.mg_none_of X G z_bool, PySem.W.mg_none_of X G z_str, PySem.W.mg_none_of X G z_set, PySem.W.mg_none_of X G z_enumerate⟩
  have F_last_call_in := fun_mk (st := sLci) l_last_call_in c_last_call_in k_last_call_in
  have at_last_call_in := PySem.W.mg_of X G a_last_call_in
  have b_last_call_in := F_last_call_in.binds (ps := ["log", "rooms"]) fun _ _ _ _ _ _ us hl => match us, hl with | [_, _], _ => rfl
  have F_word_of := fun_mk (st := sWof) l_word_of c_word_of k_word_of
  have at_word_of := PySem.W.mg_of X G a_word_of
  have b_word_of := F_word_of.binds (ps := ["log", "rooms"]) fun _ _ _ _ _ _ us hl => match us, hl with | [_, _], _ => rfl
  have F_is_sound := fun_mk (st := sIsd) l_is_sound c_is_sound k_is_sound
  have at_is_sound := PySem.W.mg_of X G a_is_sound
  have b_is_sound := F_is_sound.binds (ps := ["log", "looks", "stretch"]) fun _ _ _ _ _ _ us hl => match us, hl with | [_, _, _], _ => rfl
  have F_sound_stretches := fun_mk (st := sSst) l_sound_stretches c_sound_stretches k_sound_stretches
  have at_sound_stretches := PySem.W.mg_of X G a_sound_stretches
  have b_sound_stretches := F_sound_stretches.binds (ps := ["rooms", "log", "looks"]) fun _ _ _ _ _ _ us hl => match us, hl with | [_, _, _], _ => rfl
  have F_cuts_answer := fun_mk (st := sCa) l_cuts_answer c_cuts_answer k_cuts_answer
  have at_cuts_answer := PySem.W.mg_of X G a_cuts_answer
  have b_cuts_answer := F_cuts_answer.binds (ps := ["rooms", "log", "looks"]) fun _ _ _ _ _ _ us hl => match us, hl with | [_, _, _], _ => rfl
  have F__law_cell := fun_mk (st := sCell) l__law_cell c__law_cell k__law_cell
  have at__law_cell := PySem.W.mg_of X G a__law_cell
  have b__law_cell := F__law_cell.binds (ps := ["script", "k"]) fun _ _ _ _ _ _ us hl => match us, hl with | [_, _], _ => rfl
  have F__law_numbers := fun_mk (st := sNum) l__law_numbers c__law_numbers k__law_numbers
  have at__law_numbers := PySem.W.mg_of X G a__law_numbers
  have b__law_numbers := F__law_numbers.binds (ps := ["cell", "count"]) fun _ _ _ _ _ _ us hl => match us, hl with | [_, _], _ => rfl
  have F__law_word := fun_mk (st := sLwd) l__law_word c__law_word k__law_word
  have at__law_word := PySem.W.mg_of X G a__law_word
  have b__law_word := F__law_word.binds (ps := ["a", "b"]) fun _ _ _ _ _ _ us hl => match us, hl with | [_, _], _ => rfl
  have F__law_words := fun_mk (st := sLws) l__law_words c__law_words k__law_words
  have at__law_words := PySem.W.mg_of X G a__law_words
  have b__law_words := F__law_words.binds (ps := ["numbers", "at", "many"]) fun _ _ _ _ _ _ us hl => match us, hl with | [_, _, _], _ => rfl
  have F__law_log := fun_mk (st := sLlg) l__law_log c__law_log k__law_log
  have at__law_log := PySem.W.mg_of X G a__law_log
  have b__law_log := F__law_log.binds (ps := ["numbers", "at", "many", "rooms", "words"]) fun _ _ _ _ _ _ us hl => match us, hl with | [_, _, _, _, _], _ => rfl
  have F__law_reach := fun_mk (st := sLre) l__law_reach c__law_reach k__law_reach
  have at__law_reach := PySem.W.mg_of X G a__law_reach
  have b__law_reach := F__law_reach.binds (ps := ["doors", "start", "inside"]) fun _ _ _ _ _ _ us hl => match us, hl with | [_, _, _], _ => rfl
  have F__law_word_of := fun_mk (st := sLwof) l__law_word_of c__law_word_of k__law_word_of
  have at__law_word_of := PySem.W.mg_of X G a__law_word_of
  have b__law_word_of := F__law_word_of.binds (ps := ["log", "rooms"]) fun _ _ _ _ _ _ us hl => match us, hl with | [_, _], _ => rfl
  have F__law_hear := fun_mk (st := sLhr) l__law_hear c__law_hear k__law_hear
  have at__law_hear := PySem.W.mg_of X G a__law_hear
  have b__law_hear := F__law_hear.binds (ps := ["rooms", "log", "opening"]) fun _ _ _ _ _ _ us hl => match us, hl with | [_, _, _], _ => rfl
  have F__law_same := fun_mk (st := sSame) l__law_same c__law_same k__law_same
  have at__law_same := PySem.W.mg_of X G a__law_same
  have b__law_same := F__law_same.binds (ps := ["got", "due"]) fun _ _ _ _ _ _ us hl => match us, hl with | [_, _], _ => rfl
  have F__law_pick := fun_mk (st := sLpk) l__law_pick c__law_pick k__law_pick
  have at__law_pick := PySem.W.mg_of X G a__law_pick
  have b__law_pick := F__law_pick.binds (ps := ["pool", "number"]) fun _ _ _ _ _ _ us hl => match us, hl with | [_, _], _ => rfl
  have F__law_partial_look := fun_mk (st := sLpl) l__law_partial_look c__law_partial_look k__law_partial_look
  have at__law_partial_look := PySem.W.mg_of X G a__law_partial_look
  have b__law_partial_look := F__law_partial_look.binds (ps := ["numbers", "rooms", "log", "hidden", "words"]) fun _ _ _ _ _ _ us hl => match us, hl with | [_, _, _, _, _], _ => rfl
  have F__law_sound := fun_mk (st := sLsd) l__law_sound c__law_sound k__law_sound
  have at__law_sound := PySem.W.mg_of X G a__law_sound
  have b__law_sound := F__law_sound.binds (ps := ["log", "looks", "start", "end"]) fun _ _ _ _ _ _ us hl => match us, hl with | [_, _, _, _], _ => rfl
  have F__law_cuts_up_to := fun_mk (st := sCu) l__law_cuts_up_to c__law_cuts_up_to k__law_cuts_up_to
  have at__law_cuts_up_to := PySem.W.mg_of X G a__law_cuts_up_to
  have b__law_cuts_up_to := F__law_cuts_up_to.binds (ps := ["rooms", "log", "looks"]) fun _ _ _ _ _ _ us hl => match us, hl with | [_, _, _], _ => rfl
  have F__law_seen_so := fun_mk (st := sLso) l__law_seen_so c__law_seen_so k__law_seen_so
  have at__law_seen_so := PySem.W.mg_of X G a__law_seen_so
  have b__law_seen_so := F__law_seen_so.binds (ps := ["rooms", "log", "looks", "cuts"]) fun _ _ _ _ _ _ us hl => match us, hl with | [_, _, _, _], _ => rfl
  have F_law := fun_mk (st := sLaw) l_law c_law k_law
  have at_law := PySem.W.mg_of X G a_law
  have mrev := PySem.W.mg_none_of X G z_reversed
  have anm := PySem.W.mg_none_of X G z_any
  have mU := PySem.W.mg_of X G a_UNSEEN
  refine ⟨PySem.W.fnOf "law" "law" (defArgs sLaw) (defBody sLaw) (defScope sLaw) .none kV_law dc_law pm_law an_law cd_law ct_law, fun s v => .of_eq rfl, fun base _ _ => ?_⟩
  have R1 : Df l.prog w K mg base "last_call_in" _ 1 (spLci K) _ _ := ⟨at_last_call_in, k_last_call_in, b_last_call_in, ok_lci F_last_call_in mrev⟩
  have R2 : Df l.prog w K mg base "word_of" _ 2 (spTopR K optW) _ _ := ⟨at_word_of, k_word_of, b_word_of, ok_wof F_word_of R1⟩
  have R3 : Df l.prog w K mg base "is_sound" _ 3 (spSnd fun i j H xs => ∃ t, xs = [.ref t] ∧ H t = some (.tup [.int i, .int j])) _ _ := ⟨at_is_sound, k_is_sound, b_is_sound, ok_isd F_is_sound T anm mU R2⟩
  have R4 : Df l.prog w K mg base "sound_stretches" _ 4 spSst _ _ := ⟨at_sound_stretches, k_sound_stretches, b_sound_stretches, ok_sst F_sound_stretches T R3⟩
  have R5 : Df l.prog w K mg base "cuts_answer" _ 5 spCa _ _ := ⟨at_cuts_answer, k_cuts_answer, b_cuts_answer, ok_ca F_cuts_answer T R4⟩
  have D1 : Df l.prog w K mg base "_law_cell" _ 1 (spCell K) _ _ := ⟨at__law_cell, k__law_cell, b__law_cell, ok_cell F__law_cell T⟩
  have D2 : Df l.prog w K mg base "_law_numbers" _ 1 (spNum K) _ _ := ⟨at__law_numbers, k__law_numbers, b__law_numbers, ok_num F__law_numbers T⟩
  have D3 : Df l.prog w K mg base "_law_word" _ 1 spLwd _ _ := ⟨at__law_word, k__law_word, b__law_word, ok_lwd F__law_word T⟩
  have D4 : Df l.prog w K mg base "_law_words" _ 2 (spLws K) _ _ := ⟨at__law_words, k__law_words, b__law_words, ok_lws F__law_words T D3⟩
  have D5 : Df l.prog w K mg base "_law_log" _ 1 (spLlg K) _ _ := ⟨at__law_log, k__law_log, b__law_log, ok_llg F__law_log T⟩
  have D6 : Df l.prog w K mg base "_law_reach" _ 1 (spLre K) _ _ := ⟨at__law_reach, k__law_reach, b__law_reach, ok_lre F__law_reach T⟩
  have D7 : Df l.prog w K mg base "_law_word_of" _ 1 (spTopR K optW) _ _ := ⟨at__law_word_of, k__law_word_of, b__law_word_of, ok_lwof F__law_word_of⟩
  have D8 : Df l.prog w K mg base "_law_hear" _ 2 spLhr _ _ := ⟨at__law_hear, k__law_hear, b__law_hear, ok_lhr F__law_hear T D6⟩
  have D9 : Df l.prog w K mg base "_law_same" _ 5 (spSame 4) _ _ := ⟨at__law_same, k__law_same, b__law_same, ok_same F__law_same T b__law_same at__law_same 4⟩
  have E1 : Df l.prog w K mg base "_law_pick" _ 1 (spLpk K) _ _ := ⟨at__law_pick, k__law_pick, b__law_pick, ok_lpk F__law_pick T⟩
  have E2 : Df l.prog w K mg base "_law_partial_look" _ 3 (spLpo K) _ _ := ⟨at__law_partial_look, k__law_partial_look, b__law_partial_look, ok_lpo F__law_partial_look T D8 E1⟩
  have E3 : Df l.prog w K mg base "_law_sound" _ 2 (spSnd fun i j _ xs => xs = [.int i, .int j]) _ _ := ⟨at__law_sound, k__law_sound, b__law_sound, ok_lsd F__law_sound T D7⟩
  have E4 : Df l.prog w K mg base "_law_cuts_up_to" _ 3 spCu _ _ := ⟨at__law_cuts_up_to, k__law_cuts_up_to, b__law_cuts_up_to, ok_lcu F__law_cuts_up_to T E3⟩
  have E5 : Df l.prog w K mg base "_law_seen_so" _ 3 spLso _ _ := ⟨at__law_seen_so, k__law_seen_so, b__law_seen_so, ok_lso F__law_seen_so T D8⟩
  exact ok_law F_law T D1 D2 D4 D5 E2 E4 E5 R5 D9
theorem walk {l : PySem.W.OpenLaw} {q : Program} {loose : List Str} {XP : (Str → Option Value) → Heap → Prop} {YP : World → Heap → Prop} {d : DefRec} {K : Params → PySem.W.Frag} (hn : l.most = some 63) (hdf : d.params.defaults = [])
    (hY : ∀ (w : World) (h : Heap), YP w h → (K w.params).In h)
    (F : ∀ (w : World) (mg : Str → Option Value) (fa : Addr) (h : Heap), (K w.params).In h → h.Ns mainGlobals mg → mg d.name = some (.ref fa) →
      ∃ fd : FuncData, (∀ (s : Shared) (u : Value), BindsTo s fd ⟨[u], []⟩ [("script", u)]) ∧ ∀ base : Heap, (K w.params).In base → base.Ns mainGlobals mg → FnOk l.prog w (K w.params) mg base CX0 6 fa fd ["script"] (spLaw (K w.params))) :
    PySem.W.WalkO q loose XP YP l.row.toRowW d [] (fun f vs => PySem.call f vs) :=
  L2.walk_of (n := 63) (k := 6) (x := "script") (CX := fun _ => CX0) (sp := fun w => spLaw (K w.params)) hn (by decide) hdf ⟨rfl, by decide, by decide⟩ hY F (fun _ _ a ns hl _ hS => ⟨a, ns, rfl, hS, hl, fun _ => rfl⟩) fun _ _ _ _ _ z => z
end My

open PySem PySem.W PyProof.Rows in
set_option maxRecDepth 100000 in
set_option maxHeartbeats 0 in
theorem PySem.Challenge.cw_callsheard_k63_whole_cuts_answer_holds : PySem.Challenge.rw_callsheard_k63_whole_cuts_answer.Holds := by
  w_on; o_law; k_head; (case hw => w_witness2)
  k_fill
  refine My.walk (l := PySem.Challenge.rw_callsheard_k63_whole_cuts_answer) rfl rfl (fun w h Y => PySem.W.kIn_of Y) ?F
  case F =>
    intro w mg fa h KX G hmg
    refine' My.all_mk KX G hmg ?a_last_call_in ?l_last_call_in ?c_last_call_in ?k_last_call_in ?a_word_of ?l_word_of ?c_word_of ?k_word_of ?a_is_sound ?l_is_sound ?c_is_sound ?k_is_sound ?a_sound_stretches ?l_sound_stretches ?c_sound_stretches ?k_sound_stretches ?a_cuts_answer ?l_cuts_answer ?c_cuts_answer ?k_cuts_answer ?a__law_cell ?l__law_cell ?c__law_cell ?k__law_cell ?a__law_numbers ?l__law_numbers ?c__law_numbers ?k__law_numbers ?a__law_word ?l__law_word ?c__law_word ?k__law_word ?a__law_words ?l__law_words ?c__law_words ?k__law_words ?a__law_log ?l__law_log ?c__law_log ?k__law_log ?a__law_reach ?l__law_reach ?c__law_reach ?k__law_reach ?a__law_word_of ?l__law_word_of ?c__law_word_of ?k__law_word_of ?a__law_hear ?l__law_hear ?c__law_hear ?k__law_hear ?a__law_same ?l__law_same ?c__law_same ?k__law_same ?a__law_pick ?l__law_pick ?c__law_pick ?k__law_pick ?a__law_partial_look ?l__law_partial_look ?c__law_partial_look ?k__law_partial_look ?a__law_sound ?l__law_sound ?c__law_sound ?k__law_sound ?a__law_cuts_up_to ?l__law_cuts_up_to ?c__law_cuts_up_to ?k__law_cuts_up_to ?a__law_seen_so ?l__law_seen_so ?c__law_seen_so ?k__law_seen_so ?a_law ?l_law ?c_law ?k_law ?a_UNSEEN ?z_len ?z_abs ?z_int ?z_range ?z_list ?z_tuple ?z_min ?z_max ?z_sorted ?z_isinstance ?z_bool ?z_str ?z_set ?z_enumerate ?z_any ?z_reversed
    (case a_last_call_in => k_is)
    (case l_last_call_in => k_is)
    (case c_last_call_in => k_is)
    (case k_last_call_in => k_is)
    (case a_word_of => k_is)
    (case l_word_of => k_is)
    (case c_word_of => k_is)
    (case k_word_of => k_is)
    (case a_is_sound => k_is)
    (case l_is_sound => k_is)
    (case c_is_sound => k_is)
    (case k_is_sound => k_is)
    (case a_sound_stretches => k_is)
    (case l_sound_stretches => k_is)
    (case c_sound_stretches => k_is)
    (case k_sound_stretches => k_is)
    (case a_cuts_answer => k_is)
    (case l_cuts_answer => k_is)
    (case c_cuts_answer => k_is)
    (case k_cuts_answer => k_is)
    (case a__law_cell => k_is)
    (case l__law_cell => k_is)
    (case c__law_cell => k_is)
    (case k__law_cell => k_is)
    (case a__law_numbers => k_is)
    (case l__law_numbers => k_is)
    (case c__law_numbers => k_is)
    (case k__law_numbers => k_is)
    (case a__law_word => k_is)
    (case l__law_word => k_is)
    (case c__law_word => k_is)
    (case k__law_word => k_is)
    (case a__law_words => k_is)
    (case l__law_words => k_is)
    (case c__law_words => k_is)
    (case k__law_words => k_is)
    (case a__law_log => k_is)
    (case l__law_log => k_is)
    (case c__law_log => k_is)
    (case k__law_log => k_is)
    (case a__law_reach => k_is)
    (case l__law_reach => k_is)
    (case c__law_reach => k_is)
    (case k__law_reach => k_is)
    (case a__law_word_of => k_is)
    (case l__law_word_of => k_is)
    (case c__law_word_of => k_is)
    (case k__law_word_of => k_is)
    (case a__law_hear => k_is)
    (case l__law_hear => k_is)
    (case c__law_hear => k_is)
    (case k__law_hear => k_is)
    (case a__law_same => k_is)
    (case l__law_same => k_is)
    (case c__law_same => k_is)
    (case k__law_same => k_is)
    (case a__law_pick => k_is)
    (case l__law_pick => k_is)
    (case c__law_pick => k_is)
    (case k__law_pick => k_is)
    (case a__law_partial_look => k_is)
    (case l__law_partial_look => k_is)
    (case c__law_partial_look => k_is)
    (case k__law_partial_look => k_is)
    (case a__law_sound => k_is)
    (case l__law_sound => k_is)
    (case c__law_sound => k_is)
    (case k__law_sound => k_is)
    (case a__law_cuts_up_to => k_is)
    (case l__law_cuts_up_to => k_is)
    (case c__law_cuts_up_to => k_is)
    (case k__law_cuts_up_to => k_is)
    (case a__law_seen_so => k_is)
    (case l__law_seen_so => k_is)
    (case c__law_seen_so => k_is)
    (case k__law_seen_so => k_is)
    (case a_law => k_is)
    (case l_law => k_is)
    (case c_law => k_is)
    (case k_law => k_is)
    (case a_UNSEEN => k_is)
    (case z_len => k_is)
    (case z_abs => k_is)
    (case z_int => k_is)
    (case z_range => k_is)
    (case z_list => k_is)
    (case z_tuple => k_is)
    (case z_min => k_is)
    (case z_max => k_is)
    (case z_sorted => k_is)
    (case z_isinstance => k_is)
    (case z_bool => k_is)
    (case z_str => k_is)
    (case z_set => k_is)
    (case z_enumerate => k_is)
    (case z_any => k_is)
    (case z_reversed => k_is)


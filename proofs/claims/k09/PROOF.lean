import PyProof.Rows.All
import Wide.All
import OpenK.AllK
import Wide.FinOn
import HandS.ForMost
import HandS.SortRule
import HandS.IsInst
import HandS.Deep
import HandS.Property
import HandS.TupSets
import HandS.Style
import HandS.Conv
import HandS.Evl
import HandS.ClsMeth
import HandS.Zip
import HandS.Walk
import HandS.Strs
import HandS.Rev
import HandS.SetFor
import KE.DataCmp
import HandS.DictComp
import HandS.More
import PySem.Challenge.RW_callsheard_k09_whole_alike_by_openings
set_option Elab.async false
set_option linter.all false
set_option maxRecDepth 100000
namespace My
open PySem PySem.Spec PyProof.Rows L2
theorem cxK {CX : CXT} {P : Program} {w : World} {K : PySem.W.Frag} {mg : Str → Option Value} {base : Heap} {N : List Str} {q : Str} {sc : Scope} {f : Addr} {cdv : Value} {A : Around} {outer : List Env} {s : Shared} {H : Hp} {E : XK} : (cxOf CX P w K mg base N q sc f cdv A outer s H E).nox.K = K := rfl
theorem cxK2 {CX : CXT} {P : Program} {w : World} {K : PySem.W.Frag} {mg : Str → Option Value} {base : Heap} {N : List Str} {q : Str} {sc : Scope} {f : Addr} {cdv : Value} {A : Around} {outer : List Env} {s : Shared} {H : Hp} {E : XK} : (cxOf CX P w K mg base N q sc f cdv A outer s H E).K = K := rfl
theorem cxP {CX : CXT} {P : Program} {w : World} {K : PySem.W.Frag} {mg : Str → Option Value} {base : Heap} {N : List Str} {q : Str} {sc : Scope} {f : Addr} {cdv : Value} {A : Around} {outer : List Env} {s : Shared} {H : Hp} {E : XK} : (cxOf CX P w K mg base N q sc f cdv A outer s H E).prog = P := rfl
theorem cxW {CX : CXT} {P : Program} {w : World} {K : PySem.W.Frag} {mg : Str → Option Value} {base : Heap} {N : List Str} {q : Str} {sc : Scope} {f : Addr} {cdv : Value} {A : Around} {outer : List Env} {s : Shared} {H : Hp} {E : XK} : (cxOf CX P w K mg base N q sc f cdv A outer s H E).w = w := rfl
/-- built-in names that the text has not bound -/
structure Bi (mg : Str → Option Value) : Prop where
  len : mg "len" = none
  abs : mg "abs" = none
  int : mg "int" = none
  range : mg "range" = none
  list : mg "list" = none
  tuple : mg "tuple" = none
  min : mg "min" = none
  max : mg "max" = none
  sorted : mg "sorted" = none
  isinstance : mg "isinstance" = none
  bool : mg "bool" = none
  str : mg "str" = none
  set : mg "set" = none
  enumerate : mg "enumerate" = none
/-- a def of the text, bound in the module, that keeps a promise -/
structure Df (P : Program) (w : World) (K : PySem.W.Frag) (mg : Str → Option Value) (base : Heap) (x : Str) (ps : List Str) (k : Nat) (sp : Sp) (f : Addr) (fd : FuncData) : Prop where
  at_ : mg x = some (.ref f)
  kp : PySem.W.keepIn K (.ref f) = true
  b : Binds K fd ps []
  ok : FnOk P w K mg base CX0 k f fd ps sp
local macro_rules | `(tactic| walk_at "rd") => `(tactic| try simp only [cxK, cxK2, cxP, cxW, L2.start, List.length_cons, List.length_nil, List.replicate_succ, List.replicate_zero, List.map_cons, List.map_nil, List.cons_append, List.nil_append, tVar, tC, tAdd, tSub, t2I, tIsN, tNotN, tB, tAnd, tOr, tNot, tAndV, tOrV, tNotV, tIf, tNext, tSeq, tBreak, tCont, tDrop, tRet, tRetN, tIfS, gName, gNil, gCons, gTup, gSub, tAsg, tOp, tUn, rI, rI0, rU, tTest, tChain, tNil, tCons, tTup, tLst, tCall, tCB, tNoPart, tPart, tSl, rIxL, rIxT, rIxS, rSetL, rAppend, rExtend, tBM, tBM0, tFld, tMeth, tMake, sFld, tYes, tLstRg, tRg1, tRg2, rSlL, iRng1, iRng2, iList, List.getElem?_cons_zero, List.getElem?_cons_succ, Option.some.injEq, List.cons.injEq, V.int.injEq, V.ref.injEq, V.bl.injEq, V.str.injEq, exists_eq_left', exists_eq_left, exists_eq_right, exists_eq_right', true_and, and_true, and_assoc, exists_and_left, exists_and_right, List.set_cons_zero, List.set_cons_succ, List.append_nil, reduceCtorEq, false_and, and_false, exists_false, or_false, false_or, decide_eq_true_eq, Nat.reduceAdd, Nat.reduceSub])
section
variable {X : Cx}
theorem cr_intI : CallR X (.type "int") (fun xs H Q => ∃ i, xs = [.int i] ∧ Q (.int i) H) := fun pins s σ H xs us Q I r h => call_int1 pins s σ H xs us Q I r (.inl h)
theorem op_eqI : OpR X (compareOp .Eq) (rI0 fun i j => .bl (decide (i = j))) := fun pins s σ H x y v u Q I rx ry h => by
  obtain ⟨i, j, rfl, rfl, q⟩ := h
  have e : decide (i = j) = decide (V.int i = V.int j) := by
    by_cases h : i = j
    · subst h
      rw [decide_eq_true rfl, decide_eq_true rfl]
    · rw [decide_eq_false h, decide_eq_false (fun z => h (V.int.inj z))]
  exact op_eq pins s σ H _ _ v u Q I rx ry ⟨rfl, by rw [← e]; exact q⟩
theorem op_neI : OpR X (compareOp .NotEq) (rI0 fun i j => .bl (!decide (i = j))) := fun pins s σ H x y v u Q I rx ry h => by
  obtain ⟨i, j, rfl, rfl, q⟩ := h
  have e : decide (i = j) = decide (V.int i = V.int j) := by
    by_cases h : i = j
    · subst h
      rw [decide_eq_true rfl, decide_eq_true rfl]
    · rw [decide_eq_false h, decide_eq_false (fun z => h (V.int.inj z))]
  exact op_ne pins s σ H _ _ v u Q I rx ry ⟨rfl, by rw [← e]; exact q⟩
def rIsT : R2 := fun x y H Q => ∃ b : Bool, y = .bl b ∧ Q (.bl (decide (x = .bl b))) H
/-- x is True, x is False -/
theorem op_isT : OpR X (compareOp .Is) rIsT := by
  intro pins s σ H x y v u Q I rx ry h
  obtain ⟨b, rfl, q⟩ := h
  cases (show u = Value.bool b from ry)
  cases x with
  | non => cases (show v = Value.none from rx); exact wpAny_is_other rfl (fun z => nomatch z) ⟨.bl false, H, I, rfl, by simpa using q⟩
  | bl a =>
    cases (show v = Value.bool a from rx)
    by_cases e : a = b
    · subst e
      exact wpAny_is_self rfl ⟨.bl true, H, I, rfl, by simpa using q⟩
    · exact wpAny_is_other rfl (fun z => e (Value.bool.inj z)) ⟨.bl false, H, I, rfl, by simpa [e] using q⟩
  | int i => obtain ⟨t, e⟩ := (show ∃ t, v = Value.int i t from rx); cases e; exact wpAny_is_other rfl (fun z => nomatch z) ⟨.bl false, H, I, rfl, by simpa using q⟩
  | str i => obtain ⟨t, e⟩ := (show ∃ t, v = Value.str i t from rx); cases e; exact wpAny_is_other rfl (fun z => nomatch z) ⟨.bl false, H, I, rfl, by simpa using q⟩
  | byt i => obtain ⟨t, e⟩ := (show ∃ t, v = Value.bytes i t from rx); cases e; exact wpAny_is_other rfl (fun z => nomatch z) ⟨.bl false, H, I, rfl, by simpa using q⟩
  | flt i => obtain ⟨t, e⟩ := (show ∃ t, v = Value.float i t from rx); cases e; exact wpAny_is_other rfl (fun z => nomatch z) ⟨.bl false, H, I, rfl, by simpa using q⟩
  | ref a => cases (show v = Value.ref a from rx); exact wpAny_is_other rfl (fun z => nomatch z) ⟨.bl false, H, I, rfl, by simpa using q⟩
  | ty n => cases (show v = Value.type n from rx); exact wpAny_is_other rfl (fun z => nomatch z) ⟨.bl false, H, I, rfl, by simpa using q⟩
end
theorem same_upd {H : Hp} {p : Addr} {o : HO} (h : H p = none) : Same H (upd H p o) := fun b x e => by
  rw [upd_ne (ne_of_none e h)]
  exact e
/-- a list that was new and is changed: what stood before stands -/
theorem same_ch {H0 H : Hp} {p : Addr} {o : HO} (s : Same H0 H) (n : H0 p = none) : Same H0 (upd H p o) := fun b x e => by
  rw [upd_ne (ne_of_none e n)]
  exact s _ _ e
theorem ixn {n j : Nat} {z : Int} (e : z = (j : Int)) (hj : j < n) : ixN n z = some j := by
  rw [e]
  unfold ixN
  rw [if_pos (by omega), if_pos (by omega)]
  simp
theorem len_big {n : Nat} (h : n ≤ 100000) : n < sizeLine := Nat.lt_of_le_of_lt h (by decide)
theorem mem_ix {α : Type} {l : List α} {i : Nat} (h : i < l.length) : ∃ x, l[i]? = some x ∧ x ∈ l := ⟨l[i], List.getElem?_eq_getElem h, List.getElem_mem h⟩

def topS (i : Nat) : Stmt := PySem.Challenge.pw_callsheard_k09_whole_alike_by_openings.main.body.getD i (.Pass ⟨0, 0, 0, 0⟩)
abbrev sCell : Stmt := topS 23
abbrev sNum : Stmt := topS 24
def cellN (ns : List Int) (k : Nat) : Int := (ns.getD k 0).natAbs
theorem cellN_nn (ns : List Int) (k : Nat) : 0 ≤ cellN ns k := Int.natCast_nonneg _
section
variable {P : Program} {w : World} {K : PySem.W.Frag} {mg : Str → Option Value} {base : Heap}
theorem scCell : FnScope ["script", "k"] ["script", "k"] (defScope sCell) := ⟨rfl, rfl, rfl, by decide +kernel, rfl, by decide +kernel, by decide +kernel⟩
def spCell (K : PySem.W.Frag) : Sp := fun vs H Q _ => ∃ (a : Addr) (ns : List Int) (k : Nat), vs = [.ref a, .int k] ∧ SqL K H a (ns.map V.int) ∧ ∀ c, 0 ≤ c → Q (.int c) H
theorem ok_cell {f : Addr} {fd : FuncData} (F : Fun K "_law_cell" "_law_cell" sCell f fd) (T : Bi mg) : FnOk P w K mg base CX0 1 f fd ["script", "k"] (spCell K) := by
  refine F.ok scCell (fun vs H Q E h => ?_) (fun cdv A outer s H vs Q E hr h => ?_)
  · obtain ⟨a, ns, k, rfl, _⟩ := h
    rfl
  · obtain ⟨a, ns, k, rfl, hS, q⟩ := h
    refine ⟨_, (pss_cons (ps_if (pt_cmpR op_lt (pv 1) (pe_callB call_len_seq (by rfl) T.len (by decide +kernel) (pa_cons (pv 0) pa_nil)) (nomark _))
      (pss_one (ps_ret (pe_callB call_abs (by rfl) T.abs (by decide +kernel) (pa_cons (pe_callTy cr_intI (by rfl) T.int (by decide +kernel) (pa_cons (pe_ix ix_list (pv 0) (pv 1) (fun _ _ => rfl)) pa_nil)) pa_nil))))
      pss_nil)
      (pss_one (ps_ret pe_int))), ?_⟩
    walk_at "rd"
    refine ⟨_, .inl hS, ?_⟩
    rw [List.length_map]
    refine ite2 (fun hk => ?_) (fun _ => q _ (Int.le_refl _))
    have hk2 : k < ns.length := by omega
    refine ⟨_, hS, V.int ns[k], atI_nat (by rw [List.getElem?_map, List.getElem?_eq_getElem hk2]; rfl), _, rfl, ?_⟩
    refine q _ ?_
    split <;> omega
theorem scNum : FnScope ["cell", "count", "numbers", "rest", "mixed", "k"] ["cell", "count"] (defScope sNum) := ⟨rfl, rfl, rfl, by decide +kernel, rfl, by decide +kernel, by decide +kernel⟩
/-- n ints from 0 on below 997 -/
def Nums (n : Nat) (ns : List Int) : Prop := ns.length = n ∧ ∀ x ∈ ns, 0 ≤ x ∧ x < 997
def spNum (K : PySem.W.Frag) : Sp := fun vs H Q _ => ∃ (c : Int) (n : Nat), vs = [.int c, .int n] ∧ n ≤ 1000 ∧ ∀ ns p H', Nums n ns → Same H H' → H p = none → H' p = some (.lst (ns.map V.int)) → Q (.ref p) H'
theorem ok_num {f : Addr} {fd : FuncData} (F : Fun K "_law_numbers" "_law_numbers" sNum f fd) (T : Bi mg) : FnOk P w K mg base CX0 1 f fd ["cell", "count"] (spNum K) := by
  refine F.ok scNum (fun vs H Q E h => ?_) (fun cdv A outer s H vs Q E hr h => ?_)
  · obtain ⟨c, n, rfl, _⟩ := h
    rfl
  · obtain ⟨c, n, rfl, hn, q⟩ := h
    refine ⟨_, (pss_cons (ps_set (i := 2) scNum.nd rfl (Or.inl rfl) (pe_lst pa_nil))
      (pss_cons (ps_set (i := 3) scNum.nd rfl (Or.inl rfl) (pv 0))
      (pss_cons (ps_set (i := 4) scNum.nd rfl (Or.inl rfl) (pe_op op_mod (pe_callTy cr_intI (by rfl) T.int (by decide +kernel) (pa_cons (pe_op op_add (pe_op op_mul (pv 0) pe_int) pe_int) pa_nil)) pe_int))
      (pss_cons (ps_for PassesOwn.never rfl (pi_range1 (by rfl) T.range (pa_cons (pv 1) pa_nil)) (pg_name (i := 5) scNum.nd rfl (Or.inl rfl))
      (pss_cons (ps_set (i := 4) scNum.nd rfl (Or.inl rfl) (pe_op op_mod (pe_callTy cr_intI (by rfl) T.int (by decide +kernel) (pa_cons (pe_op op_add (pe_op op_add (pe_op op_mul (pv 4) pe_int) (pe_op op_mul pe_int (pv 5))) pe_int) pa_nil)) pe_int))
        (pss_one (ps_if (pt_cmpR op_ge (pv 0) (pe_op op_pow pe_int pe_int) (nomark _))
        (pss_cons (ps_expr (pe_bm PySem.F.plainAttrs_list PySem.F.slot_list_append PySem.F.type_list_append mt_append (pv 2) (pa_cons (pe_op op_mod (pe_callTy cr_intI (by rfl) T.int (by decide +kernel) (pa_cons (pv 3) pa_nil)) pe_int) pa_nil)))
          (pss_one (ps_set (i := 3) scNum.nd rfl (Or.inl rfl) (pe_op op_fdiv (pv 3) pe_int))))
        (pss_one (ps_expr (pe_bm PySem.F.plainAttrs_list PySem.F.slot_list_append PySem.F.type_list_append mt_append (pv 2) (pa_cons (pe_op op_mod (pe_callTy cr_intI (by rfl) T.int (by decide +kernel) (pa_cons (pe_op op_fdiv (pv 4) pe_int) pa_nil)) pe_int) pa_nil))))))))
      (pss_one (ps_ret (pv 2))))))), ?_⟩
    walk_at "rd"
    refine ⟨by decide, fun p np => ⟨.inr (by decide), by decide, ?_⟩⟩
    refine ⟨_, rfl, _, rfl, by omega, by omega, for_range (lo := 0) (n := (n : Int).toNat) (fun i σ H' => ∃ (ns : List Int) (rest mixed : Int) (v : Option V), σ = [some (.int c), some (.int n), some (.ref p), some (.int rest), some (.int mixed), v] ∧ Nums i ns ∧ Same H H' ∧ H' p = some (.lst (ns.map V.int)))
      ⟨[], c, _, none, rfl, ⟨rfl, fun x hx => by cases hx⟩, same_upd np, upd_same⟩ ?_ ?_⟩
    · rintro i σ H' hi ⟨ns, rest, mixed, v, rfl, hns, sm, hp⟩
      have small : (List.map V.int ns).length < sizeLine := len_big (by rw [List.length_map, hns.1]; omega)
      have next : ∀ y, 0 ≤ y → y < 997 → Nums (i + 1) (ns ++ [y]) := fun y h0 h1 => by
        refine ⟨by rw [List.length_append, hns.1]; rfl, fun x hx => ?_⟩
        rcases List.mem_append.mp hx with hx | hx
        · exact hns.2 x hx
        · rw [List.mem_singleton.mp hx]
          exact ⟨h0, h1⟩
      have ty : tyV K "list" (.ref p) H' := .inl ⟨rfl, _, SqL.of hp⟩
      walk_at "rd"
      refine ⟨.inr (by decide), .inl (by decide), by decide, ⟨by decide, by decide, by decide⟩, ite2 (fun _ => ?_) (fun _ => ?_)⟩
      · refine ⟨ty, by decide, _, hp, small, ⟨by decide, by decide⟩, ns ++ [rest % 997], next _ (Int.emod_nonneg _ (by decide)) (Int.emod_lt_of_pos _ (by decide)), same_ch sm np, ?_⟩
        rw [upd_same, List.map_append]
        rfl
      · refine ⟨ty, ⟨by decide, by decide⟩, by decide, _, hp, small, ns ++ [(mixed * 48271 + 7919 * (0 + (i : Int)) + 12345) % 2147483647 / 1009 % 997], next _ (Int.emod_nonneg _ (by decide)) (Int.emod_lt_of_pos _ (by decide)), same_ch sm np, ?_⟩
        rw [upd_same, List.map_append]
        rfl
    · rintro σ H' ⟨ns, rest, mixed, v, rfl, hns, sm, hp⟩
      walk_at "rd"
      exact q ns p H' (by simpa using hns) sm np hp
end

/-! ### pairs of ints in the heap -/
abbrev Pr := Int × Int
/-- v is a tuple of the two ints -/
def IsP (H : Hp) (v : V) (d : Pr) : Prop := ∃ t, v = .ref t ∧ H t = some (.tup [.int d.1, .int d.2])
def PL (H : Hp) (vs : List V) (D : List Pr) : Prop := Paired (IsP H) vs D
def kH (H : Hp) (v : V) : Pr := match v with
  | .ref t => match H t with
    | some (.tup [.int x, .int y]) => (x, y)
    | _ => (0, 0)
  | _ => (0, 0)
theorem IsP.k {H : Hp} {v : V} {d : Pr} (h : IsP H v d) : kH H v = d := by
  obtain ⟨t, rfl, e⟩ := h
  unfold kH
  simp only [e]
/-- tuples stand -/
def KT (H H' : Hp) : Prop := ∀ t xs, H t = some (.tup xs) → H' t = some (.tup xs)
theorem KT.refl (H : Hp) : KT H H := fun _ _ h => h
theorem KT.trans {H H1 H2 : Hp} (a : KT H H1) (b : KT H1 H2) : KT H H2 := fun t xs h => b t xs (a t xs h)
theorem KT.same {H H' : Hp} (s : Same H H') : KT H H' := fun t xs h => s t _ h
theorem KT.new {H : Hp} {p : Addr} {o : HO} (n : H p = none) : KT H (upd H p o) := KT.same (same_upd n)
theorem KT.ch {H : Hp} {p : Addr} {o o' : HO} (n : H p = some o') (ho : ∀ xs, o' ≠ .tup xs) : KT H (upd H p o) := fun t xs h => by
  rw [upd_ne]
  · exact h
  · rintro rfl
    rw [h] at n
    exact ho xs (Option.some.inj n).symm
theorem KT.lst {H : Hp} {p : Addr} {o : HO} {vs : List V} (n : H p = some (.lst vs)) : KT H (upd H p o) := KT.ch n (fun _ h => by cases h)
theorem IsP.kt {H H' : Hp} {v : V} {d : Pr} (h : IsP H v d) (k : KT H H') : IsP H' v d := by
  obtain ⟨t, e, h⟩ := h
  exact ⟨t, e, k _ _ h⟩
theorem PL.kt {H H' : Hp} {vs : List V} {D : List Pr} (h : PL H vs D) (k : KT H H') : PL H' vs D := Paired.mapP h fun _ _ q => q.kt k
theorem PL.len {H : Hp} {vs : List V} {D : List Pr} (h : PL H vs D) : vs.length = D.length := Paired.length h
theorem PL.nil0 (H : Hp) : PL H [] [] := Paired.nil
theorem PL.snoc {H : Hp} {vs : List V} {D : List Pr} {v : V} {d : Pr} (h : PL H vs D) (q : IsP H v d) : PL H (vs ++ [v]) (D ++ [d]) := Paired.snoc h q
theorem PL.get : ∀ {H : Hp} {vs : List V} {D : List Pr} {i : Nat} {v : V}, PL H vs D → vs[i]? = some v → ∃ d, D[i]? = some d ∧ IsP H v d
  | _, _, _, _, _, Paired.nil, e => by simp at e
  | _, _, _, 0, v, .cons r _, e => by
    have e2 := Option.some.inj e
    subst e2
    exact ⟨_, rfl, r⟩
  | _, _, _, i + 1, v, .cons _ t, e => PL.get (i := i) t e
theorem PL.get2 : ∀ {H : Hp} {vs : List V} {D : List Pr} {i : Nat} {d : Pr}, PL H vs D → D[i]? = some d → ∃ v, vs[i]? = some v ∧ IsP H v d
  | _, _, _, _, _, Paired.nil, e => by simp at e
  | _, _, _, 0, v, .cons r _, e => by
    have e2 := Option.some.inj e
    subst e2
    exact ⟨_, rfl, r⟩
  | _, _, _, i + 1, v, .cons _ t, e => PL.get2 (i := i) t e
theorem PL.toK : ∀ {H : Hp} {vs : List V} {D : List Pr}, PL H vs D → D = vs.map (kH H) ∧ ∀ v ∈ vs, IsP H v (kH H v)
  | _, _, _, Paired.nil => ⟨rfl, fun v hv => by cases hv⟩
  | H, _, _, .cons r t => by
    obtain ⟨e, h⟩ := PL.toK t
    have q := r.k
    refine ⟨by rw [List.map_cons, ← e, q], fun v hv => ?_⟩
    rcases List.mem_cons.mp hv with rfl | hv
    · rw [q]
      exact r
    · exact h v hv
theorem PL.ofK {H : Hp} : ∀ {vs : List V}, (∀ v ∈ vs, IsP H v (kH H v)) → PL H vs (vs.map (kH H))
  | [], _ => Paired.nil
  | v :: vs, h => .cons (h v List.mem_cons_self) (PL.ofK fun u hu => h u (List.mem_cons_of_mem _ hu))
/-! ### sorted lists of pairs -/
def lt2 (p q : Pr) : Prop := p.1 < q.1 ∨ (p.1 = q.1 ∧ p.2 < q.2)
def Asc (D : List Pr) : Prop := D.Pairwise lt2
theorem lt2_irr (p : Pr) : ¬ lt2 p p := by
  unfold lt2
  omega
theorem lt2_ne {p q : Pr} (h : lt2 p q) : p ≠ q := by
  rintro rfl
  exact lt2_irr p h
theorem Asc.nodup {D : List Pr} (h : Asc D) : D.Nodup := List.Pairwise.imp lt2_ne h
theorem asc_of {D : List Pr} (nd : D.Nodup) (h : D.Pairwise fun x y => ¬ lt2 y x) : Asc D := by
  induction D with
  | nil => exact List.Pairwise.nil
  | cons p D ih =>
    obtain ⟨h1, h2⟩ := List.pairwise_cons.mp h
    obtain ⟨n1, n2⟩ := List.nodup_cons.mp nd
    refine List.pairwise_cons.mpr ⟨fun q hq => ?_, ih n2 h2⟩
    have a := h1 q hq
    have b : p ≠ q := fun e => n1 (by rw [e]; exact hq)
    unfold lt2 at a ⊢
    obtain ⟨p1, p2⟩ := p
    obtain ⟨q1, q2⟩ := q
    have c : ¬ (p1 = q1 ∧ p2 = q2) := fun ⟨e1, e2⟩ => b (by rw [e1, e2])
    simp only at a ⊢
    omega
/-- two ascending lists with the same pairs are one -/
theorem asc_uniq : ∀ {D E : List Pr}, Asc D → Asc E → (∀ p, p ∈ D ↔ p ∈ E) → D = E
  | [], [], _, _, _ => rfl
  | [], q :: E, _, _, h => by
    have := (h q).mpr List.mem_cons_self
    cases this
  | p :: D, [], _, _, h => by
    have := (h p).mp List.mem_cons_self
    cases this
  | p :: D, q :: E, hD, hE, h => by
    obtain ⟨a1, a2⟩ := List.pairwise_cons.mp hD
    obtain ⟨b1, b2⟩ := List.pairwise_cons.mp hE
    have e : p = q := by
      rcases List.mem_cons.mp ((h p).mp List.mem_cons_self) with e | hp
      · exact e
      · rcases List.mem_cons.mp ((h q).mpr List.mem_cons_self) with e | hq
        · exact e.symm
        · have c1 := b1 p hp
          have c2 := a1 q hq
          unfold lt2 at c1 c2
          omega
    subst e
    rw [asc_uniq a2 b2 fun z => ?_]
    constructor
    · intro hz
      rcases List.mem_cons.mp ((h z).mp (List.mem_cons_of_mem _ hz)) with e | hz2
      · subst e
        exact absurd (a1 z hz) (lt2_irr z)
      · exact hz2
    · intro hz
      rcases List.mem_cons.mp ((h z).mpr (List.mem_cons_of_mem _ hz)) with e | hz2
      · subst e
        exact absurd (b1 z hz) (lt2_irr z)
      · exact hz2
theorem srtd_asc {H : Hp} {ys : List V} (nd : (ys.map (kH H)).Nodup) (h : SrtO.Srtd (ltP (kH H)) ys) : Asc (ys.map (kH H)) := by
  refine asc_of nd (List.pairwise_map.mpr (List.Pairwise.imp (fun {x y} h => ?_) h))
  exact SrtO.lexB_no.mp h
/-- doors of a house with r rooms -/
structure Drs (r : Nat) (D : List Pr) : Prop where
  asc : Asc D
  ok : ∀ d ∈ D, 0 ≤ d.1 ∧ d.1 < d.2 ∧ d.2 < r
def cd (d : Pr) : Nat := (d.1 * 12 + d.2).toNat
theorem drs_len' {r : Nat} {D : List Pr} (hr : r ≤ 12) (nd : D.Nodup) (ok : ∀ d ∈ D, 0 ≤ d.1 ∧ d.1 < d.2 ∧ d.2 < r) : D.length ≤ 66 := by
  have h1 : (D.map cd).Nodup := by
    refine List.pairwise_map.mpr (List.Pairwise.imp_of_mem (fun {x y} hx hy hne e => ?_) nd)
    have a := ok x hx
    have b := ok y hy
    unfold cd at e
    obtain ⟨x1, x2⟩ := x
    obtain ⟨y1, y2⟩ := y
    simp only at a b e
    have : x1 = y1 ∧ x2 = y2 := by omega
    exact hne (by rw [this.1, this.2])
  have h2 : ∀ c ∈ D.map cd, c ∈ (List.range 144).filter fun c => c / 12 < c % 12 := fun c hc => by
    obtain ⟨d, hd, rfl⟩ := List.mem_map.mp hc
    have a := ok d hd
    refine List.mem_filter.mpr ⟨List.mem_range.mpr ?_, ?_⟩
    · unfold cd
      omega
    · rw [decide_eq_true_eq]
      unfold cd
      omega
  have h3 := nat_nodup_len (D.map cd) _ h1 h2
  rw [List.length_map] at h3
  exact Nat.le_trans h3 (by decide)
theorem Drs.len {r : Nat} {D : List Pr} (hr : r ≤ 12) (h : Drs r D) : D.length ≤ 66 := drs_len' hr h.asc.nodup h.ok

abbrev sNam : Stmt := topS 25
abbrev sJnd : Stmt := topS 26
theorem sub_lt_of {i n : Nat} (h : i < n) : (0 : Int) < (n : Int) - (i : Int) := by omega
/-- the ints from 0 on below n -/
def rg (n : Nat) : List Int := (List.range n).map Int.ofNat
theorem rg_len (n : Nat) : (rg n).length = n := by unfold rg; rw [List.length_map, List.length_range]
theorem rgV_rg (n : Nat) : rgV 0 (n : Int) = (rg n).map V.int := by
  unfold rgV rg
  rw [List.map_map]
  show List.map _ (List.range ((n : Int) - 0).toNat) = _
  rw [show ((n : Int) - 0).toNat = n by omega]
  refine List.map_congr_left fun i _ => ?_
  show V.int (0 + (i : Int)) = V.int (i : Int)
  rw [Int.zero_add]
theorem set_map {α β : Type} (f : α → β) (l : List α) (i : Nat) (x : α) : (l.map f).set i (f x) = (l.set i x).map f := by
  rw [List.map_set]
section
variable {P : Program} {w : World} {K : PySem.W.Frag} {mg : Str → Option Value} {base : Heap}
theorem scNam : FnScope ["numbers", "at", "rooms", "names", "k", "j", "kept"] ["numbers", "at", "rooms"] (defScope sNam) := ⟨rfl, rfl, rfl, by decide +kernel, rfl, by decide +kernel, by decide +kernel⟩
def spNam (K : PySem.W.Frag) : Sp := fun vs H Q _ => ∃ (a : Addr) (ns : List Int) (at_ r : Nat), vs = [.ref a, .int at_, .int r] ∧ SqL K H a (ns.map V.int) ∧ at_ + r ≤ ns.length ∧ r ≤ 1000 ∧
  ∀ xs p H', List.Perm xs (rg r) → Same H H' → H p = none → H' p = some (.lst (xs.map V.int)) → Q (.ref p) H'
theorem ok_nam {f : Addr} {fd : FuncData} (F : Fun K "_law_names" "_law_names" sNam f fd) (T : Bi mg) : FnOk P w K mg base CX0 1 f fd ["numbers", "at", "rooms"] (spNam K) := by
  refine F.ok scNam (fun vs H Q E h => ?_) (fun cdv A outer s H vs Q E hr h => ?_)
  · obtain ⟨a, ns, at_, r, rfl, _⟩ := h
    rfl
  · obtain ⟨a, ns, at_, r, rfl, hS, hat, hr1, q⟩ := h
    refine ⟨_, (pss_cons (ps_set (i := 3) scNam.nd rfl (Or.inl rfl) (pe_listRg rfl (by rfl) T.list (prg_1 (by rfl) T.range (pv 2))))
      (pss_cons (ps_for PassesOwn.never rfl (pi_range1 (by rfl) T.range (pa_cons (pv 2) pa_nil)) (pg_name (i := 4) scNam.nd rfl (Or.inl rfl))
      (pss_cons (ps_set (i := 5) scNam.nd rfl (Or.inl rfl) (pe_op op_add (pv 4) (pe_op op_mod (pe_callTy cr_intI (by rfl) T.int (by decide +kernel) (pa_cons (pe_ix ix_list (pv 0) (pe_op op_add (pv 1) (pv 4)) (fun _ _ => rfl)) pa_nil)) (pe_op op_sub (pv 2) (pv 4)))))
        (pss_cons (ps_set (i := 6) scNam.nd rfl (Or.inl rfl) (pe_ix ix_list (pv 3) (pv 4) (fun _ _ => rfl)))
        (pss_cons (ps_asg (pe_ix ix_list (pv 3) (pv 5) (fun _ _ => rfl)) (pg_sub (pv 3) (pv 4) set_list))
        (pss_one (ps_asg (pv 6) (pg_sub (pv 3) (pv 5) set_list)))))))
      (pss_one (ps_ret (pv 3))))), ?_⟩
    walk_at "rd"
    refine ⟨RgOk.of_le (by omega) (by omega) (by omega) (by omega), fun p np => ?_⟩
    refine ⟨_, rfl, r, rfl, by omega, by omega, for_range (lo := 0) (n := (r : Int).toNat) (fun i σ H' => ∃ (xs : List Int) (v1 v2 v3 : Option V), σ = [some (.ref a), some (.int at_), some (.int r), some (.ref p), v1, v2, v3] ∧ List.Perm xs (rg r) ∧ Same H H' ∧ H' p = some (.lst (xs.map V.int)))
      ⟨rg r, none, none, none, rfl, List.Perm.refl _, same_upd np, by rw [upd_same, rgV_rg]⟩ ?_ ?_⟩
    · rintro i σ H' hi ⟨xs, v1, v2, v3, rfl, pm, sm, hp⟩
      have hi2 : i < r := by omega
      have hl : xs.length = r := by rw [pm.length_eq, rg_len]
      have hS' := sm.seq hS
      have hn : at_ + i < ns.length := by omega
      have hq : SqL K H' p (xs.map V.int) := SqL.of hp
      walk_at "rd"
      have hj0 := Int.emod_nonneg ns[at_ + i] (show ((r : Int) - (0 + (i : Int))) ≠ 0 by omega)
      have hj1 := Int.emod_lt_of_pos ns[at_ + i] (show 0 < ((r : Int) - (0 + (i : Int))) by omega)
      obtain ⟨j, hj⟩ : ∃ j : Nat, (0 + (i : Int)) + ns[at_ + i] % ((r : Int) - (0 + (i : Int))) = j := ⟨((0 + (i : Int)) + ns[at_ + i] % ((r : Int) - (0 + (i : Int)))).toNat, by omega⟩
      have hjr : j < r := by omega
      have gi : (xs.map V.int)[i]? = some (.int xs[i]) := by rw [List.getElem?_map, List.getElem?_eq_getElem (by omega)]; rfl
      have gj : (xs.map V.int)[j]? = some (.int xs[j]) := by rw [List.getElem?_map, List.getElem?_eq_getElem (by omega)]; rfl
      refine ⟨_, hS', .int ns[at_ + i], at_of (j := at_ + i) (by omega) (by rw [List.getElem?_map, List.getElem?_eq_getElem hn]; rfl), _, rfl, by omega, _, hq, .int xs[i], at_of (by omega) gi, _, hq, .int xs[j], at_of hj gj, _, hp, i, ixn (by omega) (by rw [List.length_map]; omega), _, upd_same, j, ixn hj (by rw [List.length_set, List.length_map]; omega), (xs.set i xs[j]).set j xs[i], (List.set_set_perm (by omega) (by omega)).trans pm, same_ch (same_ch sm np) np, ?_⟩
      rw [upd_same, set_map, set_map]
    · rintro σ H' ⟨xs, v1, v2, v3, rfl, pm, sm, hp⟩
      walk_at "rd"
      exact q xs p H' pm sm np hp
theorem scJnd : FnScope ["kind", "a", "b", "rooms", "number", "parent"] ["kind", "a", "b", "rooms", "number", "parent"] (defScope sJnd) := ⟨rfl, rfl, rfl, by decide +kernel, rfl, by decide +kernel, by decide +kernel⟩
def spJnd : Sp := fun vs H Q _ => ∃ (kd a b r n p : Int), vs = [.int kd, .int a, .int b, .int r, .int n, .int p] ∧ 0 < b ∧ ∀ c, Q (.bl c) H
theorem ok_jnd {f : Addr} {fd : FuncData} (F : Fun K "_law_joined" "_law_joined" sJnd f fd) (T : Bi mg) : FnOk P w K mg base CX0 1 f fd ["kind", "a", "b", "rooms", "number", "parent"] spJnd := by
  refine F.ok scJnd (fun vs H Q E h => ?_) (fun cdv A outer s H vs Q E hr h => ?_)
  · obtain ⟨kd, a, b, r, n, p, rfl, _⟩ := h
    rfl
  · obtain ⟨kd, a, b, r, n, p, rfl, hb, q⟩ := h
    refine ⟨_, (pss_cons (ps_if (pt_cmpR op_eqI (pv 0) pe_int (nomark _))
      (pss_one (ps_ret (pe_cmpR op_eqI (pv 1) pe_int (nomark _))))
      pss_nil)
      (pss_cons (ps_if (pt_cmpR op_eqI (pv 0) pe_int (nomark _))
      (pss_one (ps_ret (pe_or (pe_cmpR op_eqI (pv 2) (pe_op op_add (pv 1) pe_int) (nomark _)) (pe_one (pe_and (pe_cmpR op_eqI (pv 1) pe_int (nomark _)) (pe_one (pe_cmpR op_eqI (pv 2) (pe_op op_sub (pv 3) pe_int) (nomark _))))))))
      pss_nil)
      (pss_cons (ps_if (pt_cmpR op_eqI (pv 0) pe_int (nomark _))
      (pss_one (ps_ret pe_bl))
      pss_nil)
      (pss_cons (ps_if (pt_cmpR op_eqI (pv 0) pe_int (nomark _))
      (pss_one (ps_ret (pe_cmpR op_eqI (pv 1) (pe_op op_mod (pe_callTy cr_intI (by rfl) T.int (by decide +kernel) (pa_cons (pv 5) pa_nil)) (pv 2)) (nomark _))))
      pss_nil)
      (pss_cons (ps_if (pt_cmpR op_eqI (pv 0) pe_int (nomark _))
      (pss_one (ps_ret (pe_cmpR op_eqI (pe_op op_mod (pe_callTy cr_intI (by rfl) T.int (by decide +kernel) (pa_cons (pv 4) pa_nil)) pe_int) pe_int (nomark _))))
      pss_nil)
      (pss_cons (ps_if (pt_cmpR op_eqI (pv 0) pe_int (nomark _))
      (pss_one (ps_ret (pe_cmpR op_eqI (pe_op op_mod (pe_callTy cr_intI (by rfl) T.int (by decide +kernel) (pa_cons (pv 4) pa_nil)) pe_int) pe_int (nomark _))))
      pss_nil)
      (pss_cons (ps_if (pt_cmpR op_eqI (pv 0) pe_int (nomark _))
      (pss_one (ps_ret (pe_cmpR op_neI (pe_op op_mod (pe_callTy cr_intI (by rfl) T.int (by decide +kernel) (pa_cons (pv 4) pa_nil)) pe_int) pe_int (nomark _))))
      pss_nil)
      (pss_one (ps_ret (pe_cmpR op_eqI (pv 2) (pe_op op_add (pv 1) pe_int) (nomark _))))))))))), ?_⟩
    walk_at "rd"
    repeat (first | exact q _ | exact hb | decide | refine ⟨?_, ?_⟩ | refine ite2 (fun _ => ?_) (fun _ => ?_) | split)
end

abbrev sDrs : Stmt := topS 27
/-- min and max of the two names -/
def mm (xs : List Int) (p : Nat × Nat) : Pr := (if xs.getD p.2 0 < xs.getD p.1 0 then xs.getD p.2 0 else xs.getD p.1 0, if xs.getD p.2 0 > xs.getD p.1 0 then xs.getD p.2 0 else xs.getD p.1 0)
/-- pairs that have been met when the outer loop stands at b, the inner at a -/
structure Vis (r b a : Nat) (L : List (Nat × Nat)) : Prop where
  ok : ∀ p ∈ L, p.1 < p.2 ∧ p.2 < r ∧ (p.2 < b ∨ (p.2 = b ∧ p.1 < a))
  nd : L.Nodup
theorem Vis.zero (r : Nat) : Vis r 1 0 [] := ⟨fun p h => (by cases h), List.nodup_nil⟩
theorem Vis.skip {r b a : Nat} {L : List (Nat × Nat)} (h : Vis r b a L) : Vis r b (a + 1) L := by
  refine ⟨fun p hp => ?_, h.nd⟩
  have := h.ok p hp
  omega
theorem Vis.row {r b : Nat} {L : List (Nat × Nat)} (h : Vis r b b L) : Vis r (b + 1) 0 L := by
  refine ⟨fun p hp => ?_, h.nd⟩
  have := h.ok p hp
  omega
theorem Vis.more {r b a : Nat} {L : List (Nat × Nat)} (h : Vis r b a L) (hb : b < r) (ha : a < b) : Vis r b (a + 1) (L ++ [(a, b)]) := by
  refine ⟨fun p hp => ?_, ?_⟩
  · rcases List.mem_append.mp hp with hp | hp
    · have := h.ok p hp
      omega
    · rw [List.mem_singleton.mp hp]
      exact ⟨ha, hb, .inr ⟨rfl, Nat.lt_succ_self a⟩⟩
  · refine List.nodup_append.mpr ⟨h.nd, by simp, fun p hp q hq => ?_⟩
    rw [List.mem_singleton.mp hq]
    rintro rfl
    have := h.ok _ hp
    simp only at this
    omega
theorem rg_nodup (n : Nat) : (rg n).Nodup := by
  unfold rg
  exact List.pairwise_map.mpr (List.Pairwise.imp (fun {x y} h e => h (Int.ofNat.inj e)) List.nodup_range)
theorem rg_mem {n : Nat} {x : Int} (h : x ∈ rg n) : 0 ≤ x ∧ x < n := by
  obtain ⟨i, hi, rfl⟩ := List.mem_map.mp h
  have := List.mem_range.mp hi
  show 0 ≤ (i : Int) ∧ (i : Int) < n
  omega
/-- names: each room once -/
structure Nms (r : Nat) (xs : List Int) : Prop where
  pm : xs.Perm (rg r)
theorem Nms.len {r : Nat} {xs : List Int} (h : Nms r xs) : xs.length = r := by rw [h.pm.length_eq, rg_len]
theorem Nms.nd {r : Nat} {xs : List Int} (h : Nms r xs) : xs.Nodup := h.pm.nodup_iff.mpr (rg_nodup r)
theorem Nms.bd {r : Nat} {xs : List Int} (h : Nms r xs) {i : Nat} (hi : i < r) : 0 ≤ xs.getD i 0 ∧ xs.getD i 0 < r := by
  have hl := h.len
  have e : xs.getD i 0 = xs[i] := by rw [List.getD_eq_getElem?_getD, List.getElem?_eq_getElem (by omega)]; rfl
  rw [e]
  exact rg_mem (h.pm.mem_iff.mp (List.getElem_mem _))
theorem Nms.inj {r : Nat} {xs : List Int} (h : Nms r xs) {i j : Nat} (hi : i < r) (hj : j < r) (e : xs.getD i 0 = xs.getD j 0) : i = j := by
  have hl := h.len
  have e1 : xs.getD i 0 = xs[i] := by rw [List.getD_eq_getElem?_getD, List.getElem?_eq_getElem (by omega)]; rfl
  have e2 : xs.getD j 0 = xs[j] := by rw [List.getD_eq_getElem?_getD, List.getElem?_eq_getElem (by omega)]; rfl
  rw [e1, e2] at e
  refine nd_ix h.nd (List.getElem?_eq_getElem (by omega)) ?_
  rw [e]
  exact List.getElem?_eq_getElem (by omega)
theorem mm_ok {r : Nat} {xs : List Int} (h : Nms r xs) {p : Nat × Nat} (h1 : p.1 < p.2) (h2 : p.2 < r) : 0 ≤ (mm xs p).1 ∧ (mm xs p).1 < (mm xs p).2 ∧ (mm xs p).2 < r := by
  have a := h.bd (i := p.1) (by omega)
  have b := h.bd (i := p.2) h2
  have ne : xs.getD p.1 0 ≠ xs.getD p.2 0 := fun e => by
    have := h.inj (i := p.1) (j := p.2) (by omega) h2 e
    omega
  unfold mm
  simp only
  split <;> split <;> omega
theorem mm_inj {r : Nat} {xs : List Int} (h : Nms r xs) {p q : Nat × Nat} (p1 : p.1 < p.2) (p2 : p.2 < r) (q1 : q.1 < q.2) (q2 : q.2 < r) (e : mm xs p = mm xs q) : p = q := by
  have e1 := congrArg Prod.fst e
  have e2 := congrArg Prod.snd e
  unfold mm at e1 e2
  simp only at e1 e2
  have k : (xs.getD p.1 0 = xs.getD q.1 0 ∧ xs.getD p.2 0 = xs.getD q.2 0) ∨ (xs.getD p.1 0 = xs.getD q.2 0 ∧ xs.getD p.2 0 = xs.getD q.1 0) := by
    split at e1 <;> split at e1 <;> split at e2 <;> split at e2 <;> omega
  rcases k with ⟨k1, k2⟩ | ⟨k1, k2⟩
  · have a := h.inj (by omega) (by omega) k1
    have b := h.inj (by omega) (by omega) k2
    exact Prod.ext a b
  · have a := h.inj (by omega) (by omega) k1
    have b := h.inj (by omega) (by omega) k2
    omega
theorem vis_nd {r b a : Nat} {xs : List Int} {L : List (Nat × Nat)} (h : Nms r xs) (v : Vis r b a L) : (L.map (mm xs)).Nodup := by
  refine List.pairwise_map.mpr (List.Pairwise.imp_of_mem (fun {p q} hp hq hne e => ?_) v.nd)
  have a := v.ok p hp
  have b := v.ok q hq
  exact hne (mm_inj h a.1 a.2.1 b.1 b.2.1 e)
theorem vis_ok {r b a : Nat} {xs : List Int} {L : List (Nat × Nat)} (h : Nms r xs) (v : Vis r b a L) : ∀ d ∈ L.map (mm xs), 0 ≤ d.1 ∧ d.1 < d.2 ∧ d.2 < r := fun d hd => by
  obtain ⟨p, hp, rfl⟩ := List.mem_map.mp hd
  have a := v.ok p hp
  exact mm_ok h a.1 a.2.1
theorem tri {b : Nat} (h : b ≤ 11) : (b : Int) * ((b : Int) - 1) / 2 ≤ 55 ∧ 0 ≤ (b : Int) * ((b : Int) - 1) / 2 := by
  have : b = 0 ∨ b = 1 ∨ b = 2 ∨ b = 3 ∨ b = 4 ∨ b = 5 ∨ b = 6 ∨ b = 7 ∨ b = 8 ∨ b = 9 ∨ b = 10 ∨ b = 11 := by omega
  rcases this with rfl | rfl | rfl | rfl | rfl | rfl | rfl | rfl | rfl | rfl | rfl | rfl <;> decide
section
variable {P : Program} {w : World} {K : PySem.W.Frag} {mg : Str → Option Value} {base : Heap}
theorem scDrs : FnScope ["numbers", "rooms", "kind", "names", "doors", "b", "first", "a"] ["numbers", "rooms"] (defScope sDrs) := ⟨rfl, rfl, rfl, by decide +kernel, rfl, by decide +kernel, by decide +kernel⟩
def spDrs (K : PySem.W.Frag) : Sp := fun vs H Q _ => ∃ (a : Addr) (ns : List Int) (r : Nat), vs = [.ref a, .int r] ∧ SqL K H a (ns.map V.int) ∧ 79 ≤ ns.length ∧ 1 ≤ r ∧ r ≤ 12 ∧
  ∀ D vs p H', Drs r D → Same H H' → H p = none → H' p = some (.lst vs) → PL H' vs D → Q (.ref p) H'
theorem ok_drs {f fN fJ : Addr} {fd fdN fdJ : FuncData} (F : Fun K "_law_doors" "_law_doors" sDrs f fd) (T : Bi mg) (d__law_names : Df P w K mg base "_law_names" ["numbers", "at", "rooms"] 1 (spNam K) fN fdN)
    (d__law_joined : Df P w K mg base "_law_joined" ["kind", "a", "b", "rooms", "number", "parent"] 1 spJnd fJ fdJ) : FnOk P w K mg base CX0 2 f fd ["numbers", "rooms"] (spDrs K) := by
  refine F.ok scDrs (fun vs H Q E h => ?_) (fun cdv A outer s H vs Q E hr h => ?_)
  · obtain ⟨a, ns, r, rfl, _⟩ := h
    rfl
  · obtain ⟨a, ns, r, rfl, hS, hn, hr1, hr12, q⟩ := h
    refine ⟨_, (pss_cons (ps_set (i := 2) scDrs.nd rfl (Or.inl rfl) (pe_op op_mod (pe_callTy cr_intI (by rfl) T.int (by decide +kernel) (pa_cons (pe_ix ix_list (pv 0) pe_int (fun _ _ => rfl)) pa_nil)) pe_int))
      (pss_cons (ps_set (i := 3) scDrs.nd rfl (Or.inl rfl) (pe_call d__law_names.ok (hr.mono (by decide)) (by rfl) d__law_names.at_ d__law_names.kp d__law_names.b .nil pass0 (pa_cons (pv 0) (pa_cons pe_int (pa_cons (pv 1) pa_nil)))))
      (pss_cons (ps_set (i := 4) scDrs.nd rfl (Or.inl rfl) (pe_lst pa_nil))
      (pss_cons (ps_for PassesOwn.never rfl (pi_range2 (by rfl) T.range (pa_cons pe_int (pa_cons (pv 1) pa_nil))) (pg_name (i := 5) scDrs.nd rfl (Or.inl rfl))
      (pss_cons (ps_set (i := 6) scDrs.nd rfl (Or.inl rfl) (pe_op op_add (pe_op op_add pe_int (pv 1)) (pe_op op_fdiv (pe_op op_mul (pv 5) (pe_op op_sub (pv 5) pe_int)) pe_int)))
        (pss_one (ps_for PassesOwn.never rfl (pi_range1 (by rfl) T.range (pa_cons (pv 5) pa_nil)) (pg_name (i := 7) scDrs.nd rfl (Or.inl rfl))
        (pss_one (ps_if (pt_truth (pe_call d__law_joined.ok (hr.mono (by decide)) (by rfl) d__law_joined.at_ d__law_joined.kp d__law_joined.b .nil pass0 (pa_cons (pv 2) (pa_cons (pv 7) (pa_cons (pv 5) (pa_cons (pv 1) (pa_cons (pe_ix ix_list (pv 0) (pe_op op_add (pv 6) (pv 7)) (fun _ _ => rfl)) (pa_cons (pe_ix ix_list (pv 0) (pv 6) (fun _ _ => rfl)) pa_nil))))))) (by intro _; rfl))
          (pss_one (ps_expr (pe_bm PySem.F.plainAttrs_list PySem.F.slot_list_append PySem.F.type_list_append mt_append (pv 4) (pa_cons (pe_tup (pa_cons (pe_callB (call_min2 rfl) (by rfl) T.min (by decide +kernel) (pa_cons (pe_ix ix_list (pv 3) (pv 7) (fun _ _ => rfl)) (pa_cons (pe_ix ix_list (pv 3) (pv 5) (fun _ _ => rfl)) pa_nil))) (pa_cons (pe_callB (call_max2 rfl) (by rfl) T.max (by decide +kernel) (pa_cons (pe_ix ix_list (pv 3) (pv 7) (fun _ _ => rfl)) (pa_cons (pe_ix ix_list (pv 3) (pv 5) (fun _ _ => rfl)) pa_nil))) pa_nil))) pa_nil))))
          pss_nil))))))
      (pss_one (ps_ret (pe_callB cr_sortedPO (by rfl) T.sorted (by decide +kernel) (pa_cons (pv 4) pa_nil)))))))), ?_⟩
    have at_n : ∀ (k : Nat) (hk : k < ns.length), (ns.map V.int)[k]? = some (.int ns[k]) := fun k hk => by
      rw [List.getElem?_map, List.getElem?_eq_getElem hk]
      rfl
    walk_at "rd"
    refine ⟨_, hS, .int ns[0], at_of (j := 0) rfl (at_n 0 (by omega)), _, rfl, by decide, a, ns, 1, r, rfl, hS, by omega, by omega, fun xs pn H1 pm s1 nn hN => ?_⟩
    have N : Nms r xs := ⟨pm⟩
    have hl := N.len
    walk_at "rd"
    refine ⟨Nat.zero_le _, fun p np => ?_⟩
    obtain ⟨Pv, hPv⟩ : ∃ Pv : Nat → L2.St → Hp → Prop, Pv = (fun i σ H' => ∃ (L : List (Nat × Nat)) (vs : List V) (v5 v6 v7 : Option V), σ = [some (.ref a), some (.int r), some (.int (ns[0] % 8)), some (.ref pn), some (.ref p), v5, v6, v7] ∧ Vis r (i + 1) 0 L ∧ Same H1 H' ∧ H' p = some (.lst vs) ∧ PL H' vs (L.map (mm xs))) := ⟨_, rfl⟩
    refine ⟨_, rfl, 1, (r : Int), rfl, ⟨by omega, by omega, by omega, by omega⟩, for_range (lo := 1) (n := ((r : Int) - 1).toNat) Pv (by rw [hPv]; exact ⟨[], [], none, none, none, rfl, Vis.zero r, same_upd np, upd_same, PL.nil0 _⟩) ?_ ?_⟩
    · rintro i σ H' hi pv
      have nxt : ∀ L vs v5 v6 v7 H', Vis r (i + 1 + 1) 0 L → Same H1 H' → H' p = some (.lst vs) → PL H' vs (L.map (mm xs)) → Pv (i + 1) [some (.ref a), some (.int r), some (.int (ns[0] % 8)), some (.ref pn), some (.ref p), v5, v6, v7] H' := fun L vs v5 v6 v7 H' h1 h2 h3 h4 => by
        rw [hPv]
        exact ⟨L, vs, v5, v6, v7, rfl, h1, h2, h3, h4⟩
      rw [hPv] at pv
      obtain ⟨L, vs, v5, v6, v7, rfl, vis, s2, hp, pl⟩ := pv
      have hb : i + 1 ≤ 11 := by omega
      have tr := tri hb
      have eb : (1 : Int) + (i : Int) = ((i + 1 : Nat) : Int) := by omega
      obtain ⟨fi, hfi⟩ : ∃ fi : Nat, (1 : Int) + (r : Int) + (1 + (i : Int)) * (1 + (i : Int) - 1) / 2 = fi ∧ fi ≤ 68 := by
        rw [eb]
        exact ⟨(1 + (r : Int) + ((i + 1 : Nat) : Int) * (((i + 1 : Nat) : Int) - 1) / 2).toNat, by omega, by omega⟩
      walk_at "rd"
      refine ⟨.inl (by omega), ⟨by decide, by decide⟩, ?_⟩
      rw [hfi.1]
      obtain ⟨Pw, hPw⟩ : ∃ Pw : Nat → L2.St → Hp → Prop, Pw = (fun j σ H' => ∃ (L : List (Nat × Nat)) (vs : List V) (v7 : Option V), σ = [some (.ref a), some (.int r), some (.int (ns[0] % 8)), some (.ref pn), some (.ref p), some (.int (1 + (i : Int))), some (.int fi), v7] ∧ Vis r (i + 1) j L ∧ Same H1 H' ∧ H' p = some (.lst vs) ∧ PL H' vs (L.map (mm xs))) := ⟨_, rfl⟩
      refine ⟨_, rfl, 1 + (i : Int), rfl, by omega, by omega, for_range (lo := 0) (n := (1 + (i : Int)).toNat) Pw (by rw [hPw]; exact ⟨L, vs, v7, rfl, vis, s2, hp, pl⟩) ?_ ?_⟩
      · clear hp pl s2 vis vs L v7
        rintro j σ H' hj pv
        have nxw : ∀ L vs v7 H', Vis r (i + 1) (j + 1) L → Same H1 H' → H' p = some (.lst vs) → PL H' vs (L.map (mm xs)) → Pw (j + 1) [some (.ref a), some (.int r), some (.int (ns[0] % 8)), some (.ref pn), some (.ref p), some (.int (1 + (i : Int))), some (.int fi), v7] H' := fun L vs v7 H' h1 h2 h3 h4 => by
          rw [hPw]
          exact ⟨L, vs, v7, rfl, h1, h2, h3, h4⟩
        rw [hPw] at pv
        obtain ⟨L, vs, v7, rfl, vis, s2, hp, pl⟩ := pv
        have hjb : j < i + 1 := by omega
        have hS' : SqL K H' a (ns.map V.int) := s2.seq (s1.seq hS)
        have hN' : SqL K H' pn (xs.map V.int) := s2.seq (SqL.of hN)
        have gj : (xs.map V.int)[j]? = some (.int (xs.getD j 0)) := by rw [List.getElem?_map, List.getElem?_eq_getElem (by omega), List.getD_eq_getElem?_getD, List.getElem?_eq_getElem (by omega)]; rfl
        have gi : (xs.map V.int)[i + 1]? = some (.int (xs.getD (i + 1) 0)) := by rw [List.getElem?_map, List.getElem?_eq_getElem (by omega), List.getD_eq_getElem?_getD, List.getElem?_eq_getElem (by omega)]; rfl
        have small : vs.length ≤ 66 := by
          rw [pl.len]
          exact drs_len' hr12 (vis_nd N vis) (vis_ok N vis)
        walk_at "rd"
        refine ⟨_, hS', .int ns[fi + j], at_of (j := fi + j) (by omega) (at_n _ (by omega)), _, hS', .int ns[fi], at_of (j := fi) rfl (at_n _ (by omega)), ?_⟩
        refine ⟨_, _, _, _, _, _, rfl, by omega, fun c => ?_⟩
        refine ⟨_, rfl, ite2 (fun _ => ?_) (fun _ => nxw L vs _ _ vis.skip s2 hp pl)⟩
        refine ⟨.inl ⟨rfl, _, SqL.of hp⟩, _, hN', .int (xs.getD j 0), at_of (j := j) (by omega) gj, _, hN', .int (xs.getD (i + 1) 0), at_of (j := i + 1) (by omega) gi, ?_⟩
        refine ⟨_, rfl, _, rfl, _, hN', .int (xs.getD j 0), at_of (j := j) (by omega) gj, _, hN', .int (xs.getD (i + 1) 0), at_of (j := i + 1) (by omega) gi, _, rfl, _, rfl, ?_⟩
        refine ⟨by decide, fun t nt => ⟨vs, ?_, len_big (by omega), ?_⟩⟩
        · rw [upd_ne (ne_of_none hp nt)]
          exact hp
        · have np' : p ≠ t := ne_of_none hp nt
          refine nxw (L ++ [(j, i + 1)]) (vs ++ [.ref t]) _ _ (vis.more (by omega) hjb) (same_ch (s2.trans (same_upd nt)) np) upd_same ?_
          rw [List.map_append]
          refine PL.snoc ((pl.kt (KT.new nt)).kt (KT.lst (by rw [upd_ne np']; exact hp))) ⟨t, rfl, ?_⟩
          rw [upd_ne np'.symm, upd_same]
          rfl
      · clear hp pl s2 vis vs L v7
        rintro σ H' pv
        rw [hPw] at pv
        obtain ⟨L, vs, v7, rfl, vis, s2, hp, pl⟩ := pv
        have e : (1 + (i : Int)).toNat = i + 1 := by omega
        rw [e] at vis
        exact nxt L vs _ _ _ _ vis.row s2 hp pl
    · rintro σ H' pv
      rw [hPv] at pv
      obtain ⟨L, vs, v5, v6, v7, rfl, vis, s2, hp, pl⟩ := pv
      walk_at "rd"
      obtain ⟨k1, k2⟩ := pl.toK
      refine ⟨p, vs, kH H', rfl, SqL.of hp, k2, fun ys t so st nt => ?_⟩
      have pmy := st.perm
      have hy : ∀ v ∈ ys, IsP H' v (kH H' v) := fun v hv => k2 v (pmy.mem_iff.mp hv)
      have nd : (ys.map (kH H')).Nodup := by
        refine (pmy.map _).nodup_iff.mpr ?_
        rw [← k1]
        exact vis_nd N vis
      refine q (ys.map (kH H')) ys t _ ⟨srtd_asc nd so, fun d hd => ?_⟩ ?_ ?_ upd_same ((PL.ofK hy).kt (KT.new nt))
      · refine vis_ok N vis d ?_
        rw [k1]
        exact (pmy.map _).mem_iff.mp hd
      · exact ((s1.trans s2).trans (same_upd nt))
      · exact (s1.trans s2).free nt
end

abbrev sSame : Stmt := topS 30
/-- isinstance of built-in kinds -/
def isTy (m n : String) : Bool := m == n || (m == "bool" && n == "int")
theorem kit5 {K : PySem.W.Frag} {m n : String} (hm : m = "bool" ∨ m = "int" ∨ m = "str" ∨ m = "list" ∨ m = "tuple") (hn : n = "bool" ∨ n = "int" ∨ n = "str" ∨ n = "list" ∨ n = "tuple") : PySem.W.kitOne K (.type m) (.type n) = some (isTy m n) := by
  rcases hm with rfl | rfl | rfl | rfl | rfl <;> rcases hn with rfl | rfl | rfl | rfl | rfl <;> exact kit_ty (by decide +kernel)
def rIs5 (K : PySem.W.Frag) : List V → Hp → VK → Prop := fun xs H Q => ∃ (x : V) (n m : String), xs = [x, .ty n] ∧ TyX K H x (.type m) ∧ (m = "bool" ∨ m = "int" ∨ m = "str" ∨ m = "list" ∨ m = "tuple") ∧ (n = "bool" ∨ n = "int" ∨ n = "str" ∨ n = "list" ∨ n = "tuple") ∧ Q (.bl (isTy m n)) H
theorem cr_is5 {X : Cx} : CallR X (.builtin "isinstance") (rIs5 X.K) := fun pins s σ H xs us Q I r h => by
  obtain ⟨x, n, m, rfl, ty, hm, hn, q⟩ := h
  exact call_isi pins s σ H _ us Q I r ⟨x, .ty n, _, _, _, rfl, .ty n, ty, kit5 hm hn, q⟩
theorem is5_of {K : PySem.W.Frag} {H : Hp} {x : V} {n m : String} {Q : VK} (ty : TyX K H x (.type m)) (hm : m = "bool" ∨ m = "int" ∨ m = "str" ∨ m = "list" ∨ m = "tuple") (hn : n = "bool" ∨ n = "int" ∨ n = "str" ∨ n = "list" ∨ n = "tuple") (q : Q (.bl (isTy m n)) H) : rIs5 K [x, .ty n] H Q :=
  ⟨x, n, m, rfl, ty, hm, hn, q⟩
theorem eqS_of {H : Hp} {x : V} {Q : VK} (h : scal x x = true) (q : Q (.bl true) H) : rEq x x H Q := ⟨h, by rw [decide_eq_true rfl]; exact q⟩
local macro_rules | `(tactic| walk_at "i5") => `(tactic| ((first | refine is5_of (.base (.int _)) (by decide) (by decide) ?_ | refine is5_of (.base (.str _)) (by decide) (by decide) ?_ | refine is5_of (.base (.bl _)) (by decide) (by decide) ?_ | refine is5_of (.base (.lst (by assumption))) (by decide) (by decide) ?_ | refine is5_of (.base (.tup (by assumption))) (by decide) (by decide) ?_)))
local macro_rules | `(tactic| walk_at "i6") => `(tactic| (simp only [rIsT, isTy, String.reduceBEq, Bool.or_false, Bool.or_true, Bool.and_false, Bool.and_true, Bool.true_or, Bool.false_or, Bool.true_and, Bool.false_and, reduceCtorEq, decide_false, decide_true, V.bl.injEq, exists_eq_left', if_true, if_false, Bool.false_eq_true, ↓reduceIte, Bool.not_true, Bool.not_false, ite_self]))
def flat4 : V → Bool
  | .non => true
  | .bl _ => true
  | .int _ => true
  | .str _ => true
  | _ => false
/-- the same data, of at most this depth, the lists and tuples tracked -/
def Sm (H : Hp) : Nat → V → V → Prop
  | 0, x, y => x = y ∧ flat4 x = true
  | n + 1, x, y => (x = y ∧ flat4 x = true) ∨ ∃ a b xs ys, x = .ref a ∧ y = .ref b ∧ ((H a = some (.lst xs) ∧ H b = some (.lst ys)) ∨ (H a = some (.tup xs) ∧ H b = some (.tup ys))) ∧ Paired (Sm H n) xs ys ∧ xs.length ≤ 100000
theorem Sm.flat {H : Hp} {n : Nat} {x : V} (h : flat4 x = true) : Sm H n x x := by
  cases n with
  | zero => exact ⟨rfl, h⟩
  | succ n => exact .inl ⟨rfl, h⟩
theorem paired_get {α β : Type} {F : α → β → Prop} : ∀ {xs : List α} {ys : List β} {i : Nat}, Paired F xs ys → i < xs.length → ∃ x y, xs[i]? = some x ∧ ys[i]? = some y ∧ F x y
  | _, _, _, .nil, h => by cases h
  | _, _, 0, .cons r _, _ => ⟨_, _, rfl, rfl, r⟩
  | _, _, i + 1, .cons _ t, h => paired_get (i := i) t (Nat.lt_of_succ_lt_succ h)
section
variable {P : Program} {w : World} {K : PySem.W.Frag} {mg : Str → Option Value} {base : Heap}
theorem scSame : FnScope ["got", "due", "k"] ["got", "due"] (defScope sSame) := ⟨rfl, rfl, rfl, by decide +kernel, rfl, by decide +kernel, by decide +kernel⟩
def spSame (n : Nat) : Sp := fun vs H Q _ => ∃ x y, vs = [x, y] ∧ Sm H n x y ∧ Q (.bl true) H
theorem ok_same {f : Addr} {fd : FuncData} (F : Fun K "_law_same" "_law_same" sSame f fd) (T : Bi mg) (bd : Binds K fd ["got", "due"] []) (hmg : mg "_law_same" = some (.ref f)) : ∀ n, FnOk P w K mg base CX0 (n + 1) f fd ["got", "due"] (spSame n) := by
  intro n
  induction n with
  | zero =>
    refine F.ok scSame (fun vs H Q E h => ?_) (fun cdv A outer s H vs Q E hr h => ?_)
    · obtain ⟨x, y, rfl, _⟩ := h
      rfl
    · obtain ⟨x, y, rfl, ⟨rfl, hf⟩, q⟩ := h
      refine ⟨_, (pss_cons (ps_if (pt_cmpR op_isN (pv 1) pe_non (nomark _))
      (pss_one (ps_ret (pe_cmpR op_isN (pv 0) pe_non (nomark _))))
      pss_nil)
      (pss_cons (ps_if (pt_cmpR op_isT (pv 1) pe_bl (nomark _))
      (pss_one (ps_ret (pe_cmpR op_isT (pv 0) pe_bl (nomark _))))
      pss_nil)
      (pss_cons (ps_if (pt_cmpR op_isT (pv 1) pe_bl (nomark _))
      (pss_one (ps_ret (pe_cmpR op_isT (pv 0) pe_bl (nomark _))))
      pss_nil)
      (pss_cons (ps_if (pt_val (pe_callB cr_is5 (by rfl) T.isinstance (by decide +kernel) (pa_cons (pv 1) (pa_cons (pe_bltn (v := .ty "int") (by rfl) T.int (by decide +kernel) rfl) pa_nil))))
      (pss_one (ps_ret (pe_and (pe_callB cr_is5 (by rfl) T.isinstance (by decide +kernel) (pa_cons (pv 0) (pa_cons (pe_bltn (v := .ty "int") (by rfl) T.int (by decide +kernel) rfl) pa_nil))) (pe_and (pe_not (pe_callB cr_is5 (by rfl) T.isinstance (by decide +kernel) (pa_cons (pv 0) (pa_cons (pe_bltn (v := .ty "bool") (by rfl) T.bool (by decide +kernel) rfl) pa_nil)))) (pe_one (pe_cmpR op_eq (pv 0) (pv 1) (nomark _)))))))
      pss_nil)
      (pss_cons (ps_if (pt_val (pe_callB cr_is5 (by rfl) T.isinstance (by decide +kernel) (pa_cons (pv 1) (pa_cons (pe_bltn (v := .ty "str") (by rfl) T.str (by decide +kernel) rfl) pa_nil))))
      (pss_one (ps_ret (pe_and (pe_callB cr_is5 (by rfl) T.isinstance (by decide +kernel) (pa_cons (pv 0) (pa_cons (pe_bltn (v := .ty "str") (by rfl) T.str (by decide +kernel) rfl) pa_nil))) (pe_one (pe_cmpR op_eq (pv 0) (pv 1) (nomark _))))))
      pss_nil)
      (pss_cons (ps_if (PW.pt (pw_and (pt_val (pe_callB cr_is5 (by rfl) T.isinstance (by decide +kernel) (pa_cons (pv 1) (pa_cons (pe_bltn (v := .ty "list") (by rfl) T.list (by decide +kernel) rfl) pa_nil)))) (pw_and1 (pt_not (pt_val (pe_callB cr_is5 (by rfl) T.isinstance (by decide +kernel) (pa_cons (pv 0) (pa_cons (pe_bltn (v := .ty "list") (by rfl) T.list (by decide +kernel) rfl) pa_nil))))))))
      (pss_one (ps_ret pe_bl))
      pss_nil)
      (pss_cons (ps_if (PW.pt (pw_and (pt_val (pe_callB cr_is5 (by rfl) T.isinstance (by decide +kernel) (pa_cons (pv 1) (pa_cons (pe_bltn (v := .ty "tuple") (by rfl) T.tuple (by decide +kernel) rfl) pa_nil)))) (pw_and1 (pt_not (pt_val (pe_callB cr_is5 (by rfl) T.isinstance (by decide +kernel) (pa_cons (pv 0) (pa_cons (pe_bltn (v := .ty "tuple") (by rfl) T.tuple (by decide +kernel) rfl) pa_nil))))))))
      (pss_one (ps_ret pe_bl))
      pss_nil)
      (pss_cons (ps_if (pt_cmpR op_neI (pe_callB call_len_seq (by rfl) T.len (by decide +kernel) (pa_cons (pv 0) pa_nil)) (pe_callB call_len_seq (by rfl) T.len (by decide +kernel) (pa_cons (pv 1) pa_nil)) (nomark _))
      (pss_one (ps_ret pe_bl))
      pss_nil)
      (pss_cons (ps_never)
      (pss_one (ps_ret pe_bl))))))))))), ?_⟩
      walk_at "rd"
      cases x with
      | non => walk_at "i6"; exact q
      | bl b =>
        cases b with
        | true => walk_at "i6"; exact q
        | false => walk_at "i6"; exact q
      | int i =>
        walk_at "i6"
        repeat (walk_at "i5"; walk_at "i6")
        exact eqS_of rfl q
      | str z =>
        walk_at "i6"
        repeat (walk_at "i5"; walk_at "i6")
        exact eqS_of rfl q
      | _ => cases hf
  | succ n ih =>
    refine F.ok scSame (fun vs H Q E h => ?_) (fun cdv A outer s H vs Q E hr h => ?_)
    · obtain ⟨x, y, rfl, _⟩ := h
      rfl
    · obtain ⟨x, y, rfl, hs, q⟩ := h
      refine ⟨_, (pss_cons (ps_if (pt_cmpR op_isN (pv 1) pe_non (nomark _))
      (pss_one (ps_ret (pe_cmpR op_isN (pv 0) pe_non (nomark _))))
      pss_nil)
      (pss_cons (ps_if (pt_cmpR op_isT (pv 1) pe_bl (nomark _))
      (pss_one (ps_ret (pe_cmpR op_isT (pv 0) pe_bl (nomark _))))
      pss_nil)
      (pss_cons (ps_if (pt_cmpR op_isT (pv 1) pe_bl (nomark _))
      (pss_one (ps_ret (pe_cmpR op_isT (pv 0) pe_bl (nomark _))))
      pss_nil)
      (pss_cons (ps_if (pt_val (pe_callB cr_is5 (by rfl) T.isinstance (by decide +kernel) (pa_cons (pv 1) (pa_cons (pe_bltn (v := .ty "int") (by rfl) T.int (by decide +kernel) rfl) pa_nil))))
      (pss_one (ps_ret (pe_and (pe_callB cr_is5 (by rfl) T.isinstance (by decide +kernel) (pa_cons (pv 0) (pa_cons (pe_bltn (v := .ty "int") (by rfl) T.int (by decide +kernel) rfl) pa_nil))) (pe_and (pe_not (pe_callB cr_is5 (by rfl) T.isinstance (by decide +kernel) (pa_cons (pv 0) (pa_cons (pe_bltn (v := .ty "bool") (by rfl) T.bool (by decide +kernel) rfl) pa_nil)))) (pe_one (pe_cmpR op_eq (pv 0) (pv 1) (nomark _)))))))
      pss_nil)
      (pss_cons (ps_if (pt_val (pe_callB cr_is5 (by rfl) T.isinstance (by decide +kernel) (pa_cons (pv 1) (pa_cons (pe_bltn (v := .ty "str") (by rfl) T.str (by decide +kernel) rfl) pa_nil))))
      (pss_one (ps_ret (pe_and (pe_callB cr_is5 (by rfl) T.isinstance (by decide +kernel) (pa_cons (pv 0) (pa_cons (pe_bltn (v := .ty "str") (by rfl) T.str (by decide +kernel) rfl) pa_nil))) (pe_one (pe_cmpR op_eq (pv 0) (pv 1) (nomark _))))))
      pss_nil)
      (pss_cons (ps_if (PW.pt (pw_and (pt_val (pe_callB cr_is5 (by rfl) T.isinstance (by decide +kernel) (pa_cons (pv 1) (pa_cons (pe_bltn (v := .ty "list") (by rfl) T.list (by decide +kernel) rfl) pa_nil)))) (pw_and1 (pt_not (pt_val (pe_callB cr_is5 (by rfl) T.isinstance (by decide +kernel) (pa_cons (pv 0) (pa_cons (pe_bltn (v := .ty "list") (by rfl) T.list (by decide +kernel) rfl) pa_nil))))))))
      (pss_one (ps_ret pe_bl))
      pss_nil)
      (pss_cons (ps_if (PW.pt (pw_and (pt_val (pe_callB cr_is5 (by rfl) T.isinstance (by decide +kernel) (pa_cons (pv 1) (pa_cons (pe_bltn (v := .ty "tuple") (by rfl) T.tuple (by decide +kernel) rfl) pa_nil)))) (pw_and1 (pt_not (pt_val (pe_callB cr_is5 (by rfl) T.isinstance (by decide +kernel) (pa_cons (pv 0) (pa_cons (pe_bltn (v := .ty "tuple") (by rfl) T.tuple (by decide +kernel) rfl) pa_nil))))))))
      (pss_one (ps_ret pe_bl))
      pss_nil)
      (pss_cons (ps_if (pt_cmpR op_neI (pe_callB call_len_seq (by rfl) T.len (by decide +kernel) (pa_cons (pv 0) pa_nil)) (pe_callB call_len_seq (by rfl) T.len (by decide +kernel) (pa_cons (pv 1) pa_nil)) (nomark _))
      (pss_one (ps_ret pe_bl))
      pss_nil)
      (pss_cons (ps_for PassesOwn.never rfl (pi_range1 (by rfl) T.range (pa_cons (pe_callB call_len_seq (by rfl) T.len (by decide +kernel) (pa_cons (pv 1) pa_nil)) pa_nil)) (pg_name (i := 2) scSame.nd rfl (Or.inl rfl))
      (pss_one (ps_if (pt_not (pt_val (pe_call ih hr (by rfl) hmg F.kp bd .nil pass0 (pa_cons (pe_ix ix_seq (pv 0) (pv 2) (fun _ _ => rfl)) (pa_cons (pe_ix ix_seq (pv 1) (pv 2) (fun _ _ => rfl)) pa_nil)))))
        (pss_one (ps_ret pe_bl))
        pss_nil)))
      (pss_one (ps_ret pe_bl))))))))))), ?_⟩
      walk_at "rd"
      rcases hs with ⟨rfl, hf⟩ | ⟨a, b, xs, ys, rfl, rfl, hk, pr, hl⟩
      · skip
        cases x with
        | non => walk_at "i6"; exact q
        | bl b =>
          cases b with
          | true => walk_at "i6"; exact q
          | false => walk_at "i6"; exact q
        | int i =>
          walk_at "i6"
          repeat (walk_at "i5"; walk_at "i6")
          exact eqS_of rfl q
        | str z =>
          walk_at "i6"
          repeat (walk_at "i5"; walk_at "i6")
          exact eqS_of rfl q
        | _ => cases hf
      · have el : xs.length = ys.length := pr.length
        have hx : SqL K H a xs ∨ SqT K H a xs := by
          rcases hk with ⟨ha, _⟩ | ⟨ha, _⟩
          · exact .inl (SqL.of ha)
          · exact .inr (SqT.of ha)
        have hy : SqL K H b ys ∨ SqT K H b ys := by
          rcases hk with ⟨_, ha⟩ | ⟨_, ha⟩
          · exact .inl (SqL.of ha)
          · exact .inr (SqT.of ha)
        have ix : ∀ {zs : List V} {k : Nat} {p : Addr} {v : V} {Q : VK}, (SqL K H p zs ∨ SqT K H p zs) → zs[k]? = some v → Q v H → rIx K (.ref p) (.int k) H Q := fun hz hv hq => by
          rcases hz with hz | hz
          · exact .inl ⟨_, _, _, _, rfl, rfl, hz, atI_nat hv, hq⟩
          · exact .inr (.inl ⟨_, _, _, _, rfl, rfl, hz, atI_nat hv, hq⟩)
        rcases hk with ⟨ha, hb⟩ | ⟨ha, hb⟩
        all_goals
          walk_at "i6"
          repeat (walk_at "i5"; walk_at "i6")
          refine ⟨_, rfl, _, hx, _, rfl, _, hy, ?_⟩
          rw [el, decide_eq_true rfl]
          refine iteF ?_
          obtain ⟨Pv, hPv⟩ : ∃ Pv : Nat → L2.St → Hp → Prop, Pv = (fun i σ H' => ∃ v : Option V, σ = [some (.ref a), some (.ref b), v] ∧ H' = H) := ⟨_, rfl⟩
          refine ⟨_, rfl, b, rfl, ys, hy, ys.length, rfl, by omega, by omega, for_range (lo := 0) (n := ((ys.length : Nat) : Int).toNat) Pv (by rw [hPv]; exact ⟨none, rfl, rfl⟩) ?_ ?_⟩
          · rintro i σ H' hi pv
            have nxt : ∀ v, Pv (i + 1) [some (.ref a), some (.ref b), v] H := fun v => by
              rw [hPv]
              exact ⟨v, rfl, rfl⟩
            rw [hPv] at pv
            obtain ⟨v, rfl, rfl⟩ := pv
            obtain ⟨x1, y1, g1, g2, sm⟩ := paired_get (i := i) pr (by omega)
            walk_at "rd"
            rw [Int.zero_add]
            refine ix hx g1 (ix hy g2 ⟨_, _, rfl, sm, ?_⟩)
            exact ⟨true, rfl, iteF (nxt _)⟩
          · rintro σ H' pv
            rw [hPv] at pv
            obtain ⟨v, rfl, rfl⟩ := pv
            walk_at "rd"
            exact q
end

/-! ### a set of tuples of ints, whatever their number (the table's masks: 7, 31, 127) -/
structure PsR (P : Program) (w : World) (h : Heap) (a : Addr) (L : List (Addr × List Int)) (es : Array (Int × Value)) (ep : Nat) (t : SetTable) : Prop where
  obj : ∃ o, h.get? a = some o ∧ o.ExactSet ∧ o.data = .set es ep t
  rw_ : es.toList = rowsOf P w L
  tb : TabOk t (L.map fun p => thash P w p.2)
  nod : (L.map (·.2)).Nodup
  tps : ∀ p ∈ L, IsT P w h p.2 p.1
  pln : t.plain = true
  ld : w.params.followText "set-order" = true ∨ t.led = true
  rm : L.length * 5 < t.mask * 3
section
variable {P : Program} {w : World} {A : Around} {E : Value → Shared → Prop} {s : Shared}
variable {a : Addr} {L : List (Addr × List Int)} {es : Array (Int × Value)} {ep : Nat} {t : SetTable}
theorem PsR.sz (R : PsR P w s.heap a L es ep t) : es.size = L.length := by
  have e := congrArg List.length R.rw_
  rw [Array.length_toList] at e
  rw [e]
  exact List.length_map _
theorem PsR.psz (R : PsR P w s.heap a L es ep t) : t.place.size = L.length := by
  have e := R.tb.sz
  rw [List.length_map] at e
  exact e
theorem PsR.fts (R : PsR P w s.heap a L es ep t) : t.fits es.size = true := by
  have e1 := R.psz
  have e2 := R.sz
  have e3 := R.rm
  have e4 : t.fill = t.place.size := by
    show t.place.size + t.dummies.size = t.place.size
    rw [R.tb.dm]
    rfl
  show (t.place.size == es.size && decide (t.fill ≤ t.mask)) = true
  rw [e4, e1, e2, beq_self_eq_true, Bool.true_and, decide_eq_true_eq]
  omega
theorem PsR.ent (R : PsR P w s.heap a L es ep t) {i : Nat} {p : Addr × List Int} (g : L[i]? = some p) : es[i]? = some (thash P w p.2, Value.ref p.1) := by
  have e : (rowsOf P w L)[i]? = some (thash P w p.2, Value.ref p.1) := by
    show (L.map _)[i]? = _
    rw [List.getElem?_map, g]
    rfl
  rw [← R.rw_, Array.getElem?_toList] at e
  exact e
theorem PsR.odd (R : PsR P w s.heap a L es ep t) : ¬ t.gaveWay = true := fun z => by
  have m := mask_odd R.tb.mok
  have z2 : (t.mask % 2 == 0) = true := z
  rw [m] at z2
  cases z2
/-- the c-th state of the search for the tuple k -/
abbrev stAt (P : Program) (w : World) (t : SetTable) (k : List Int) (c : Nat) : SetTable.Probe := nth t.mask (t.probeStart (thash P w k)) c
abbrev slAt (P : Program) (w : World) (t : SetTable) (k : List Int) (c : Nat) : Nat := (stAt P w t k c).j
theorem stAt_dm (k : List Int) (c : Nat) : (stAt P w t k c).dummy = none := by
  have all : ∀ (n : Nat) (p : SetTable.Probe), p.dummy = none → (nth t.mask p n).dummy = none := by
    intro n
    induction n with
    | zero => exact fun _ e => e
    | succ n ih =>
      intro p e
      show (nth t.mask (adv t.mask p) n).dummy = none
      exact ih _ (by rw [← adv_eq, advance_dummy]; exact e)
  exact all c _ rfl
theorem stAt_add (k : List Int) (c q : Nat) : nth t.mask (stAt P w t k c) q = stAt P w t k (c + q) := (nth_add t.mask c _ q).symm
theorem psearch (R : PsR P w s.heap a L es ep t) {x : Addr} {k : List Int} (hx : IsT P w s.heap k x) (hu : A.units < cLine) (ad : Bool) {N : Nat} (hN : N < 10 * SetTable.turns t.mask)
    (free : slAt P w t k N ∉ t.place.toList) (full : ∀ c, c < N → slAt P w t k c ∈ t.place.toList) {Q : SetFound → Shared → Prop}
    (yes : ∀ i, k ∈ L.map (·.2) → Q (.there (if ad then none else some i)) s) (no : k ∉ L.map (·.2) → Q (.free (slAt P w t k N) false) s) :
    ∀ (f c : Nat) (st : Option SetTable.Probe), st.getD (t.probeStart (thash P w k)) = stAt P w t k c → c ≤ N → N < f + c →
      (∀ (i : Nat) p, L[i]? = some p → p.2 = k → ∃ c', c ≤ c' ∧ c' < N ∧ t.place.toList[i]? = some (slAt P w t k c')) →
      wpAny (model P w) A (setSearchFrom a (.ref x) (thash P w k) ad f st) Q E s := by
  intro f
  induction f with
  | zero => intro c st _ h1 h2 _; omega
  | succ f ih =>
    intro c st est hc hf ahead
    obtain ⟨o, ho, hex, hd⟩ := R.obj
    rw [setSearchFrom_succ]
    refine wpAny_bind (wpAny_setState_of ho hd R.fts ?_)
    dsimp only
    refine wp_if_neg R.odd ?_
    try refine wpAny_bind (wpAny_pure ?_)
    have hashes : ∀ (i : Nat) p, L[i]? = some p → (es[i]?.map (·.1)).getD 0 = thash P w p.2 := fun i p g => by
      rw [R.ent g]
      rfl
    have spec := go_spec t R.tb.ris R.tb.dm (fun i => (es[i]?.map (·.1)).getD 0) (thash P w k) (10 * SetTable.turns t.mask) (N - c) (stAt P w t k c) (stAt_dm k c) (by omega)
      (fun q hq => by rw [stAt_add]; exact full (c + q) (by omega)) (by rw [stAt_add, Nat.add_sub_cancel' hc]; exact free)
    rw [est]
    simp only [stAt_add] at spec
    rcases spec with ⟨q, i, hq, hi, _, early, pr⟩ | ⟨early, pr⟩
    · -- an entry of this hash stands there
      have pr2 : t.probe (fun i => (es[i]?.map (·.1)).getD 0) (thash P w k) (stAt P w t k c) = _ := pr
      rw [pr2]
      dsimp only
      have il : i < L.length := by
        have e := (List.getElem?_eq_some_iff.mp hi).1
        rw [Array.length_toList, R.psz] at e
        exact e
      obtain ⟨p, gp⟩ : ∃ p, L[i]? = some p := ⟨_, List.getElem?_eq_getElem il⟩
      have mp : p ∈ L := List.mem_of_getElem? gp
      have live : t.slot (slAt P w t k (c + q)) = .live i := slot_live R.tb.ris hi
      have go : wpAny (model P w) A (searchRest a (.ref x) (thash P w k) ad f es t (slAt P w t k (c + q)) i (stAt P w t k (c + (q + 1)))) Q E s := by
        unfold searchRest
        rw [R.ent gp]
        dsimp only
        refine wpAny_bind (wpAny_holding (wpAny_eqBool_tuple hu (R.tps p mp) hx ?_))
        refine wpAny_bind (wpAny_setState_of ho hd R.fts ?_)
        dsimp only
        have later : p.2 ≠ k → wpAny (model P w) A (setSearchFrom a (.ref x) (thash P w k) ad f (some (stAt P w t k (c + (q + 1))))) Q E s := fun ne => by
          refine ih (c + (q + 1)) _ rfl (by omega) (by omega) fun i2 p2 g2 e2 => ?_
          obtain ⟨c2, b1, b2, b3⟩ := ahead i2 p2 g2 e2
          refine ⟨c2, ?_, b2, b3⟩
          refine Classical.byContradiction fun lt => ?_
          by_cases hc2 : c2 < c + q
          · refine early (c2 - c) i2 (by omega) (by rw [Nat.add_sub_cancel' b1]; exact b3) ?_
            rw [hashes i2 p2 g2, e2]
          · have e3 : c2 = c + q := by omega
            rw [e3] at b3
            have l2 := slot_live R.tb.ris b3
            rw [live] at l2
            injection l2 with l2
            rw [← l2, gp] at g2
            rw [Option.some.inj g2] at ne
            exact ne e2
        by_cases hk : p.2 = k
        · have mk : k ∈ L.map (·.2) := List.mem_map.mpr ⟨p, mp, hk⟩
          cases ad with
          | true =>
            refine wp_if_pos (by simp [hk]) ?_
            exact wpAny_pure (yes i mk)
          | false =>
            refine wp_if_neg (by simp) ?_
            try refine wpAny_bind (wpAny_pure ?_)
            rw [sameMem]
            dsimp only
            simp only [if_true, live, R.ent gp]
            refine wpAny_bind (wpAny_isSame_ref_self (wpAny_bind (wpAny_pure ?_)))
            rw [if_pos rfl]
            dsimp only
            rw [if_pos (decide_eq_true hk)]
            exact wpAny_pure (yes i mk)
        · refine wp_if_neg (by simp [hk]) ?_
          try refine wpAny_bind (wpAny_pure ?_)
          rw [sameMem]
          dsimp only
          simp only [if_true, live, R.ent gp]
          refine wpAny_bind (wpAny_isSame_ref_self (wpAny_bind (wpAny_pure ?_)))
          rw [if_pos rfl]
          dsimp only
          rw [if_neg (by rw [decide_eq_true_eq]; exact hk)]
          exact later hk
      by_cases hl : t.led = true
      · refine wp_if_neg (by rw [hl]; decide) ?_
        try refine wpAny_bind (wpAny_pure ?_)
        exact go
      · refine wp_if_pos (by simp [hl]) ?_
        refine wpAny_bind (seen_tup hx (fun y hy => ?_) ?_)
        · obtain ⟨e, he, rfl⟩ := List.mem_map.mp hy
          have he2 : e ∈ es.toList := by
            have := (Array.mem_filter.mp (Array.mem_toList_iff.mp he)).1
            exact Array.mem_toList_iff.mpr this
          rw [R.rw_] at he2
          obtain ⟨p2, m2, rfl⟩ := List.mem_map.mp he2
          exact ⟨p2.2, p2.1, rfl, R.tps p2 m2⟩
        · refine wp_if_neg Bool.false_ne_true ?_
          try refine wpAny_bind (wpAny_pure ?_)
          exact go
    · -- the empty slot
      have pr2 : t.probe (fun i => (es[i]?.map (·.1)).getD 0) (thash P w k) (stAt P w t k c) = _ := pr
      rw [pr2, Nat.add_sub_cancel' hc]
      dsimp only
      refine wpAny_pure (no fun hm => ?_)
      obtain ⟨p, mp, e⟩ := List.mem_map.mp hm
      obtain ⟨i, gp⟩ := List.getElem?_of_mem mp
      obtain ⟨c2, b1, b2, b3⟩ := ahead i p gp e
      refine early (c2 - c) i (by omega) (by rw [Nat.add_sub_cancel' b1]; exact b3) ?_
      rw [hashes i p gp, e]
/-- the search as it is asked for -/
theorem psearch0 (R : PsR P w s.heap a L es ep t) {x : Addr} {k : List Int} (hx : IsT P w s.heap k x) (hu : A.units < cLine) (ad : Bool) {Q : SetFound → Shared → Prop}
    (yes : ∀ i, k ∈ L.map (·.2) → Q (.there (if ad then none else some i)) s)
    (no : ∀ N, k ∉ L.map (·.2) → slAt P w t k N ∉ t.place.toList → (∀ c, c < N → slAt P w t k c ∈ t.place.toList) → Q (.free (slAt P w t k N) false) s) :
    wpAny (model P w) A (setSearch a (.ref x) (thash P w k) ad) Q E s := by
  have few := R.rm
  obtain ⟨N, n1, n2, n3⟩ := R.tb.first (by rw [List.length_map]; omega) (thash P w k)
  have n4 : N < 100000 := by
    have e : 10 * SetTable.turns t.mask ≤ 1420 := by
      unfold SetTable.turns
      rcases R.tb.mok with e | e | e <;> omega
    omega
  unfold setSearch
  refine psearch R hx hu ad n1 n2 n3 yes (fun z => no N z n2 n3) 100000 0 none rfl (Nat.zero_le _) (by omega) fun i p gp e => ?_
  have g1 : (L.map fun p => thash P w p.2)[i]? = some (thash P w k) := by
    rw [List.getElem?_map, gp, ← e]
    rfl
  have g2 : i < t.place.toList.length := by
    rw [Array.length_toList, R.psz]
    exact (List.getElem?_eq_some_iff.mp gp).1
  obtain ⟨c, c1, c2⟩ := R.tb.before n2 g1 (List.getElem?_eq_getElem g2)
  refine ⟨c, Nat.zero_le _, c1, ?_⟩
  rw [List.getElem?_eq_getElem g2]
  exact congrArg some c2.symm
end

section
variable {P : Program} {w : World} {A : Around} {E : Value → Shared → Prop} {s : Shared}
variable {a : Addr} {L : List (Addr × List Int)} {es : Array (Int × Value)} {ep : Nat} {t : SetTable}
theorem PsR.ty (R : PsR P w s.heap a L es ep t) : s.TypeIs (.ref a) "set" := by
  obtain ⟨o, ho, hx, _⟩ := R.obj
  exact ⟨o, ho, hx.1⟩
theorem PsR.nodict (R : PsR P w s.heap a L es ep t) : ∀ b, Value.ref a = .ref b → ∃ ob, s.heap.get? b = some ob ∧ ob.dict = none := fun b e => by
  injection e with e
  subst e
  obtain ⟨o, ho, hx, _⟩ := R.obj
  exact ⟨o, ho, hx.2.1⟩
/-- who is sought among tuples -/
theorem pfind (R : PsR P w s.heap a L es ep t) {x : Addr} {k : List Int} (hx : IsT P w s.heap k x) (hu : A.units < cLine) {Q : Option Nat → Shared → Prop}
    (h : ∀ r : Option Nat, r.isSome = decide (k ∈ L.map (·.2)) → Q r s) : wpAny (model P w) A (setFind a (.ref x) (thash P w k)) Q E s := by
  obtain ⟨o, ho, hex, hd⟩ := R.obj
  show wpAny (model P w) A (setFindIn a (.ref x) (thash P w k) (99999 + 1)) Q E s
  unfold setFindIn
  refine wpAny_bind (wpAny_setState_of ho hd R.fts ?_)
  dsimp only
  refine wp_if_neg (by simp [byScan, Value.scannable]) ?_
  try refine wpAny_bind (wpAny_pure ?_)
  refine wpAny_bind (psearch0 R hx hu false (fun i m => ?_) fun N m _ _ => ?_)
  · dsimp only
    exact wpAny_pure (h (some i) (by rw [decide_eq_true m]; rfl))
  · dsimp only
    exact wpAny_pure (h none (by rw [decide_eq_false m]; rfl))
theorem pis_in (R : PsR P w s.heap a L es ep t) {x : Addr} {k : List Int} (hx : IsT P w s.heap k x) (hu : A.units + 4 < cLine) {Q : Value → Shared → Prop}
    (h : Q (.bool (decide (k ∈ L.map (·.2)))) { s with toks := s.toks + (k.length + 1) }) : wpAny (model P w) A (compareOp .In (.ref x) (.ref a)) Q E s := by
  have ty := R.ty
  have ask : wpAny (model P w) A.in1 (Builtin.«frozenset.__contains__» ⟨[.ref a, .ref x], []⟩) (fun fin s' => ∃ v, fin = .done (.ret v) ∧ wpAny (model P w) A (truthy v) (fun c s' => wpAny (model P w) A (pure (Value.bool c)) Q E s') E s') E s := by
    simp only [Builtin.«frozenset.__contains__», Builtin.Frozenset.oneOther, Builtin.Frozenset.addrOf, Builtin.Frozenset.withSetAsKey, setContains, List.isEmpty_nil, bind_assoc]
    refine wpAny_bind (wpAny_pure ?_); try dsimp only
    refine wpAny_bind (wpAny_pure ?_); try dsimp only
    refine wpAny_bind (wpAny_tryCatch (wpAny_holding (wpAny_bind (wpAny_pyHash_tuple (by show A.units + 1 < cLine; omega) hx ?_))))
    refine wpAny_bind (pfind (s := { s with toks := s.toks + (k.length + 1) }) R hx (by show A.units + 1 < cLine; omega) fun r er => wpAny_pure ?_)
    show wpAny _ _ (ret (Value.bool r.isSome)) _ _ _
    rw [er]
    exact wpAny_pure ⟨_, rfl, wpAny_truthy_bool (wpAny_pure h)⟩
  show wpAny _ _ (contains (.ref a) (.ref x) >>= fun b => pure (Value.bool b)) Q E s
  refine wpAny_bind ?_
  unfold contains
  try with_reducible refine wpAny_holding ?_
  refine wpAny_bind (wpAny_specialOf ty F.slot_set_contains.lookup ?_)
  refine wp_if_neg (by rw [beq_builtin_none]; decide) (wpAny_bind (wpAny_callSpecialUnlessNone?_slot (name := Str.ofString "__contains__") ty F.slot_set_contains (wpAny_call_entry F.slot_set_contains ty entry_set_contains ask (F.args_set_contains_2 _ _))))
end

section
variable {P : Program} {w : World} {A : Around} {E : Value → Shared → Prop} {s : Shared}
variable {a : Addr} {L : List (Addr × List Int)} {es : Array (Int × Value)} {ep : Nat} {t : SetTable}
theorem PsR.small {h : Heap} (R : PsR P w h a L es ep t) (few : L.length < 64) : SetTR P w h a L es ep t := ⟨R.obj, R.rw_, R.tb, R.nod, R.tps, R.pln, R.ld, R.rm, few⟩
theorem PsR.of {h : Heap} (R : SetTR P w h a L es ep t) : PsR P w h a L es ep t := ⟨R.ob, R.rows, R.tab, R.nd, R.tup, R.plain, R.led, R.room⟩
/-- one more tuple -/
theorem padd (R : PsR P w s.heap a L es ep t) {x : Addr} {k : List Int} (hx : IsT P w s.heap k x) (hu : A.units < cLine) (bnd : L.length + 1 ≤ 76) {Q : Bool → Shared → Prop}
    (h : ∀ b h' L' es' ep' t', Heap.SameBut a s.heap h' → PsR P w h' a L' es' ep' t' → (k ∈ L.map (·.2) → L' = L) → (k ∉ L.map (·.2) → L'.Perm ((x, k) :: L)) → Q b { s with heap := h' }) :
    wpAny (model P w) A (setAddHashed a (.ref x) (thash P w k)) Q E s := by
  by_cases few : L.length + 1 < 64
  · exact add_at (R.small (by omega)) hx hu few fun b h' L' es' ep' t' sb R' c1 c2 => h b h' L' es' ep' t' sb (PsR.of R') c1 c2
  · obtain ⟨o, ho, hex, hd⟩ := R.obj
    have m127 : t.mask = 127 := by
      have := R.rm
      rcases R.tb.mok with e | e | e <;> omega
    unfold setAddHashed
    refine wpAny_holding ?_
    show wpAny (model P w) A (setAddHashedIn a (.ref x) (thash P w k) (99999 + 1)) Q E s
    rw [setAddHashedIn_succ]
    refine wpAny_bind (wpAny_setState_of ho hd R.fts ?_)
    dsimp only
    refine wp_if_neg (by simp [byScan, Value.scannable]) ?_
    try refine wpAny_bind (wpAny_pure ?_)
    refine wpAny_bind (psearch0 R hx hu true (fun i m => ?_) fun N m n1 n2 => ?_)
    · dsimp only
      exact wpAny_pure (h false s.heap L es ep t (Heap.SameBut.refl a s.heap) R (fun _ => rfl) fun z => absurd m z)
    · dsimp only
      refine wpAny_bind (wpAny_setState_of ho hd R.fts ?_)
      dsimp only
      obtain ⟨q1, q2, q3, q4, q5, q6, q7, q8, q9⟩ := R.tb.put n1 n2
      have e0 : way t.mask (thash P w k) N = slAt P w t k N := rfl
      rw [e0] at q1 q2 q3 q4 q5 q6 q7 q8 q9
      generalize slAt P w t k N = sl at q1 q2 q3 q4 q5 q6 q7 q8 q9 ⊢
      rw [q1]
      generalize (t.put sl).1 = t1 at q3 q4 q5 q6 q7 q8 q9 ⊢
      generalize SetTable.below t.place sl = b at q2 q3 ⊢
      have plain1 : t1.plain = true := by rw [q6]; exact R.pln
      refine wp_if_pos plain1 (wpAny_bind (hashBy_tup hx ?_))
      simp only [if_true, Bool.not_false, Bool.true_and]
      have pm : (L.take b ++ (x, k) :: L.drop b).Perm ((x, k) :: L) := put_perm L b (x, k)
      have rows : (SetTable.insertAt es b (thash P w k, Value.ref x)).toList = rowsOf P w (L.take b ++ (x, k) :: L.drop b) := by
        rw [rows_put, ← R.rw_]
        exact SetTable.toList_insertAt _ _ _
      have tabs : TabOk t1 ((L.take b ++ (x, k) :: L.drop b).map fun p => thash P w p.2) := by
        rw [List.map_append, List.map_cons, List.map_take, List.map_drop]
        exact q3
      generalize SetTable.insertAt es b (thash P w k, Value.ref x) = es1 at rows ⊢
      generalize L.take b ++ (x, k) :: L.drop b = L1 at pm rows tabs
      have len1 : L1.length = L.length + 1 := pm.length_eq
      have size1 : es1.size = L.length + 1 := by
        have e := congrArg List.length rows
        rw [Array.length_toList] at e
        rw [e, ← len1]
        exact List.length_map _
      have notFull : ¬ t1.tooFull = true := fun z => by
        have z2 : decide (t1.fill * 5 ≥ t1.mask * 3) = true := z
        rw [decide_eq_true_eq, q9, List.length_map, q4, m127] at z2
        omega
      refine wpAny_bind (wpAny_storeSet_of ho hd ?_ (by rw [size1, sizeLine_eq]; omega))
      refine wp_if_neg notFull ?_
      have sb : Heap.SameBut a s.heap (s.heap.update a (Obj.putSet es1 t1)) := Heap.SameBut.update ..
      refine wpAny_pure (h true _ L1 es1 (ep + 1) t1 sb ⟨⟨_, store_at ho hd, ⟨hex.1, hex.2.1, hex.2.2⟩, rfl⟩, rows, tabs, ?_, fun p hp => ?_, plain1, by rw [q5]; exact R.ld, by rw [len1, q4, m127]; omega⟩ (fun z => absurd z m) fun _ => pm)
      · refine (pm.map (·.2)).nodup_iff.mpr ?_
        rw [List.map_cons]
        exact List.nodup_cons.mpr ⟨m, R.nod⟩
      · rcases List.mem_cons.mp (pm.mem_iff.mp hp) with e | hp2
        · rw [e]
          exact isT_same hx ho hd sb
        · exact isT_same (R.tps p hp2) ho hd sb
end

/-! ### as rules of the layer: a set of pairs of ints -/
theorem perm_map {α β : Type} {f : α → β} {l m : List β} (h : l.Perm m) : ∀ L : List α, m = L.map f → ∃ L' : List α, List.Perm L' L ∧ l = List.map f L' := by
  induction h with
  | nil => intro L e; exact ⟨[], by rw [List.map_eq_nil_iff.mp e.symm], rfl⟩
  | cons x _ ih =>
    intro L e
    cases L with
    | nil => cases e
    | cons y L =>
      obtain ⟨e1, e2⟩ := List.cons.inj e
      obtain ⟨L', p, e3⟩ := ih L e2
      exact ⟨y :: L', p.cons y, by rw [List.map_cons, e1, e3]⟩
  | swap x y l =>
    intro L e
    match L, e with
    | y' :: x' :: L, e =>
      obtain ⟨e1, e2⟩ := List.cons.inj e
      obtain ⟨e3, e4⟩ := List.cons.inj e2
      exact ⟨x' :: y' :: L, List.Perm.swap y' x' L, by rw [List.map_cons, List.map_cons, ← e1, ← e3, ← e4]⟩
  | trans _ _ ih1 ih2 =>
    intro L e
    obtain ⟨L1, p1, e1⟩ := ih2 L e
    obtain ⟨L2, p2, e2⟩ := ih1 L1 e1
    exact ⟨L2, p2.trans p1, e2⟩
def pr2 : List Int → Pr
  | [x, y] => (x, y)
  | _ => (0, 0)
section
variable {P : Program} {w : World} {A : Around} {E : Value → Shared → Prop} {s : Shared}
variable {a : Addr} {L : List (Addr × List Int)} {es : Array (Int × Value)} {ep : Nat} {t : SetTable}
theorem IsT.pair {h : Heap} {b : Addr} {x y : Int} (q : IsT P w h [x, y] b) : Srt.IsPair h (.ref b) x y := by
  obtain ⟨o, items, n, ho, hc, hd, hi⟩ := q
  obtain ⟨its⟩ := items
  cases hi with
  | cons h1 h2 =>
    cases h2 with
    | cons h3 h4 =>
      cases h4
      obtain ⟨t1, rfl⟩ := Value.isInt_shape h1
      obtain ⟨t2, rfl⟩ := Value.isInt_shape h3
      exact ⟨b, o, t1, t2, n, rfl, ho, hc, hd⟩
/-- the pair that stands at a value -/
def kL (L : List (Addr × List Int)) (v : Value) : Pr := match v with
  | .ref b => pr2 ((L.lookup b).getD [])
  | _ => (0, 0)
theorem kL_of {h : Heap} (tps : ∀ p ∈ L, IsT P w h p.2 p.1) {q : Addr × List Int} (m : q ∈ L) : kL L (.ref q.1) = pr2 q.2 := by
  have key : ∀ L : List (Addr × List Int), (∀ p ∈ L, IsT P w h p.2 p.1) → q ∈ L → L.lookup q.1 = some q.2 := by
    intro L
    induction L with
    | nil => intro _ z; cases z
    | cons p L ih =>
      intro tps m
      obtain ⟨b, k⟩ := p
      by_cases e : q.1 = b
      · have t1 := tps _ m
        have t2 := tps (b, k) List.mem_cons_self
        rw [e] at t1
        have e2 : q.2 = k := t1.inj t2
        rw [List.lookup_cons, e, beq_self_eq_true, e2]
      · have m2 : q ∈ L := by
          rcases List.mem_cons.mp m with z | z
          · rw [z] at e
            exact absurd rfl e
          · exact z
        rw [List.lookup_cons, beq_eq_false_iff_ne.mpr e]
        exact ih (fun p hp => tps p (List.mem_cons_of_mem _ hp)) m2
  show pr2 ((L.lookup q.1).getD []) = _
  rw [key L tps m]
  rfl
/-- sorted(set) -/
theorem psorted (R : PsR P w s.heap a L es ep t) (hh : A.handled = none) (two : ∀ p ∈ L, ∃ x y, p.2 = [x, y]) (few : L.length ≤ 1000) {Q : Value → Shared → Prop}
    (h : ∀ s' p c (L' : List (Addr × List Int)), (∀ b o, s.heap.get? b = some o → s'.heap.get? b = some o) → s'.gens = s.gens → s'.os = s.os → s.heap.objs.size ≤ p → s'.heap.get? p = some (seqObj "list" (L'.map fun q => Value.ref q.1).toArray c) → L'.Perm L →
      L'.Pairwise (fun q r => ¬ lt2 (pr2 r.2) (pr2 q.2)) → Q (.ref p) s') : wpAny (model P w) A (call (.builtin "sorted") [.ref a]) Q E s := by
  obtain ⟨o, ho, hex, hd⟩ := R.obj
  have sz := R.sz
  refine Calls.call_function_entry kind_sorted plain_sorted entry_sorted (args_sorted1 _) ?_
  unfold Builtin.«sorted»; refine wpAny_bind (m := checkCount "sorted" 1 1 _) (wpAny_pure ?_)
  refine wpAny_bind (collect_set (A := A.in1) hh ⟨o, ho, hex.1, hd⟩ R.fts (by rw [sz]; unfold scanBound; omega) R.tb.ris R.ld fun s1 vs keep grow g1 o1 pm => ?_)
  have e1 : es.toList.map (·.2) = L.map fun q => Value.ref q.1 := by
    rw [R.rw_]
    show List.map _ (L.map _) = _
    rw [List.map_map]
    rfl
  rw [e1] at pm
  have lv : vs.length ≤ sizeLine := by
    rw [pm.length_eq, List.length_map, sizeLine_eq]
    omega
  refine wpAny_bind (wpAny_newList ?_ lv)
  have new : (s1.heap.push (seqObj "list" vs.toArray 0)).get? s1.heap.objs.size = some (seqObj "list" vs.toArray 0) := Heap.get?_push_size _ rfl
  have pairs : ∀ v ∈ vs, Srt.IsPair (s1.heap.push (seqObj "list" vs.toArray 0)) v (kL L v).1 (kL L v).2 := fun v hv => by
    obtain ⟨q, hq, rfl⟩ := List.mem_map.mp (pm.mem_iff.mp hv)
    rw [kL_of R.tps hq]
    obtain ⟨x, y, e2⟩ := two q hq
    have t1 := R.tps q hq
    rw [e2] at t1 ⊢
    exact Srt.IsPair.keeps (IsT.pair t1) fun b u e _ => Heap.get?_push_of_some _ (keep b u e)
  refine wpAny_bind (wpAny_holding (wpAny_call_entry slot_list_sort ⟨_, new, rfl⟩ entry_list_sort (SrtO.list_sort_ord (s := { s1 with heap := s1.heap.push (seqObj "list" vs.toArray 0) }) (SrtO.swo_lex (kL L)) new lv (fun h2 => SrtO.pairs_sortableO (by omega) pairs fun o e c => ?_) fun out so st => ⟨_, rfl, ?_⟩) (args_list_sort _)))
  · have e3 : some o = some (seqObj "list" vs.toArray 0) := e.symm.trans new
    cases e3
    exact absurd (Value.type.inj c) (by decide)
  · obtain ⟨L', p1, p2⟩ := perm_map (st.perm.trans pm) L rfl
    obtain ⟨c, hc⟩ := sortedHeap_at (vs := vs) (out := out.toArray) new
    refine wpAny_pure ⟨_, rfl, h _ s1.heap.objs.size c L' (fun b u e => ?_) g1 o1 grow ?_ p1 ?_⟩
    · have e4 := keep b u e
      have lt := Heap.lt_size e4
      show (sortedHeap (s1.heap.push (seqObj "list" vs.toArray 0)) s1.heap.objs.size vs out.toArray).get? b = some u
      rw [sortedHeap_old (Nat.ne_of_lt lt) (by rw [size_push']; exact Nat.lt_succ_of_lt lt)]
      exact Heap.get?_push_of_some _ e4
    · rw [← p2]
      exact hc
    · rw [p2] at so
      refine List.Pairwise.imp_of_mem (fun {q r} hq hr z => ?_) (List.pairwise_map.mp so)
      have z2 : SrtO.lexB (kL L (Value.ref r.1)) (kL L (Value.ref q.1)) = false := z
      rw [kL_of R.tps (p1.mem_iff.mp hq), kL_of R.tps (p1.mem_iff.mp hr)] at z2
      exact SrtO.lexB_no.mp z2
end
/-- the set at a without its tuples -/
structure Ps0 (P : Program) (w : World) (h : Heap) (a : Addr) (L : List (Addr × List Int)) : Prop where
  ex : ∃ (es : Array (Int × Value)) (ep : Nat) (t : SetTable), (∃ o, h.get? a = some o ∧ o.ExactSet ∧ o.data = .set es ep t) ∧ es.toList = rowsOf P w L ∧ TabOk t (L.map fun p => thash P w p.2) ∧ (L.map (·.2)).Nodup ∧ t.plain = true ∧ (w.params.followText "set-order" = true ∨ t.led = true) ∧ L.length * 5 < t.mask * 3
def PsO (P : Program) (w : World) (a : Addr) (L : List (Addr × List Int)) : HO := .ext fun h => Ps0 P w h a L
theorem PsR.p0 {P : Program} {w : World} {h : Heap} {a : Addr} {L : List (Addr × List Int)} {es : Array (Int × Value)} {ep : Nat} {t : SetTable} (R : PsR P w h a L es ep t) : Ps0 P w h a L := ⟨es, ep, t, R.obj, R.rw_, R.tb, R.nod, R.pln, R.ld, R.rm⟩
theorem Ps0.full {P : Program} {w : World} {h : Heap} {a : Addr} {L : List (Addr × List Int)} (R : Ps0 P w h a L) (tp : ∀ p ∈ L, IsT P w h p.2 p.1) : ∃ es ep t, PsR P w h a L es ep t := by
  obtain ⟨es, ep, t, h1, h2, h3, h4, h5, h6, h7⟩ := R.ex
  exact ⟨es, ep, t, ⟨h1, h2, h3, h4, tp, h5, h6, h7⟩⟩
theorem psO_new {P : Program} {w : World} {H : Hp} {h : Heap} {a : Addr} {L : List (Addr × List Int)} (R : Ps0 P w h a L) : ObjOk P w H h a (PsO P w a L) := by
  refine ⟨R, ?_, fun h1 h2 p k => ?_⟩
  · obtain ⟨_, _, _, ⟨o, ho, _⟩, _⟩ := R.ex
    exact ⟨o, ho⟩
  · obtain ⟨es, ep, t, ⟨o, ho, r⟩, q⟩ := Ps0.ex p
    exact ⟨es, ep, t, ⟨o, k o ho, r⟩, q⟩
section
variable {X : Cx}
theorem ps_get {pins : List (Addr × Obj)} {σ : L2.St} {H : Hp} {s : Shared} {a : Addr} {L : List (Addr × List Int)} (I : Inv X pins σ H s) (ha : H a = some (PsO X.prog X.w a L)) (tp : ∀ p ∈ L, SqT X.K H p.1 (p.2.map V.int)) : ∃ es ep t, PsR X.prog X.w s.heap a L es ep t :=
  Ps0.full (I.hok a _ ha).1 fun p hp => I.isT (tp p hp)
/-- set(), to be filled with pairs -/
def rPs0 (P : Program) (w : World) : List V → Hp → VK → Prop := fun xs H Q => xs = [] ∧ ∀ p, H p = none → Q (.ref p) (upd H p (PsO P w p []))
theorem cr_ps0 : CallR X (.type "set") (rPs0 X.prog X.w) := by
  intro pins s σ H xs us Q I r h
  obtain ⟨rfl, q⟩ := h
  cases r
  refine setR_new fun _ => ?_
  exact ⟨.ref _, upd H s.heap.objs.size (PsO X.prog X.w s.heap.objs.size []), I.laid (t' := s.toks) (fun b u e => Heap.get?_push_of_some _ e) (Nat.le_refl _) (psO_new (PsR.of (setTR_fresh (Heap.get?_push_size _ rfl))).p0), rfl, q _ (I.hok.fresh (Nat.le_refl _))⟩
/-- (a, b) in seen -/
def rPsIn (K : PySem.W.Frag) (P : Program) (w : World) : V → V → Hp → VK → Prop := fun x y H Q => ∃ b k a L, x = V.ref b ∧ y = V.ref a ∧ H a = some (PsO P w a L) ∧ (∀ p ∈ L, SqT K H p.1 (p.2.map V.int)) ∧ SqT K H b (k.map V.int) ∧ Q (.bl (decide (k ∈ L.map (·.2)))) H
theorem op_psIn (hu : X.A.units + 64 < cLine) : OpR X (compareOp .In) (rPsIn X.K X.prog X.w) := by
  intro pins s σ H x y v u Q I rx ry h
  obtain ⟨b, k, a, L, rfl, rfl, ha, tp, hb, q⟩ := h
  cases (show v = Value.ref b from rx)
  cases (show u = Value.ref a from ry)
  obtain ⟨es, ep, t, R⟩ := ps_get I ha tp
  exact pis_in R (I.isT hb) (by omega) ⟨.bl _, H, I.tok _, rfl, q⟩
/-- seen.add((a, b)) -/
def rPsAdd (K : PySem.W.Frag) (P : Program) (w : World) : V → List V → Hp → VK → Prop := fun x xs H Q => ∃ b k a L, x = V.ref a ∧ xs = [V.ref b] ∧ H a = some (PsO P w a L) ∧ (∀ p ∈ L, SqT K H p.1 (p.2.map V.int)) ∧ SqT K H b (k.map V.int) ∧ L.length + 1 ≤ 76 ∧
  ∀ L', (k ∈ L.map (·.2) → L' = L) → (k ∉ L.map (·.2) → L'.Perm ((b, k) :: L)) → Q .non (upd H a (PsO P w a L'))
theorem mt_psAdd (hu : X.A.units + 64 < cLine) : MtR X "set.add" (rPsAdd X.K X.prog X.w) := by
  intro pins s σ H x xs v us Q I rx rxs h
  obtain ⟨b, k, a, L, rfl, rfl, ha, tp, hb, bnd, q⟩ := h
  cases rx
  cases rxs with
  | cons ry rt =>
    cases rt
    cases (show _ = Value.ref b from ry)
    obtain ⟨es, ep, t, R⟩ := ps_get I ha tp
    have hx := I.isT hb
    refine wpAny_call_entry F.slot_set_add R.ty F.entry_set_add ?_ (F.args_set_add_2 _ _)
    simp only [Builtin.«set.add», Builtin.Frozenset.oneOther, Builtin.Frozenset.addrOf, setAdd, List.isEmpty_nil, bind_assoc]
    refine wpAny_bind (wpAny_pure ?_); try dsimp only
    refine wpAny_bind (wpAny_pure ?_); try dsimp only
    refine wpAny_bind (wpAny_holding (wpAny_bind (wpAny_pyHash_tuple (by show X.A.units + 1 < cLine; omega) hx ?_)))
    refine padd (s := { s with toks := s.toks + (k.length + 1) }) R hx (by show X.A.units + 1 < cLine; omega) bnd fun c h' L' es' ep' t' sb R' c1 c2 => ?_
    show wpAny _ _ (ret Value.none) _ _ _
    have he : ∃ u, h'.get? a = some u := by
      obtain ⟨o, ho, _⟩ := R'.obj
      exact ⟨o, ho⟩
    exact wpAny_pure ⟨_, rfl, .non, upd H a (PsO X.prog X.w a L'), I.write (e := a) (t' := s.toks + (k.length + 1)) (by rw [ha]; trivial) (.inl rfl) (fun b u hb hu => (sb.2 b hb).trans hu) he (psO_new R'.p0), rfl, q L' c1 c2⟩
/-- sorted(seen) -/
def rPsSort (K : PySem.W.Frag) (P : Program) (w : World) : List V → Hp → VK → Prop := fun vs H Q => ∃ a L, vs = [V.ref a] ∧ H a = some (PsO P w a L) ∧ (∀ p ∈ L, SqT K H p.1 (p.2.map V.int)) ∧ (∀ p ∈ L, ∃ x y, p.2 = [x, y]) ∧ L.length ≤ 1000 ∧
  ∀ (L' : List (Addr × List Int)) (p : Addr), L'.Perm L → (L'.map (·.2)).Nodup → L'.Pairwise (fun q r => ¬ lt2 (pr2 r.2) (pr2 q.2)) → H p = none → Q (.ref p) (upd H p (.lst (L'.map fun q => V.ref q.1)))
theorem cr_psSort (hc : X.calm = true) : CallR X (.builtin "sorted") (rPsSort X.K X.prog X.w) := by
  intro pins s σ H vs us Q I r h
  obtain ⟨a, L, rfl, ha, tp, two, few, q⟩ := h
  obtain ⟨es, ep, t, R⟩ := ps_get I ha tp
  rw [Vals.ref1 r]
  refine psorted R (I.ok.hd hc) two few fun s' p c L' keep g o hp hg pm pw => ?_
  have hn : H p = none := I.hok.fresh hp
  have ll : (L'.map fun q => V.ref q.1).length ≤ sizeLine := by
    rw [List.length_map, pm.length_eq, sizeLine_eq]
    omega
  have J : Inv X pins σ (upd H p (.lst (L'.map fun q => V.ref q.1))) { s with heap := s'.heap, gens := s'.gens, drawn := s'.drawn, toks := s'.toks } :=
    I.call (ch := []) (Un.laid keep hp hn) (I.hok.laid keep hp ⟨ll, _, c, vals_of_refs L', hg⟩) (by rw [g]; exact I.bare) (fun _ z => nomatch z)
  have e : s' = { s with heap := s'.heap, gens := s'.gens, drawn := s'.drawn, toks := s'.toks } := by
    cases s'
    cases s
    cases o
    rfl
  rw [e]
  exact ⟨.ref p, _, J, rfl, q L' p pm ((pm.map (·.2)).nodup_iff.mpr R.nod) pw hn⟩
/-- the call of the method -/
def tPsAdd (K : PySem.W.Frag) (P : Program) (w : World) (to : TE) (t : TA) : TE := fun σ H Q => to σ H fun x H1 => (∃ a L, x = V.ref a ∧ H1 a = some (PsO P w a L)) ∧ t σ H1 fun xs H2 => rPsAdd K P w x xs H2 Q
theorem ps_look {pins : List (Addr × Obj)} {σ : L2.St} {H : Hp} {s : Shared} {a : Addr} {L : List (Addr × List Int)} (I : Inv X pins σ H s) (ha : H a = some (PsO X.prog X.w a L)) : s.TypeIs (.ref a) "set" ∧ ∀ b, Value.ref a = .ref b → ∃ ob, s.heap.get? b = some ob ∧ ob.dict = none := by
  obtain ⟨_, _, _, ⟨o, ho, hx, _⟩, _⟩ := Ps0.ex (I.hok a _ ha).1
  refine ⟨⟨o, ho, hx.1⟩, fun b e => ?_⟩
  injection e with e
  subst e
  exact ⟨o, ho, hx.2.1⟩
theorem pe_psAdd {o e : Expr} {es : List Expr} {to : TE} {t : TA} {apos cpos : Pos} (hu : X.A.units + 64 < cLine) (ho : PE X o to) (ha : PA X (e :: es) t)
    (b1 : attributeBase o "add" X.env (eval o X.env) = eval o X.env := by rfl)
    (b2 : ((backTo cpos (starEach (e :: es) X.env)).all (fun x => !x.1) && (backToKw cpos (keywordEach [] X.env)).all (fun x => x.1.isSome) && decide ((e :: es).length + ([] : List Keyword).length + (if ([] : List Keyword).isEmpty then 0 else 1) < 30)) = true := by rfl)
    (b3 : (apos.endLine == cpos.line) = true := by rfl) (b4 : starEach (e :: es) X.env = (false, eval e X.env) :: starEach es X.env := by rfl) (b5 : (backTo cpos (starEach es X.env)).any (·.1) = false := by rfl) :
    PE X (.Call (.Attribute o "add" apos) (e :: es) [] cpos) (tPsAdd X.K X.prog X.w to t) := by
  refine ⟨fun pins s σ H Q I h => wpAny_Call_method_late b1 b2 b3 rfl (thn (ho.run pins s σ H _ I h) ?_)⟩
  rintro v s1 ⟨x, H1, I1, r1, ⟨a, L, rfl, hka⟩, q1⟩
  cases r1
  obtain ⟨k1, k2⟩ := ps_look I1 hka
  refine ⟨"set", "set.add", F.plainAttrs_set, F.slot_set_add, F.type_set_add, k1, k2, ?_⟩
  have run := ha.run cpos pins s1 σ H1 _ I1 q1
  rw [b4] at run ⊢
  refine Calls.callWith_builtin ?_ (Calls.evalArgs_plain (thn run ?_))
  · show (false || (backTo cpos (starEach es X.env)).any (·.1)) = false
    rw [b5]
    rfl
  · rintro us s2 ⟨vs, H2, I2, r2, q2⟩
    exact mt_psAdd hu pins s2 σ H2 (.ref a) vs (.ref a) us Q I2 rfl r2 q2
end

abbrev sHouse : Stmt := topS 8
abbrev sHinit : Stmt := inClass sHouse 2
abbrev sHcount : Stmt := inClass sHouse 3
abbrev sHdoors : Stmt := inClass sHouse 4
abbrev sHnear : Stmt := inClass sHouse 5
abbrev sHhas : Stmt := inClass sHouse 6
abbrev sRoom : Stmt := topS 9
abbrev sChk : Stmt := topS 10
/-- what the walk asks of the class House -/
structure Hs (K : PySem.W.Frag) (mg : Str → Option Value) (C : Addr) : Prop where
  cl : Cls K C
  nR : NoAttr K C "rooms"
  nD : NoAttr K C "_doors"
  nN : NoAttr K C "_near"
  mgC : mg "House" = some (.ref C)
  rd : ∃ mc u, ClX.CRead K C mc ∧ ClX.CVal K C mc "MOST_ROOMS" (.int 12) u
theorem for_enum {K : PySem.W.Frag} {a : Addr} {xs : List V} {g : TG} {tb : TS} {D : Ends} {σ : L2.St} {H : Hp} (Pv : Nat → L2.St → Hp → Prop) (h0 : Pv 0 σ H) (hl : ∀ i σ H, Pv i σ H → SqL K H a xs)
    (hs : ∀ (i : Nat) (x : V) (t : Addr) (σ : L2.St) (H : Hp), xs[i]? = some x → Pv i σ H → H t = none → g (.ref t) σ (upd H t (.tup [.int (i : Nat), x])) fun σ2 H2 => tb { D with nx := Pv (i + 1), ct := Pv (i + 1), bk := D.nx } σ2 H2) (hd : ∀ σ H, Pv xs.length σ H → D.nx σ H) :
    tFor (fun _ H R => R (Ite K a) H) g tb D σ H := by
  refine ⟨fun i m σ H => m = xs.length - i ∧ i ≤ xs.length ∧ Pv i σ H, ⟨xs.length, rfl, Nat.zero_le _, h0⟩, ?_⟩
  rintro i m σ H ⟨rfl, hi, p⟩
  have q := hl i σ H p
  by_cases lt : i < xs.length
  · refine .inr ⟨⟨xs, xs[i], q, List.getElem?_eq_getElem lt⟩, Pv (i + 1), fun σ' H' p' => ⟨xs.length - (i + 1), by omega, rfl, lt, p'⟩, ?_⟩
    rintro v H' ⟨t, x, rfl, nt, rfl, f⟩
    exact hs i x t σ H (f xs q) p nt
  · have e : i = xs.length := by omega
    subst e
    exact .inl ⟨⟨xs, q, Nat.le_refl _⟩, hd σ H p⟩
section
variable {P : Program} {w : World} {K : PySem.W.Frag} {mg : Str → Option Value} {base : Heap}
theorem scRoom : FnScope ["rooms"] ["rooms"] (defScope sRoom) := ⟨rfl, rfl, rfl, by decide +kernel, rfl, by decide +kernel, by decide +kernel⟩
def spRoom : Sp := fun vs H Q _ => ∃ r : Int, vs = [.int r] ∧ 1 ≤ r ∧ r ≤ 12 ∧ Q .non H
theorem ok_room {f C : Addr} {fd : FuncData} (F : Fun K "check_room_count" "check_room_count" sRoom f fd) (T : Hs K mg C) : FnOk P w K mg base CX0 1 f fd ["rooms"] spRoom := by
  refine F.ok scRoom (fun vs H Q E h => ?_) (fun cdv A outer s H vs Q E hr h => ?_)
  · obtain ⟨r, rfl, _⟩ := h
    rfl
  · obtain ⟨r, rfl, h1, h2, q⟩ := h
    refine ⟨_, (pss_one (ps_if (pt_not (pt_chain op_le op_le pe_int (pv 0) (ClX.pe_cval (pe_glob (v := .ref C) (by rfl) T.mgC rfl))))
      (pss_one (ps_never))
      pss_nil)), ?_⟩
    obtain ⟨mc, u, c1, c2⟩ := T.rd
    walk_at "rd"
    rw [if_pos h1]
    refine ⟨C, mc, .int 12, u, rfl, c1, c2, 12, rfl, ?_⟩
    rw [decide_eq_true h2]
    exact iteF q
theorem scChk : FnScope ["rooms", "doors", "seen", "place", "a", "b"] ["rooms", "doors"] (defScope sChk) := ⟨rfl, rfl, rfl, by decide +kernel, rfl, by decide +kernel, by decide +kernel⟩
def two (d : Pr) : List Int := [d.1, d.2]
theorem psO_ne {P : Program} {w : World} {a : Addr} {L : List (Addr × List Int)} {xs : List V} : PsO P w a L ≠ .tup xs := fun h => by
  unfold PsO at h
  cases h
theorem two_inj {d e : Pr} (h : two d = two e) : d = e := by
  unfold two at h
  obtain ⟨h1, h2⟩ := List.cons.inj h
  exact Prod.ext h1 (List.cons.inj h2).1
theorem not_taken {D : List Pr} (nd : D.Nodup) {i : Nat} {d : Pr} (g : D[i]? = some d) : d ∉ D.take i := fun z => by
  obtain ⟨j, gj⟩ := List.getElem?_of_mem z
  have lt : j < (D.take i).length := (List.getElem?_eq_some_iff.mp gj).1
  rw [List.length_take] at lt
  rw [List.getElem?_take_of_lt (by omega)] at gj
  have := nd_ix nd gj g
  omega
def spChk : Sp := fun vs H Q _ => ∃ (r : Nat) (l : Addr) (us : List V) (D : List Pr), vs = [.int r, .ref l] ∧ H l = some (.lst us) ∧ PL H us D ∧ D.Nodup ∧ (∀ d ∈ D, 0 ≤ d.1 ∧ d.1 < d.2 ∧ d.2 < r) ∧ r ≤ 12 ∧
  ∀ D' ws p H', Asc D' → (∀ d, d ∈ D' ↔ d ∈ D) → Same H H' → H p = none → H' p = some (.lst ws) → PL H' ws D' → Q (.ref p) H'
theorem ok_chk {f : Addr} {fd : FuncData} (F : Fun K "checked_doors" "checked_doors" sChk f fd) (T : Bi mg) : FnOk P w K mg base CX0 1 f fd ["rooms", "doors"] spChk := by
  refine F.ok scChk (fun vs H Q E h => ?_) (fun cdv A outer s H vs Q E hr h => ?_)
  · obtain ⟨r, l, us, D, rfl, _⟩ := h
    rfl
  · obtain ⟨r, l, us, D, rfl, hl, pl, nd, ok, hr12, q⟩ := h
    refine ⟨_, (pss_cons (ps_set (i := 2) scChk.nd rfl (Or.inl rfl) (pe_callTy0 cr_ps0 (by rfl) T.set (by decide +kernel)))
      (pss_cons (ps_for PassesOwn.never rfl (pi_enum (by rfl) T.enumerate (pa_cons (pv 1) pa_nil)) (pg_tup rfl (pgs_cons (pg_name (i := 3) scChk.nd rfl (Or.inl rfl)) (pgs_cons (pg_tup rfl (pgs_cons (pg_name (i := 4) scChk.nd rfl (Or.inl rfl)) (pgs_cons (pg_name (i := 5) scChk.nd rfl (Or.inl rfl)) pgs_nil))) pgs_nil)))
      (pss_cons (ps_if (PW.pt (pw_or (pt_not (PW.pt (pw_and (pt_chain op_le op_lt pe_int (pv 4) (pv 0)) (pw_and1 (pt_chain op_le op_lt pe_int (pv 5) (pv 0)))))) (pw_or (pt_cmpR op_eqI (pv 4) (pv 5) (nomark _)) (pw_or1 (pt_cmpR (op_psIn hr.units) (pe_tup (pa_cons (pv 4) (pa_cons (pv 5) pa_nil))) (pv 2) (by rfl))))))
        (pss_one (ps_never))
        pss_nil)
        (pss_one (ps_expr (pe_psAdd hr.units (pv 2) (pa_cons (pe_tup (pa_cons (pv 4) (pa_cons (pv 5) pa_nil))) pa_nil))))))
      (pss_one (ps_ret (pe_callB (cr_psSort rfl) (by rfl) T.sorted (by decide +kernel) (pa_cons (pv 2) pa_nil)))))), ?_⟩
    walk_at "rd"
    refine ⟨rfl, fun p np => ?_⟩
    obtain ⟨Pv, hPv⟩ : ∃ Pv : Nat → L2.St → Hp → Prop, Pv = (fun i σ H' => ∃ (L : List (Addr × List Int)) (v3 v4 v5 : Option V), σ = [some (.int r), some (.ref l), some (.ref p), v3, v4, v5] ∧ Same H H' ∧ H' p = some (PsO P w p L) ∧ (∀ q ∈ L, H' q.1 = some (.tup (q.2.map V.int))) ∧ List.Perm (L.map (·.2)) ((D.take i).map two)) := ⟨_, rfl⟩
    have hul : us.length = D.length := pl.len
    have dlen := drs_len' hr12 nd ok
    refine ⟨_, rfl, l, us, rfl, SqL.of (same_upd np l _ hl), for_enum (xs := us) Pv (by rw [hPv]; exact ⟨[], none, none, none, rfl, same_upd np, upd_same, fun q hq => (by cases hq), List.Perm.refl _⟩) (fun i σ H' pv => ?_) ?_ ?_⟩
    · rw [hPv] at pv
      obtain ⟨L, v3, v4, v5, _, sm, _⟩ := pv
      exact SqL.of (sm l _ hl)
    · rintro i v t σ H' gv pv nt
      have nxt : ∀ (L : List (Addr × List Int)) (v3 v4 v5 : Option V) (H' : Hp), Same H H' → H' p = some (PsO P w p L) → (∀ q ∈ L, H' q.1 = some (.tup (q.2.map V.int))) → List.Perm (L.map (·.2)) ((D.take (i + 1)).map two) → Pv (i + 1) [some (.int r), some (.ref l), some (.ref p), v3, v4, v5] H' := fun L v3 v4 v5 H' h1 h2 h3 h4 => by
        rw [hPv]
        exact ⟨L, v3, v4, v5, rfl, h1, h2, h3, h4⟩
      rw [hPv] at pv
      obtain ⟨L, v3, v4, v5, rfl, sm, hp, tp, pm⟩ := pv
      obtain ⟨d, gd, td, rfl, htd⟩ := pl.get gv
      have hid : i < D.length := (List.getElem?_eq_some_iff.mp gd).1
      have md : d ∈ D := List.mem_of_getElem? gd
      have okd := ok d md
      have hl1 := sm l _ hl
      have htd1 := sm td _ htd
      have ntd : td ≠ t := ne_of_none htd1 nt
      have htd2 : upd H' t (HO.tup [V.int i, V.ref td]) td = some (.tup [.int d.1, .int d.2]) := by rw [upd_ne ntd]; exact htd1
      walk_at "rd"
      refine ⟨[.int i, .ref td], SqT.of upd_same, rfl, .int i, [.ref td], rfl, .ref td, [], rfl, td, rfl, [.int d.1, .int d.2], SqT.of htd2, rfl, .int d.1, [.int d.2], rfl, .int d.2, [], rfl, rfl, rfl, d.1, rfl, ?_⟩
      rw [if_pos okd.1]
      refine ⟨d.1, rfl, ?_⟩
      rw [if_pos (show d.1 < (r : Int) by omega)]
      refine ⟨d.2, rfl, ?_⟩
      rw [if_pos (show 0 ≤ d.2 by omega)]
      refine ⟨d.2, rfl, ?_⟩
      rw [decide_eq_true okd.2.2]
      refine iteF ?_
      refine ⟨d.1, rfl, d.2, rfl, ?_⟩
      rw [if_neg (show ¬ d.1 = d.2 by omega)]
      refine ⟨by decide, fun t1 nt1 => ?_⟩
      have ne1 : t1 ≠ p := fun e => by
        rw [e, upd_ne (show p ≠ t from ne_of_none hp nt), hp] at nt1
        cases nt1
      have s1 : Same H' (upd (upd H' t (HO.tup [V.int i, V.ref td])) t1 (HO.tup [V.int d.1, V.int d.2])) := (same_upd nt).trans (same_upd nt1)
      have out : two d ∉ L.map (·.2) := fun z => by
        obtain ⟨e, he, ee⟩ := List.mem_map.mp (pm.mem_iff.mp z)
        rw [two_inj ee] at he
        exact not_taken nd gd he
      have lenL : L.length ≤ 66 := by
        have e := pm.length_eq
        rw [List.length_map, List.length_map, List.length_take] at e
        omega
      refine ⟨t1, two d, p, L, rfl, rfl, s1 p _ hp, fun q hq => SqT.of (s1 _ _ (tp q hq)), SqT.of upd_same, ?_⟩
      rw [decide_eq_false out]
      refine ⟨false, rfl, iteF ?_⟩
      generalize upd (upd H' t (HO.tup [V.int i, V.ref td])) t1 (HO.tup [V.int d.1, V.int d.2]) = H1 at s1
      have hp1 := s1 p _ hp
      refine ⟨_, rfl, ⟨p, L, rfl, hp1⟩, _, rfl, _, rfl, (by show 2 ≤ sizeLine; decide), fun t2 nt2 => ?_⟩
      have s2 : Same H1 (upd H1 t2 (HO.tup [V.int d.1, V.int d.2])) := same_upd nt2
      have hp2 := s2 p _ hp1
      refine ⟨t2, two d, p, L, rfl, rfl, hp2, fun q hq => SqT.of (s2 _ _ (s1 _ _ (tp q hq))), SqT.of upd_same, by omega, fun L' _ c2 => ?_⟩
      have pm2 := c2 out
      have keep : ∀ b xs, upd H1 t2 (HO.tup [V.int d.1, V.int d.2]) b = some (.tup xs) → upd (upd H1 t2 (HO.tup [V.int d.1, V.int d.2])) p (PsO P w p L') b = some (.tup xs) := fun b xs e => by
        rw [upd_ne]
        · exact e
        · rintro rfl
          rw [hp2] at e
          exact psO_ne (Option.some.inj e)
      refine nxt L' _ _ _ _ (same_ch ((sm.trans s1).trans s2) np) upd_same (fun q hq => ?_) ?_
      · refine keep _ _ ?_
        rcases List.mem_cons.mp (pm2.mem_iff.mp hq) with e | hq2
        · rw [e]
          exact upd_same
        · exact s2 _ _ (s1 _ _ (tp q hq2))
      · refine (pm2.map (·.2)).trans ?_
        rw [List.map_cons, List.take_add_one, gd, List.map_append]
        exact (List.Perm.cons _ pm).trans (List.perm_append_singleton _ _).symm
    · intro σ H' pv
      rw [hPv] at pv
      obtain ⟨L, v3, v4, v5, rfl, sm, hp, tp, pm⟩ := pv
      rw [hul, List.take_length] at pm
      have shape : ∀ q ∈ L, ∃ d ∈ D, q.2 = two d := fun q hq => by
        obtain ⟨d, hd, e⟩ := List.mem_map.mp (pm.mem_iff.mp (List.mem_map.mpr ⟨q, hq, rfl⟩))
        exact ⟨d, hd, e.symm⟩
      have lenL : L.length = D.length := by
        have e := pm.length_eq
        rw [List.length_map, List.length_map] at e
        exact e
      walk_at "rd"
      refine ⟨p, L, rfl, hp, fun q hq => SqT.of (tp q hq), fun q hq => ?_, by omega, fun L' t p1 n1 w1 nt => ?_⟩
      · obtain ⟨d, _, e⟩ := shape q hq
        exact ⟨d.1, d.2, e⟩
      · have hl' : ∀ q ∈ L', pr2 q.2 ∈ D ∧ H' q.1 = some (.tup [.int (pr2 q.2).1, .int (pr2 q.2).2]) := fun q hq => by
          have hq2 := p1.mem_iff.mp hq
          obtain ⟨d, hd, e⟩ := shape q hq2
          have e2 := tp q hq2
          rw [e] at e2 ⊢
          exact ⟨hd, e2⟩
        have back : ∀ q ∈ L', two (pr2 q.2) = q.2 := fun q hq => by
          obtain ⟨d, hd, e⟩ := shape q (p1.mem_iff.mp hq)
          rw [e]
          rfl
        refine q (L'.map fun q => pr2 q.2) (L'.map fun q => V.ref q.1) t _ (asc_of ?_ ?_) (fun d => ?_) (sm.trans (same_upd nt)) (sm.free nt) upd_same ?_
        · refine List.pairwise_map.mpr (List.Pairwise.imp_of_mem (fun {x y} hx hy hne e => hne ?_) (List.pairwise_map.mp n1))
          rw [← back x hx, ← back y hy, e]
        · exact List.pairwise_map.mpr w1
        · constructor
          · intro hd
            obtain ⟨q, hq, rfl⟩ := List.mem_map.mp hd
            exact (hl' q hq).1
          · intro hd
            have m1 : two d ∈ L.map (·.2) := pm.mem_iff.mpr (List.mem_map.mpr ⟨d, hd, rfl⟩)
            obtain ⟨q, hq, e⟩ := List.mem_map.mp m1
            refine List.mem_map.mpr ⟨q, p1.mem_iff.mpr hq, ?_⟩
            rw [e]
            rfl
        · have all : ∀ M : List (Addr × List Int), (∀ q ∈ M, H' q.1 = some (.tup [.int (pr2 q.2).1, .int (pr2 q.2).2])) → PL H' (M.map fun q => V.ref q.1) (M.map fun q => pr2 q.2) := by
            intro M
            induction M with
            | nil => intro _; exact Paired.nil
            | cons q M ih => intro h; exact Paired.cons ⟨q.1, rfl, h q List.mem_cons_self⟩ (ih fun z hz => h z (List.mem_cons_of_mem _ hz))
          exact (all L' fun q hq => (hl' q hq).2).kt (KT.new nt)
end

/-! ### the house as an object -/
def hf (r : Int) (l m : Addr) : List (Str × V) := putF "_near" (.ref m) (putF "_doors" (.ref l) (putF "rooms" (.int r) []))
theorem hn1 : ¬ (("rooms" : Str) = "_doors") := by decide +kernel
theorem hn2 : ¬ (("rooms" : Str) = "_near") := by decide +kernel
theorem hn3 : ¬ (("_doors" : Str) = "_near") := by decide +kernel
theorem hf_rooms (r : Int) (l m : Addr) : (hf r l m).lookup ("rooms" : Str) = some (.int r) := by
  unfold hf
  rw [lookup_putF, if_neg hn2, lookup_putF, if_neg hn1, lookup_putF, if_pos rfl]
theorem hf_doors (r : Int) (l m : Addr) : (hf r l m).lookup ("_doors" : Str) = some (.ref l) := by
  unfold hf
  rw [lookup_putF, if_neg hn3, lookup_putF, if_pos rfl]
theorem hf_near (r : Int) (l m : Addr) : (hf r l m).lookup ("_near" : Str) = some (.ref m) := by
  unfold hf
  rw [lookup_putF, if_pos rfl]
theorem hf_no (r : Int) (l m : Addr) {x : Str} (h1 : ¬ x = "_near") (h2 : ¬ x = "_doors") (h3 : ¬ x = "rooms") : (hf r l m).lookup x = none := by
  unfold hf
  rw [lookup_putF, if_neg h1, lookup_putF, if_neg h2, lookup_putF, if_neg h3]
  rfl
/-- the neighbours of room i by the doors D, in the order in which they are met -/
def nearF (i : Int) (D : List Pr) : List Int := D.filterMap fun d => if d.1 = i then some d.2 else if d.2 = i then some d.1 else none
/-- a house with these rooms and doors stands at p -/
structure HouseAt (C : Addr) (H : Hp) (p : Addr) (r : Nat) (D : List Pr) (own : List Addr) : Prop where
  ex : ∃ (dx l m : Addr) (ls : List V) (ns : List Addr), H p = some (.ins C dx (hf r l m)) ∧ H l = some (.lst ls) ∧ PL H ls D ∧ H m = some (.lst (ns.map V.ref)) ∧ ns.length = r ∧ (∀ i n, ns[i]? = some n → H n = some (.lst ((nearF (i : Nat) D).map V.int))) ∧ own = p :: l :: m :: ns
  ok : Drs r D
  r1 : 1 ≤ r
  r12 : r ≤ 12
theorem nearF_snoc (j : Int) (D : List Pr) (d : Pr) : nearF j (D ++ [d]) = nearF j D ++ (if d.1 = j then [d.2] else if d.2 = j then [d.1] else []) := by
  unfold nearF
  rw [List.filterMap_append]
  congr 1
  show List.filterMap _ [d] = _
  rw [List.filterMap_cons]
  by_cases h1 : d.1 = j
  · simp [h1]
  · by_cases h2 : d.2 = j
    · simp [h1, h2]
    · simp [h1, h2]
def mm2 (d : Pr) : Pr := (if d.2 < d.1 then d.2 else d.1, if d.2 > d.1 then d.2 else d.1)
section
variable {P : Program} {w : World} {K : PySem.W.Frag} {mg : Str → Option Value} {base : Heap}
theorem scHinit : FnScope ["self", "rooms", "doors", "a", "b", "_"] ["self", "rooms", "doors"] (defScope sHinit) := ⟨rfl, rfl, rfl, by decide +kernel, rfl, by decide +kernel, by decide +kernel⟩
def spHinit (C : Addr) : Sp := fun vs H Q _ => ∃ (p dx l : Addr) (r : Nat) (us : List V) (D E : List Pr), vs = [.ref p, .int r, .ref l] ∧ H p = some (.ins C dx []) ∧ H l = some (.lst us) ∧ PL H us D ∧ D.map mm2 = E ∧ E.Nodup ∧ (∀ d ∈ E, 0 ≤ d.1 ∧ d.1 < d.2 ∧ d.2 < r) ∧ 1 ≤ r ∧ r ≤ 12 ∧
  ∀ D' own H', (∀ d, d ∈ D' ↔ d ∈ E) → HouseAt C H' p r D' own → (∀ b o, H b = some o → b ≠ p → H' b = some o) → (∀ b ∈ own, b ≠ p → H b = none) → Q .non H'
theorem ok_hinit {f C fR fC : Addr} {fd fdR fdC : FuncData} (F : Fun K "__init__" "House.__init__" sHinit f fd) (T : Bi mg) (U : Hs K mg C) (d_check_room_count : Df P w K mg base "check_room_count" ["rooms"] 1 spRoom fR fdR)
    (d_checked_doors : Df P w K mg base "checked_doors" ["rooms", "doors"] 1 spChk fC fdC) : FnOk P w K mg base CX0 2 f fd ["self", "rooms", "doors"] (spHinit C) := by
  refine F.ok scHinit (fun vs H Q E h => ?_) (fun cdv A outer s H vs Q E hr h => ?_)
  · obtain ⟨p, dx, l, r, us, D, E, rfl, _⟩ := h
    rfl
  · obtain ⟨p, dx, l, r, us, D, E, rfl, hp, hl, pl, eE, nd, ok, hr1, hr12, q⟩ := h
    refine ⟨_, (pss_cons (ps_expr (pe_call d_check_room_count.ok (hr.mono (by decide)) (by rfl) d_check_room_count.at_ d_check_room_count.kp d_check_room_count.b .nil pass0 (pa_cons (pv 1) pa_nil)))
      (pss_cons (ps_fld (pv 0) (pv 1) rfl)
      (pss_cons (ps_fld (pv 0) (pe_call d_checked_doors.ok (hr.mono (by decide)) (by rfl) d_checked_doors.at_ d_checked_doors.kp d_checked_doors.b .nil pass0 (pa_cons (pv 1) (pa_cons (pe_lc (own := [("a", 3), ("b", 4)]) (g := gTup K 2 (gCons (gName 3) (gCons (gName 4) gNil))) (by rfl) scHinit.nd (pi_list (pv 2)) (blkOk_by (N := ["self", "rooms", "doors", "a", "b", "_"]) (sc := defScope sHinit) (by decide +kernel)) (fun _ _ _ _ _ => pg_tup rfl (pgs_cons (pg_name (i := 3) scHinit.nd rfl (Or.inl rfl)) (pgs_cons (pg_name (i := 4) scHinit.nd rfl (Or.inl rfl)) pgs_nil))) (fun _ _ _ _ _ => pts_nil) (fun _ _ _ _ _ => (pe_tup (pa_cons (pe_callB (call_min2 rfl) (by rfl) T.min (by decide +kernel) (pa_cons (pv 3) (pa_cons (pv 4) pa_nil))) (pa_cons (pe_callB (call_max2 rfl) (by rfl) T.max (by decide +kernel) (pa_cons (pv 3) (pa_cons (pv 4) pa_nil))) pa_nil))))) pa_nil))) rfl)
      (pss_cons (ps_fld (pv 0) (pe_lc (own := [("_", 5)]) (by rfl) scHinit.nd (pi_range1 (by rfl) T.range (pa_cons (pv 1) pa_nil)) (blkOk_by (N := ["self", "rooms", "doors", "a", "b", "_"]) (sc := defScope sHinit) (by decide +kernel)) (fun _ _ _ _ _ => pg_name (i := 5) scHinit.nd rfl (Or.inl rfl)) (fun _ _ _ _ _ => pts_nil) (fun _ _ _ _ _ => (pe_lst pa_nil))) rfl)
      (pss_one (ps_for PassesOwn.never rfl (pi_list (pe_fld (pv 0) rfl)) (pg_tup rfl (pgs_cons (pg_name (i := 3) scHinit.nd rfl (Or.inl rfl)) (pgs_cons (pg_name (i := 4) scHinit.nd rfl (Or.inl rfl)) pgs_nil)))
      (pss_cons (ps_expr (pe_bm PySem.F.plainAttrs_list PySem.F.slot_list_append PySem.F.type_list_append mt_append (pe_ix ix_list (pe_fld (pv 0) rfl) (pv 3) (fun _ _ => rfl)) (pa_cons (pv 4) pa_nil)))
        (pss_one (ps_expr (pe_bm PySem.F.plainAttrs_list PySem.F.slot_list_append PySem.F.type_list_append mt_append (pe_ix ix_list (pe_fld (pv 0) rfl) (pv 4) (fun _ _ => rfl)) (pa_cons (pv 3) pa_nil))))))))))), ?_⟩
    walk_at "rd"
    refine ⟨r, rfl, by omega, by omega, ?_⟩
    have npl : l ≠ p := ne_of hl hp (by intro z; cases z)
    refine ⟨C, dx, [], hp, U.cl, U.nR, (by show 0 < 1000; decide), ?_⟩
    have hl1 : upd H p (HO.ins C dx (putF "rooms" (V.int r) [])) l = some (.lst us) := by rw [upd_ne npl]; exact hl
    have pl1 : PL (upd H p (HO.ins C dx (putF "rooms" (V.int r) []))) us D := pl.kt (KT.ch hp (fun _ z => by cases z))
    have hp1 : upd H p (HO.ins C dx (putF "rooms" (V.int r) [])) p = some (HO.ins C dx (putF "rooms" (V.int r) [])) := upd_same
    have old1 : ∀ b o, H b = some o → b ≠ p → upd H p (HO.ins C dx (putF "rooms" (V.int r) [])) b = some o := fun b o e h => by rw [upd_ne h]; exact e
    have free1 : ∀ b, upd H p (HO.ins C dx (putF "rooms" (V.int r) [])) b = none → H b = none ∧ b ≠ p := fun b e => by
      have h : b ≠ p := fun z => by
        rw [z, upd_same] at e
        cases e
      rw [upd_ne h] at e
      exact ⟨e, h⟩
    generalize upd H p (HO.ins C dx (putF "rooms" (V.int r) [])) = H1 at hl1 pl1 hp1 old1 free1
    have dlen : D.length ≤ 66 := by
      have e := drs_len' hr12 nd ok
      rw [← eE, List.length_map] at e
      exact e
    have ul : us.length = D.length := pl.len
    -- [(min(a, b), max(a, b)) for a, b in doors]
    refine ⟨_, rfl, l, rfl, ⟨_, SqL.of hl1⟩, fun c nc => ?_⟩
    obtain ⟨Pv, hPv⟩ : ∃ Pv : Nat → Hp → Prop, Pv = (fun i H' => ∃ ws, Same H1 H' ∧ H' c = some (.lst ws) ∧ PL H' ws ((D.take i).map mm2)) := ⟨_, rfl⟩
    refine lc_list (K := K) (a := l) (xs := us) Pv (by rw [hPv]; exact ⟨[], same_upd nc, upd_same, PL.nil0 _⟩) (fun i H' _ pv => by rw [hPv] at pv; obtain ⟨_, sm, _⟩ := pv; exact SqL.of (sm _ _ hl1)) (fun i v H' gv pv => ?_) (fun H' pv => ?_)
    · have nxt : ∀ ws H', Same H1 H' → H' c = some (.lst ws) → PL H' ws ((D.take (i + 1)).map mm2) → Pv (i + 1) H' := fun ws H' h1 h2 h3 => by
        rw [hPv]
        exact ⟨ws, h1, h2, h3⟩
      rw [hPv] at pv
      obtain ⟨ws, sm, hc, pw⟩ := pv
      obtain ⟨d, gd, td, rfl, htd⟩ := pl1.get gv
      have hid : i < D.length := (List.getElem?_eq_some_iff.mp gd).1
      have htd1 := sm _ _ htd
      have lw : ws.length ≤ 66 := by
        rw [pw.len, List.length_map, List.length_take]
        omega
      simp only [wipe]
      walk_at "rd"
      refine ⟨_, SqT.of htd1, rfl, _, _, rfl, _, _, rfl, rfl, ?_⟩
      walk_at "rd"
      refine ⟨(by show 2 ≤ sizeLine; decide), fun t nt => ?_⟩
      have nct : c ≠ t := ne_of_none hc nt
      refine ⟨ws, by rw [upd_ne nct]; exact hc, len_big (by omega), nxt (ws ++ [.ref t]) _ (same_ch (sm.trans (same_upd nt)) nc) upd_same ?_⟩
      rw [List.take_add_one, gd, List.map_append]
      refine PL.snoc ((pw.kt (KT.new nt)).kt (KT.lst (by rw [upd_ne nct]; exact hc))) ⟨t, rfl, ?_⟩
      rw [upd_ne nct.symm, upd_same]
      rfl
    · rw [hPv] at pv
      obtain ⟨ws, s2, hc, pw⟩ := pv
      rw [ul, List.take_length, eE] at pw
      -- checked_doors
      refine ⟨r, c, ws, E, rfl, hc, pw, nd, ok, hr12, fun D' ls q0 H2 asc mem s3 nq hq pq => ?_⟩
      have s13 : Same H1 H2 := s2.trans s3
      have hp2 := s13 _ _ hp1
      have nqp : q0 ≠ p := ne_of hq hp2 (by intro z; cases z)
      refine ⟨C, dx, _, hp2, U.cl, U.nD, (by show 1 < 1000; decide), ?_⟩
      have hq3 : upd H2 p (HO.ins C dx (putF "_doors" (V.ref q0) (putF "rooms" (V.int r) []))) q0 = some (.lst ls) := by rw [upd_ne nqp]; exact hq
      have hp3 : upd H2 p (HO.ins C dx (putF "_doors" (V.ref q0) (putF "rooms" (V.int r) []))) p = some (HO.ins C dx (putF "_doors" (V.ref q0) (putF "rooms" (V.int r) []))) := upd_same
      have pq3 : PL (upd H2 p (HO.ins C dx (putF "_doors" (V.ref q0) (putF "rooms" (V.int r) [])))) ls D' := pq.kt (KT.ch hp2 (fun _ z => by cases z))
      have old3 : ∀ b o, H b = some o → b ≠ p → upd H2 p (HO.ins C dx (putF "_doors" (V.ref q0) (putF "rooms" (V.int r) []))) b = some o := fun b o e h => by
        rw [upd_ne h]
        exact s13 _ _ (old1 b o e h)
      have free3 : ∀ b, upd H2 p (HO.ins C dx (putF "_doors" (V.ref q0) (putF "rooms" (V.int r) []))) b = none → H b = none ∧ b ≠ p := fun b e => by
        have h : b ≠ p := fun z => by
          rw [z, upd_same] at e
          cases e
        rw [upd_ne h] at e
        exact free1 b (s13.free e)
      have fq : H q0 = none := (free1 q0 (s2.free nq)).1
      generalize upd H2 p (HO.ins C dx (putF "_doors" (V.ref q0) (putF "rooms" (V.int r) []))) = H3 at hq3 hp3 pq3 old3 free3
      -- [[] for _ in range(rooms)]
      refine ⟨_, rfl, r, rfl, by omega, by omega, fun m nm => ?_⟩
      obtain ⟨Pv, hPv⟩ : ∃ Pv : Nat → Hp → Prop, Pv = (fun i H' => ∃ ns : List Addr, Same H3 H' ∧ H' m = some (.lst (ns.map V.ref)) ∧ ns.length = i ∧ ns.Nodup ∧ (∀ n ∈ ns, H' n = some (.lst []) ∧ H3 n = none ∧ n ≠ m)) := ⟨_, rfl⟩
      refine lc_range (lo := 0) (n := ((r : Nat) : Int).toNat) Pv (by rw [hPv]; exact ⟨[], same_upd nm, upd_same, rfl, List.nodup_nil, fun n hn => by cases hn⟩) (fun i H' hi pv => ?_) (fun H' pv => ?_)
      · have nxt : ∀ (ns : List Addr) H', Same H3 H' → H' m = some (.lst (ns.map V.ref)) → ns.length = i + 1 → ns.Nodup → (∀ n ∈ ns, H' n = some (.lst []) ∧ H3 n = none ∧ n ≠ m) → Pv (i + 1) H' := fun ns H' h1 h2 h3 h4 h5 => by
          rw [hPv]
          exact ⟨ns, h1, h2, h3, h4, h5⟩
        rw [hPv] at pv
        obtain ⟨ns, sm, hm, ln, nn, hn⟩ := pv
        simp only [wipe]
        walk_at "rd"
        refine ⟨by decide, fun e ne => ?_⟩
        have nem : m ≠ e := ne_of_none hm ne
        refine ⟨ns.map V.ref, by rw [upd_ne nem]; exact hm, len_big (by rw [List.length_map]; omega), nxt (ns ++ [e]) _ (same_ch (sm.trans (same_upd ne)) nm) (by rw [upd_same, List.map_append]; rfl) (by rw [List.length_append, ln]; rfl) ?_ fun n hn2 => ?_⟩
        · refine List.nodup_append.mpr ⟨nn, by simp, fun a ha b hb => ?_⟩
          rw [List.mem_singleton.mp hb]
          exact ne_of_none (hn a ha).1 ne
        · rcases List.mem_append.mp hn2 with h | h
          · obtain ⟨h1, h2, h3⟩ := hn n h
            refine ⟨?_, h2, h3⟩
            rw [upd_ne h3, upd_ne (ne_of_none h1 ne)]
            exact h1
          · rw [List.mem_singleton.mp h]
            refine ⟨?_, sm.free ne, nem.symm⟩
            rw [upd_ne nem.symm, upd_same]
      · rw [hPv] at pv
        obtain ⟨ns, s4, hm, ln, nn, hn⟩ := pv
        have hp4 := s4 _ _ hp3
        have nmp : m ≠ p := (ne_of_none hp3 nm).symm
        refine ⟨C, dx, _, hp4, U.cl, U.nN, (by show 2 < 1000; decide), ?_⟩
        have ehf : putF "_near" (V.ref m) (putF "_doors" (V.ref q0) (putF "rooms" (V.int r) [])) = hf r q0 m := rfl
        rw [ehf]
        have npn : ∀ n ∈ ns, n ≠ p := fun n h => (ne_of_none hp3 (hn n h).2.1).symm
        have nqn : ∀ n ∈ ns, n ≠ q0 := fun n h => (ne_of_none hq3 (hn n h).2.1).symm
        have hp5 : upd H' p (HO.ins C dx (hf r q0 m)) p = some (HO.ins C dx (hf r q0 m)) := upd_same
        have hq5 : upd H' p (HO.ins C dx (hf r q0 m)) q0 = some (.lst ls) := by rw [upd_ne nqp]; exact s4 _ _ hq3
        have hm5 : upd H' p (HO.ins C dx (hf r q0 m)) m = some (.lst (ns.map V.ref)) := by rw [upd_ne nmp]; exact hm
        have hn5 : ∀ n ∈ ns, upd H' p (HO.ins C dx (hf r q0 m)) n = some (.lst []) := fun n h => by rw [upd_ne (npn n h)]; exact (hn n h).1
        have pq5 : PL (upd H' p (HO.ins C dx (hf r q0 m))) ls D' := (pq3.kt (KT.same s4)).kt (KT.ch hp4 (fun _ z => by cases z))
        have old5 : ∀ b o, H b = some o → b ≠ p → upd H' p (HO.ins C dx (hf r q0 m)) b = some o := fun b o e h => by
          rw [upd_ne h]
          exact s4 _ _ (old3 b o e h)
        have fm : H m = none := (free3 m nm).1
        have fn : ∀ n ∈ ns, H n = none := fun n h => (free3 n (hn n h).2.1).1
        have nmn : ∀ n ∈ ns, n ≠ m := fun n h => (hn n h).2.2
        generalize upd H' p (HO.ins C dx (hf r q0 m)) = H5 at hp5 hq5 hm5 hn5 pq5 old5
        have drs : Drs r D' := ⟨asc, fun d hd => ok d ((mem d).mp hd)⟩
        have dl : D'.length ≤ 66 := drs.len hr12
        have ll : ls.length = D'.length := pq.len
        -- the rooms' neighbours
        obtain ⟨Pw, hPw⟩ : ∃ Pw : Nat → L2.St → Hp → Prop, Pw = (fun i σ H' => ∃ v3 v4 : Option V, σ = [some (.ref p), some (.int r), some (.ref l), v3, v4, none] ∧ (∀ b o, H5 b = some o → b ∉ ns → H' b = some o) ∧ (∀ (j : Nat) n, ns[j]? = some n → H' n = some (.lst ((nearF (j : Nat) (D'.take i)).map V.int)))) := ⟨_, rfl⟩
        refine ⟨_, rfl, p, C, dx, _, .ref q0, rfl, hp5, U.cl, U.nD, hf_doors _ _ _, q0, rfl, ⟨_, SqL.of hq5⟩, for_list (K := K) (a := q0) (xs := ls) Pw (by rw [hPw]; exact ⟨none, none, rfl, fun b o e _ => e, fun j n g => hn5 n (List.mem_of_getElem? g)⟩) (fun i σ H' _ pv => ?_) (fun i v σ H' gv pv => ?_) (fun σ H' pv => ?_)⟩
        · rw [hPw] at pv
          obtain ⟨_, _, _, k1, _⟩ := pv
          exact SqL.of (k1 _ _ hq5 fun z => nqn _ z rfl)
        · have nxt : ∀ v3 v4 H', (∀ b o, H5 b = some o → b ∉ ns → H' b = some o) → (∀ (j : Nat) n, ns[j]? = some n → H' n = some (.lst ((nearF (j : Nat) (D'.take (i + 1))).map V.int))) → Pw (i + 1) [some (.ref p), some (.int r), some (.ref l), v3, v4, none] H' := fun v3 v4 H' h1 h2 => by
            rw [hPw]
            exact ⟨v3, v4, rfl, h1, h2⟩
          rw [hPw] at pv
          obtain ⟨v3, v4, rfl, k1, k2⟩ := pv
          obtain ⟨d, gd, td, rfl, htd⟩ := pq5.get gv
          have okd := drs.ok d (List.mem_of_getElem? gd)
          have htd1 : H' td = some (.tup [.int d.1, .int d.2]) := k1 _ _ htd fun z => by
            have e := hn5 td z
            rw [htd] at e
            cases e
          obtain ⟨ja, eja⟩ : ∃ ja : Nat, d.1 = ja := ⟨d.1.toNat, by omega⟩
          obtain ⟨jb, ejb⟩ : ∃ jb : Nat, d.2 = jb := ⟨d.2.toNat, by omega⟩
          obtain ⟨na, gna⟩ : ∃ n, ns[ja]? = some n := ⟨_, List.getElem?_eq_getElem (by omega)⟩
          obtain ⟨nb, gnb⟩ : ∃ n, ns[jb]? = some n := ⟨_, List.getElem?_eq_getElem (by omega)⟩
          have nab : na ≠ nb := fun z => by
            rw [← z] at gnb
            have := nd_ix nn gna gnb
            omega
          have mna := List.mem_of_getElem? gna
          have mnb := List.mem_of_getElem? gnb
          have hp6 := k1 _ _ hp5 fun z => npn _ z rfl
          have hm6 := k1 _ _ hm5 fun z => nmn _ z rfl
          have short : ∀ j : Int, (nearF j (D'.take i)).length ≤ 66 := fun j => by
            have := List.length_filterMap_le (fun d : Pr => if d.1 = j then some d.2 else if d.2 = j then some d.1 else none) (D'.take i)
            rw [List.length_take] at this
            show (List.filterMap _ _).length ≤ 66
            omega
          have ga := k2 ja na gna
          have gb := k2 jb nb gnb
          walk_at "rd"
          refine ⟨_, SqT.of htd1, rfl, _, _, rfl, _, _, rfl, rfl, ?_⟩
          walk_at "rd"
          have npa : p ≠ na := fun z => npn na mna z.symm
          have nma : m ≠ na := fun z => nmn na mna z.symm
          have big : ∀ j : Int, ((nearF j (D'.take i)).map V.int).length < sizeLine := fun j => len_big (by rw [List.length_map]; have := short j; omega)
          refine ⟨C, dx, _, hp6, U.cl, U.nN, .ref m, hf_near _ _ _, m, rfl, _, SqL.of hm6, .ref na, at_of (j := ja) eja (by rw [List.getElem?_map, gna]; rfl), .inl ⟨rfl, _, SqL.of ga⟩, na, rfl, _, ga, big _, ?_⟩
          refine ⟨C, dx, _, by rw [upd_ne npa]; exact hp6, U.cl, U.nN, .ref m, hf_near _ _ _, m, rfl, _, SqL.of (by rw [upd_ne nma]; exact hm6), .ref nb, at_of (j := jb) ejb (by rw [List.getElem?_map, gnb]; rfl), ?_⟩
          have gb2 : upd H' na (HO.lst ((nearF (ja : Nat) (D'.take i)).map V.int ++ [V.int d.2])) nb = some (.lst ((nearF (jb : Nat) (D'.take i)).map V.int)) := by rw [upd_ne nab.symm]; exact gb
          refine ⟨.inl ⟨rfl, _, SqL.of gb2⟩, nb, rfl, _, gb2, big _, ?_⟩
          refine nxt _ _ _ (fun b o e h => ?_) (fun j n gn => ?_)
          · rw [upd_ne (show b ≠ nb from fun z => h (by rw [z]; exact mnb)), upd_ne (show b ≠ na from fun z => h (by rw [z]; exact mna))]
            exact k1 b o e h
          · rw [List.take_add_one, gd]
            show _ = some (HO.lst ((nearF (j : Nat) (D'.take i ++ [d])).map V.int))
            rw [nearF_snoc]
            by_cases e1 : n = nb
            · subst e1
              have ej := nd_ix nn gn gnb
              subst ej
              rw [upd_same, if_neg (by omega), if_pos ejb, List.map_append, eja]
              rfl
            · rw [upd_ne e1]
              by_cases e2 : n = na
              · subst e2
                have ej := nd_ix nn gn gna
                subst ej
                rw [upd_same, if_pos eja, List.map_append]
                rfl
              · have j1 : ¬ d.1 = (j : Int) := fun z => e2 (by
                  have ej : j = ja := by omega
                  rw [ej, gna] at gn
                  exact (Option.some.inj gn).symm)
                have j2 : ¬ d.2 = (j : Int) := fun z => e1 (by
                  have ej : j = jb := by omega
                  rw [ej, gnb] at gn
                  exact (Option.some.inj gn).symm)
                rw [upd_ne e2, if_neg j1, if_neg j2, List.append_nil]
                exact k2 j n gn
        · rw [hPw] at pv
          obtain ⟨v3, v4, rfl, k1, k2⟩ := pv
          rw [ll, List.take_length] at k2
          refine q D' (p :: q0 :: m :: ns) H' mem ⟨⟨dx, q0, m, ls, ns, k1 _ _ hp5 fun z => npn _ z rfl, k1 _ _ hq5 fun z => nqn _ z rfl, ?_, k1 _ _ hm5 fun z => nmn _ z rfl, by omega, k2, rfl⟩, drs, hr1, hr12⟩ (fun b o e h => ?_) fun b hb h => ?_
          · refine Paired.mapP pq5 fun v d ⟨t, e, ht⟩ => ⟨t, e, k1 _ _ ht fun z => ?_⟩
            have e2 := hn5 t z
            rw [ht] at e2
            cases e2
          · refine k1 _ _ (old5 b o e h) fun z => ?_
            rw [fn b z] at e
            cases e
          · rcases List.mem_cons.mp hb with z | hb
            · exact absurd z h
            · rcases List.mem_cons.mp hb with z | hb
              · rw [z]; exact fq
              · rcases List.mem_cons.mp hb with z | hb
                · rw [z]; exact fm
                · exact fn b hb
end

theorem HouseAt.keep {C : Addr} {H H' : Hp} {p : Addr} {r : Nat} {D : List Pr} {own : List Addr} (h : HouseAt C H p r D own) (k : ∀ b o, b ∈ own → H b = some o → H' b = some o) (kt : KT H H') : HouseAt C H' p r D own := by
  obtain ⟨dx, l, m, ls, ns, h1, h2, h3, h4, h5, h6, rfl⟩ := h.ex
  refine ⟨⟨dx, l, m, ls, ns, k _ _ List.mem_cons_self h1, k _ _ (by simp) h2, h3.kt kt, k _ _ (by simp) h4, h5, fun i n g => k _ _ (by have := List.mem_of_getElem? g; simp [this]) (h6 i n g), rfl⟩, h.ok, h.r1, h.r12⟩
theorem HouseAt.same {C : Addr} {H H' : Hp} {p : Addr} {r : Nat} {D : List Pr} {own : List Addr} (h : HouseAt C H p r D own) (s : Same H H') : HouseAt C H' p r D own := h.keep (fun b o _ e => s b o e) (KT.same s)
theorem HouseAt.stands {C : Addr} {H : Hp} {p : Addr} {r : Nat} {D : List Pr} {own : List Addr} (h : HouseAt C H p r D own) : ∀ b ∈ own, ∃ o, H b = some o := by
  obtain ⟨dx, l, m, ls, ns, h1, h2, h3, h4, h5, h6, rfl⟩ := h.ex
  intro b hb
  rcases List.mem_cons.mp hb with z | hb
  · exact ⟨_, by rw [z]; exact h1⟩
  · rcases List.mem_cons.mp hb with z | hb
    · exact ⟨_, by rw [z]; exact h2⟩
    · rcases List.mem_cons.mp hb with z | hb
      · exact ⟨_, by rw [z]; exact h4⟩
      · obtain ⟨i, g⟩ := List.getElem?_of_mem hb
        exact ⟨_, h6 i b g⟩
section
variable {P : Program} {w : World} {K : PySem.W.Frag} {mg : Str → Option Value} {base : Heap}
theorem scHdoors : FnScope ["self"] ["self"] (defScope sHdoors) := ⟨rfl, rfl, rfl, by decide +kernel, rfl, by decide +kernel, by decide +kernel⟩
def spHdoors (C : Addr) : Sp := fun vs H Q _ => ∃ (p : Addr) (r : Nat) (D : List Pr) (own : List Addr), vs = [.ref p] ∧ HouseAt C H p r D own ∧ ∀ ls q, PL H ls D → H q = none → Q (.ref q) (upd H q (.lst ls))
theorem ok_hdoors {f C : Addr} {fd : FuncData} (F : Fun K "doors" "House.doors" sHdoors f fd) (T : Bi mg) (U : Hs K mg C) : FnOk P w K mg base CX0 1 f fd ["self"] (spHdoors C) := by
  refine F.ok scHdoors (fun vs H Q E h => ?_) (fun cdv A outer s H vs Q E hr h => ?_)
  · obtain ⟨p, r, D, own, rfl, _⟩ := h
    rfl
  · obtain ⟨p, r, D, own, rfl, hh, q⟩ := h
    obtain ⟨dx, l, m, ls, ns, h1, h2, h3, h4, h5, h6, rfl⟩ := hh.ex
    refine ⟨_, (pss_one (ps_ret (pe_callTy call_list_of (by rfl) T.list (by decide +kernel) (pa_cons (pe_fld (pv 0) rfl) pa_nil)))), ?_⟩
    walk_at "rd"
    exact ⟨C, dx, _, h1, U.cl, U.nD, .ref l, hf_doors _ _ _, l, rfl, _, .inl (SqL.of h2), fun t nt => q ls t h3 nt⟩
theorem scHnear : FnScope ["self", "room"] ["self", "room"] (defScope sHnear) := ⟨rfl, rfl, rfl, by decide +kernel, rfl, by decide +kernel, by decide +kernel⟩
def spHnear (C : Addr) : Sp := fun vs H Q _ => ∃ (p : Addr) (r : Nat) (D : List Pr) (own : List Addr) (i : Nat), vs = [.ref p, .int i] ∧ HouseAt C H p r D own ∧ i < r ∧ ∀ q, H q = none → Q (.ref q) (upd H q (.lst ((nearF (i : Nat) D).map V.int)))
theorem ok_hnear {f C : Addr} {fd : FuncData} (F : Fun K "neighbours" "House.neighbours" sHnear f fd) (T : Bi mg) (U : Hs K mg C) : FnOk P w K mg base CX0 1 f fd ["self", "room"] (spHnear C) := by
  refine F.ok scHnear (fun vs H Q E h => ?_) (fun cdv A outer s H vs Q E hr h => ?_)
  · obtain ⟨p, r, D, own, i, rfl, _⟩ := h
    rfl
  · obtain ⟨p, r, D, own, i, rfl, hh, hi, q⟩ := h
    obtain ⟨dx, l, m, ls, ns, h1, h2, h3, h4, h5, h6, rfl⟩ := hh.ex
    obtain ⟨n, gn⟩ : ∃ n, ns[i]? = some n := ⟨_, List.getElem?_eq_getElem (by omega)⟩
    refine ⟨_, (pss_one (ps_ret (pe_callTy call_list_of (by rfl) T.list (by decide +kernel) (pa_cons (pe_ix ix_list (pe_fld (pv 0) rfl) (pv 1) (fun _ _ => rfl)) pa_nil)))), ?_⟩
    walk_at "rd"
    refine ⟨C, dx, _, h1, U.cl, U.nN, .ref m, hf_near _ _ _, m, rfl, _, SqL.of h4, .ref n, atI_nat (by rw [List.getElem?_map, gn]; rfl), n, rfl, _, .inl (SqL.of (h6 i n gn)), fun t nt => q t nt⟩
end

/-! ### a bound method as a value, and its call -/
def tBnd (C : Addr) (m : Str) (g : Addr) (ta : TE) : TE := fun σ H Q => ta σ H fun x H1 => ∃ a dx fs, x = .ref a ∧ H1 a = some (.ins C dx fs) ∧ fs.lookup m = none ∧ ∀ q, H1 q = none → Q (.ref q) (upd H1 q (.met g a))
theorem pe_bnd {X : Cx} {C g : Addr} {m : Str} {e : Expr} {ta : TE} {pos : Pos} (he : PE X e ta) (c : Cls X.K C) (k : BMeth X.K C m g) (hb : attributeBase e m X.env (eval e X.env) = eval e X.env := by rfl) : PE X (.Attribute e m pos) (tBnd C m g ta) := by
  refine ⟨fun pins s σ H Q I h => ?_⟩
  refine attr_of hb (thn (he.run pins s σ H _ I h) fun u s1 ⟨x, H1, I1, rx, a, dx, fs, ex, ea, l, q⟩ => ?_)
  subst ex
  obtain rfl : u = Value.ref a := rx
  exact getbound_ok I1 ea c k l fun p s2 hp I2 => ⟨.ref p, _, I2, rfl, q p hp⟩
/-- f(e, ..), the i-th slot a bound method of the def at g -/
def tCallM (i : Nat) (g : Addr) (sp : Sp) (E : XK) (t : TA) : TE := fun σ H Q => ∃ q a, σ[i]? = some (some (.ref q)) ∧ t σ H fun vs H1 => H1 q = some (.met g a) ∧ sp (.ref a :: vs) H1 Q E
theorem pe_callM {X : Cx} {CX : CXT} {k i : Nat} {g : Addr} {sp : Sp} {E : XK} {x : Str} {p pos : Pos} {e : Expr} {es : List Expr} {t : TA} (F : FnR X.prog X.w X.K X.mg X.base CX k g sp) (hr : Room k X.A) (hN : X.N[i]? = some x) (hv : L2.Vis X.env.scope x) (hf : PySem.W.fnIn X.K g = true) (hx : Passes CX X E) (ha : PA X (e :: es) t)
    (hdb : (x == ("__debug__" : Str)) = false := by decide) (hcd : (x == ("__classdict__" : Str)) = false := by decide)
    (he : starEach (e :: es) X.env = (false, eval e X.env) :: starEach es X.env := by rfl) (hpl : (backTo pos (starEach es X.env)).any (·.1) = false := by rfl) : PE X (.Call (.Name x p) (e :: es) [] pos) (tCallM i g sp E t) := by
  refine ⟨fun pins s σ H Q I h => ?_⟩
  obtain ⟨q, a, hs, ht⟩ := h
  refine wpAny_Call_Name_kw (thn ((pe_var (pos := p) hN hv hdb hcd).run pins s σ H (fun v H1 => v = .ref q ∧ H1 = H) I ⟨.ref q, hs, rfl, rfl⟩) fun u s1 ⟨v, H1, I1, r1, q1⟩ => ?_)
  obtain ⟨rfl, rfl⟩ := q1
  cases r1
  have h2 : wpAny (model X.prog X.w) X.A (spliced (backTo pos (starEach (e :: es) X.env))) (fun us s2 => PySem.W.MethP X.K q g (.ref a) s2.heap ∧ wpAny (model X.prog X.w) X.A (call (.ref q) ([] ++ us)) (EP X pins σ Q) X.xe s2) X.xe s1 :=
    thn (ha.run pos pins s1 σ _ _ I1 ht) fun us s2 ⟨vs, H2, I2, r, hm, hsp⟩ => ⟨met_P I2 hm, wpAny_call (call_met I2 hm (run_fnR (us := Value.ref a :: us) (vs := V.ref a :: vs) F hr hx I2 (.cons rfl r) hsp))⟩
  rw [he] at h2 ⊢
  exact PySem.W.callWith_of (P := PySem.W.MethP X.K q g (.ref a)) (by show ((false || (backTo pos (starEach es X.env)).any (·.1)) || false) = false; rw [hpl]; rfl) (PySem.W.keeps_M hf) (PySem.Calls.evalArgs_plain h2)

/-! ### pieces of a house -/
def Adj (D : List Pr) (a b : Int) : Prop := (a, b) ∈ D ∨ (b, a) ∈ D
theorem mem_nearF {D : List Pr} {a b : Int} (ok : ∀ d ∈ D, d.1 < d.2) : b ∈ nearF a D ↔ Adj D a b := by
  unfold nearF Adj
  rw [List.mem_filterMap]
  constructor
  · rintro ⟨d, hd, e⟩
    by_cases h1 : d.1 = a
    · rw [if_pos h1] at e
      have e := Option.some.inj e
      subst h1
      subst e
      exact .inl hd
    · rw [if_neg h1] at e
      by_cases h2 : d.2 = a
      · rw [if_pos h2] at e
        have e := Option.some.inj e
        subst h2
        subst e
        exact .inr hd
      · rw [if_neg h2] at e
        cases e
  · rintro (h | h)
    · exact ⟨_, h, if_pos rfl⟩
    · have := ok _ h
      refine ⟨_, h, ?_⟩
      rw [if_neg (by simp only at this ⊢; omega), if_pos rfl]
inductive Rch (D : List Pr) (R : List Int) (s : Int) : Int → Prop
  | base : s ∈ R → Rch D R s s
  | step {a b : Int} : Rch D R s a → Adj D a b → b ∈ R → Rch D R s b
theorem Rch.mem {D : List Pr} {R : List Int} {s x : Int} (h : Rch D R s x) : x ∈ R := by
  cases h with
  | base h => exact h
  | step _ _ h => exact h
theorem Rch.start {D : List Pr} {R : List Int} {s x : Int} (h : Rch D R s x) : s ∈ R := by
  induction h with
  | base h => exact h
  | step _ _ _ ih => exact ih
theorem Rch.trans {D : List Pr} {R : List Int} {s x y : Int} (h : Rch D R s x) (k : Rch D R x y) : Rch D R s y := by
  induction k with
  | base _ => exact h
  | step _ a b ih => exact ih.step a b
theorem Rch.symm {D : List Pr} {R : List Int} {s x : Int} (h : Rch D R s x) : Rch D R x s := by
  induction h with
  | base h => exact .base h
  | step k a b ih => exact Rch.trans (.step (.base b) a.symm k.mem) ih
theorem Rch.mono {D : List Pr} {R R' : List Int} {s x : Int} (h : Rch D R s x) (m : ∀ x, x ∈ R → x ∈ R') : Rch D R' s x := by
  induction h with
  | base h => exact .base (m _ h)
  | step _ a b ih => exact ih.step a (m _ b)
theorem pw_uniq {α : Type} {r : α → α → Prop} (asy : ∀ a b, r a b → r b a → False) : ∀ {D E : List α}, D.Pairwise r → E.Pairwise r → (∀ p, p ∈ D ↔ p ∈ E) → D = E
  | [], [], _, _, _ => rfl
  | [], q :: E, _, _, h => by
    have := (h q).mpr List.mem_cons_self
    cases this
  | p :: D, [], _, _, h => by
    have := (h p).mp List.mem_cons_self
    cases this
  | p :: D, q :: E, hD, hE, h => by
    obtain ⟨a1, a2⟩ := List.pairwise_cons.mp hD
    obtain ⟨b1, b2⟩ := List.pairwise_cons.mp hE
    have e : p = q := by
      rcases List.mem_cons.mp ((h p).mp List.mem_cons_self) with e | hp
      · exact e
      · rcases List.mem_cons.mp ((h q).mpr List.mem_cons_self) with e | hq
        · exact e.symm
        · exact (asy _ _ (b1 p hp) (a1 q hq)).elim
    subst e
    rw [pw_uniq asy a2 b2 fun z => ?_]
    constructor
    · intro hz
      rcases List.mem_cons.mp ((h z).mp (List.mem_cons_of_mem _ hz)) with e | m
      · subst e
        exact (asy _ _ (a1 z hz) (a1 z hz)).elim
      · exact m
    · intro hz
      rcases List.mem_cons.mp ((h z).mpr (List.mem_cons_of_mem _ hz)) with e | m
      · subst e
        exact (asy _ _ (b1 z hz) (b1 z hz)).elim
      · exact m
def Up (ys : List Int) : Prop := ys.Pairwise (· < ·)
theorem up_uniq {ys zs : List Int} (h1 : Up ys) (h2 : Up zs) (h : ∀ x, x ∈ ys ↔ x ∈ zs) : ys = zs := pw_uniq (fun a b h1 h2 => by omega) h1 h2 h
def hdI : List Int → Int
  | [] => 0
  | x :: _ => x
theorem hdI_mem {ys : List Int} {x : Int} (h : x ∈ ys) : hdI ys ∈ ys := by
  cases ys with
  | nil => cases h
  | cons y ys => exact List.mem_cons_self
theorem hdI_le {ys : List Int} {x : Int} (u : Up ys) (h : x ∈ ys) : hdI ys ≤ x := by
  cases ys with
  | nil => cases h
  | cons y ys =>
    rcases List.mem_cons.mp h with e | m
    · rw [e]; exact Int.le_refl _
    · exact Int.le_of_lt ((List.pairwise_cons.mp u).1 x m)
/-- the piece of s among the rooms R -/
def Pc (D : List Pr) (R : List Int) (s : Int) (ys : List Int) : Prop := Up ys ∧ ∀ x, x ∈ ys ↔ Rch D R s x
/-- all pieces of the rooms R, by their least rooms -/
structure Pcs (D : List Pr) (R : List Int) (P : List (List Int)) : Prop where
  pc : ∀ ys ∈ P, ∃ s ∈ R, Pc D R s ys
  cov : ∀ s ∈ R, ∃ ys ∈ P, s ∈ ys
  asc : P.Pairwise fun a b => hdI a < hdI b
theorem Pc.of {D : List Pr} {R : List Int} {s t : Int} {ys : List Int} (h : Pc D R s ys) (m : t ∈ ys) : Pc D R t ys :=
  ⟨h.1, fun x => ⟨fun hx => (((h.2 t).mp m).symm).trans ((h.2 x).mp hx), fun hx => (h.2 x).mpr (((h.2 t).mp m).trans hx)⟩⟩
theorem Pc.congr {D : List Pr} {R R' : List Int} {s : Int} {ys : List Int} (h : Pc D R s ys) (e : ∀ x, x ∈ R ↔ x ∈ R') : Pc D R' s ys :=
  ⟨h.1, fun x => (h.2 x).trans ⟨fun z => z.mono fun x => (e x).mp, fun z => z.mono fun x => (e x).mpr⟩⟩
theorem Pc.uniq {D : List Pr} {R : List Int} {s : Int} {ys zs : List Int} (h : Pc D R s ys) (k : Pc D R s zs) : ys = zs := up_uniq h.1 k.1 fun x => (h.2 x).trans (k.2 x).symm
theorem Pc.self {D : List Pr} {R : List Int} {s : Int} {ys : List Int} (h : Pc D R s ys) (m : s ∈ R) : s ∈ ys := (h.2 s).mpr (.base m)
theorem Pcs.sub {D : List Pr} {R R' : List Int} {P P' : List (List Int)} (h : Pcs D R P) (k : Pcs D R' P') (e : ∀ x, x ∈ R ↔ x ∈ R') {ys : List Int} (m : ys ∈ P) : ys ∈ P' := by
  obtain ⟨s, hs, hc⟩ := h.pc ys m
  obtain ⟨zs, hz, sz⟩ := k.cov s ((e s).mp hs)
  obtain ⟨t, ht, hk⟩ := k.pc zs hz
  rw [(hc.congr e).uniq (hk.of sz)]
  exact hz
theorem Pcs.uniq {D : List Pr} {R R' : List Int} {P P' : List (List Int)} (h : Pcs D R P) (k : Pcs D R' P') (e : ∀ x, x ∈ R ↔ x ∈ R') : P = P' :=
  pw_uniq (fun a b h1 h2 => by omega) h.asc k.asc fun ys => ⟨fun m => h.sub k e m, fun m => k.sub h (fun x => (e x).symm) m⟩
theorem Pcs.nil (D : List Pr) : Pcs D [] [] := ⟨fun ys m => (by cases m), fun s m => (by cases m), List.Pairwise.nil⟩
/-- a piece is one piece -/
theorem Pc.one {D : List Pr} {R R' : List Int} {s : Int} {ys : List Int} (h : Pc D R s ys) (m : s ∈ R) (e : ∀ x, x ∈ R' ↔ x ∈ ys) : Pcs D R' [ys] := by
  have key : ∀ x, Rch D R s x → Rch D R' s x := fun x k => by
    induction k with
    | base k => exact .base ((e s).mpr (h.self m))
    | step k a b ih => exact ih.step a ((e _).mpr ((h.2 _).mpr (k.step a b)))
  refine ⟨fun zs hz => ?_, fun t ht => ⟨ys, List.mem_cons_self, (e t).mp ht⟩, List.pairwise_singleton _ _⟩
  rw [List.mem_singleton.mp hz]
  exact ⟨s, (e s).mpr (h.self m), h.1, fun x => ⟨fun hx => key x ((h.2 x).mp hx), fun hx => (e x).mp hx.mem⟩⟩
/-- two pieces are not one -/
theorem Pc.two {D : List Pr} {R R' : List Int} {s t : Int} {ys zs : List Int} {P : List (List Int)} (h : Pc D R s ys) (k : Pc D R t zs) (hs : s ∈ R) (ht : t ∈ R) (ne : ys ≠ zs) (e : ∀ x, x ∈ R' ↔ x ∈ ys ∨ x ∈ zs) (p : Pcs D R' P) : P.length ≠ 1 := by
  intro z
  obtain ⟨c, rfl⟩ : ∃ c, P = [c] := by
    cases P with
    | nil => cases z
    | cons c P =>
      cases P with
      | nil => exact ⟨c, rfl⟩
      | cons d P => exact absurd z (by rw [List.length_cons, List.length_cons]; omega)
  obtain ⟨c1, m1, s1⟩ := p.cov s ((e s).mpr (.inl (h.self hs)))
  obtain ⟨c2, m2, t2⟩ := p.cov t ((e t).mpr (.inr (k.self ht)))
  rw [List.mem_singleton.mp m1] at s1
  rw [List.mem_singleton.mp m2] at t2
  obtain ⟨u, hu, hc⟩ := p.pc c List.mem_cons_self
  have st : Rch D R' s t := (((hc.2 s).mp s1).symm).trans ((hc.2 t).mp t2)
  have st2 : Rch D R s t := st.mono fun x hx => by
    rcases (e x).mp hx with m | m
    · exact ((h.2 x).mp m).mem
    · exact ((k.2 x).mp m).mem
  exact ne ((h.of ((h.2 t).mpr st2)).uniq k)
/-! the program's way -/
structure PInv (D : List Pr) (R : List Int) (P : List (List Int)) (Lf : List Int) : Prop where
  pc : ∀ ys ∈ P, ∃ s ∈ R, Pc D R s ys
  lf : ∀ x, x ∈ Lf ↔ x ∈ R ∧ ∀ ys ∈ P, x ∉ ys
  asc : P.Pairwise fun a b => hdI a < hdI b
  lo : ∀ ys ∈ P, ∀ x ∈ Lf, hdI ys < x
  up : Lf.Pairwise (· ≤ ·)
theorem PInv.start {D : List Pr} {R Lf : List Int} (m : ∀ x, x ∈ Lf ↔ x ∈ R) (u : Lf.Pairwise (· ≤ ·)) : PInv D R [] Lf :=
  ⟨fun ys h => (by cases h), fun x => ⟨fun h => ⟨(m x).mp h, fun ys z => (by cases z)⟩, fun h => (m x).mpr h.1⟩, List.Pairwise.nil, fun ys h => (by cases h), u⟩
theorem PInv.done {D : List Pr} {R : List Int} {P : List (List Int)} (h : PInv D R P []) : Pcs D R P :=
  ⟨h.pc, fun s hs => Classical.byContradiction fun z => List.not_mem_nil ((h.lf s).mpr ⟨hs, fun ys hy m => z ⟨ys, hy, m⟩⟩), h.asc⟩
theorem PInv.rch {D : List Pr} {R : List Int} {P : List (List Int)} {Lf : List Int} (h : PInv D R P Lf) {s x : Int} : Rch D Lf s x ↔ s ∈ Lf ∧ Rch D R s x := by
  constructor
  · exact fun k => ⟨k.start, k.mono fun x hx => ((h.lf x).mp hx).1⟩
  · rintro ⟨m, k⟩
    induction k with
    | base _ => exact .base m
    | step k a b ih =>
      rename_i a' b'
      refine ih.step a ((h.lf _).mpr ⟨b, fun ys hy z => ?_⟩)
      obtain ⟨t, ht, hc⟩ := h.pc ys hy
      exact ((h.lf _).mp ih.mem).2 ys hy ((hc.2 _).mpr (((hc.2 _).mp z).step a.symm k.mem))
theorem PInv.step {D : List Pr} {R : List Int} {P : List (List Int)} {l0 : Int} {Lf ys : List Int} (h : PInv D R P (l0 :: Lf)) (k : Pc D (l0 :: Lf) l0 ys) : PInv D R (P ++ [ys]) ((l0 :: Lf).filter fun x => decide (x ∉ ys)) := by
  have m0 : l0 ∈ l0 :: Lf := List.mem_cons_self
  have r0 := ((h.lf l0).mp m0).1
  have kR : Pc D R l0 ys := ⟨k.1, fun x => (k.2 x).trans (h.rch.trans ⟨fun z => z.2, fun z => ⟨m0, z⟩⟩)⟩
  have hd : hdI ys = l0 := by
    have a1 := hdI_le k.1 (k.self m0)
    have a2 := ((k.2 _).mp (hdI_mem (k.self m0))).mem
    rcases List.mem_cons.mp a2 with e | e
    · exact e
    · have := (List.pairwise_cons.mp h.up).1 _ e
      omega
  refine ⟨fun zs hz => ?_, fun x => ?_, ?_, fun zs hz x hx => ?_, h.up.filter _⟩
  · rcases List.mem_append.mp hz with m | m
    · exact h.pc zs m
    · rw [List.mem_singleton.mp m]
      exact ⟨l0, r0, kR⟩
  · rw [List.mem_filter, h.lf x]
    constructor
    · rintro ⟨⟨h1, h2⟩, h3⟩
      refine ⟨h1, fun zs hz => ?_⟩
      rcases List.mem_append.mp hz with m | m
      · exact h2 zs m
      · rw [List.mem_singleton.mp m]
        exact of_decide_eq_true h3
    · rintro ⟨h1, h2⟩
      exact ⟨⟨h1, fun zs hz => h2 zs (List.mem_append_left _ hz)⟩, decide_eq_true (h2 ys (List.mem_append_right _ List.mem_cons_self))⟩
  · refine List.pairwise_append.mpr ⟨h.asc, List.pairwise_singleton _ _, fun a ha b hb => ?_⟩
    rw [List.mem_singleton.mp hb, hd]
    exact h.lo a ha l0 m0
  · obtain ⟨hx1, hx2⟩ := List.mem_filter.mp hx
    rcases List.mem_append.mp hz with m | m
    · exact h.lo zs m x hx1
    · rw [List.mem_singleton.mp m, hd]
      rcases List.mem_cons.mp hx1 with e | e
      · exact absurd (k.self m0) (by rw [← e]; exact of_decide_eq_true hx2)
      · have := (List.pairwise_cons.mp h.up).1 _ e
        have ne : x ≠ l0 := fun z => of_decide_eq_true hx2 (by rw [z]; exact k.self m0)
        omega
/-! the law's way -/
structure LInv (D : List Pr) (R S : List Int) (j : Nat) (P : List (List Int)) (dn : List Int) : Prop where
  pc : ∀ ys ∈ P, ∃ s ∈ R, Pc D R s ys
  dnm : ∀ x, x ∈ dn ↔ ∃ ys ∈ P, x ∈ ys
  asc : P.Pairwise fun a b => hdI a < hdI b
  seen : ∀ x ∈ S.take j, x ∈ dn
  hds : ∀ ys ∈ P, hdI ys ∈ S.take j
theorem LInv.start (D : List Pr) (R S : List Int) : LInv D R S 0 [] [] :=
  ⟨fun ys h => (by cases h), fun x => ⟨fun h => (by cases h), fun ⟨ys, h, _⟩ => (by cases h)⟩, List.Pairwise.nil, fun x h => (by rw [List.take_zero] at h; cases h), fun ys h => (by cases h)⟩
theorem LInv.skip {D : List Pr} {R S : List Int} {j : Nat} {P : List (List Int)} {dn : List Int} {x : Int} (h : LInv D R S j P dn) (g : S[j]? = some x) (m : x ∈ dn) : LInv D R S (j + 1) P dn := by
  refine ⟨h.pc, h.dnm, h.asc, fun y hy => ?_, fun ys hy => ?_⟩
  · rw [List.take_add_one, g] at hy
    rcases List.mem_append.mp hy with z | z
    · exact h.seen y z
    · rw [show y = x from List.mem_singleton.mp z]
      exact m
  · rw [List.take_add_one]
    exact List.mem_append_left _ (h.hds ys hy)
theorem LInv.step {D : List Pr} {R S : List Int} {j : Nat} {P : List (List Int)} {dn ys : List Int} {x : Int} (h : LInv D R S j P dn) (g : S[j]? = some x) (sm : ∀ x, x ∈ S ↔ x ∈ R) (su : S.Pairwise (· ≤ ·)) (m : x ∉ dn) (k : Pc D R x ys) : LInv D R S (j + 1) (P ++ [ys]) (dn ++ ys) := by
  have xR : x ∈ R := (sm x).mp (List.mem_of_getElem? g)
  have hj : j < S.length := (List.getElem?_eq_some_iff.mp g).1
  have split : S = S.take j ++ x :: S.drop (j + 1) := by
    have e := (List.take_append_drop j S).symm
    rw [List.drop_eq_getElem_cons hj] at e
    rw [List.getElem?_eq_getElem hj] at g
    rw [Option.some.inj g] at e
    exact e
  have su2 := su
  rw [split] at su2
  obtain ⟨_, sb, sc⟩ := List.pairwise_append.mp su2
  have hd : hdI ys = x := by
    have a1 := hdI_le k.1 (k.self xR)
    have a2 := (k.2 _).mp (hdI_mem (k.self xR))
    have a3 := (sm _).mpr a2.mem
    rw [split] at a3
    rcases List.mem_append.mp a3 with e | e
    · obtain ⟨zs, hz, mz⟩ := (h.dnm _).mp (h.seen _ e)
      obtain ⟨t, ht, hc⟩ := h.pc zs hz
      exact absurd ((h.dnm x).mpr ⟨zs, hz, (hc.2 x).mpr (((hc.2 _).mp mz).trans a2.symm)⟩) m
    · rcases List.mem_cons.mp e with e | e
      · exact e
      · have := (List.pairwise_cons.mp sb).1 _ e
        omega
  refine ⟨fun zs hz => ?_, fun y => ?_, ?_, fun y hy => ?_, fun zs hz => ?_⟩
  · rcases List.mem_append.mp hz with q | q
    · exact h.pc zs q
    · rw [List.mem_singleton.mp q]
      exact ⟨x, xR, k⟩
  · rw [List.mem_append, h.dnm y]
    constructor
    · rintro (⟨zs, hz, mz⟩ | z)
      · exact ⟨zs, List.mem_append_left _ hz, mz⟩
      · exact ⟨ys, List.mem_append_right _ List.mem_cons_self, z⟩
    · rintro ⟨zs, hz, mz⟩
      rcases List.mem_append.mp hz with q | q
      · exact .inl ⟨zs, q, mz⟩
      · rw [List.mem_singleton.mp q] at mz
        exact .inr mz
  · refine List.pairwise_append.mpr ⟨h.asc, List.pairwise_singleton _ _, fun a ha b hb => ?_⟩
    rw [List.mem_singleton.mp hb, hd]
    have m1 := h.hds a ha
    have le := sc _ m1 x List.mem_cons_self
    have ne : hdI a ≠ x := fun z => m (by rw [← z]; exact h.seen _ m1)
    omega
  · rw [List.take_add_one, g] at hy
    rcases List.mem_append.mp hy with z | z
    · exact List.mem_append_left _ (h.seen y z)
    · rw [show y = x from List.mem_singleton.mp z]
      exact List.mem_append_right _ (k.self xR)
  · rw [List.take_add_one, g]
    rcases List.mem_append.mp hz with q | q
    · exact List.mem_append_left _ (h.hds zs q)
    · rw [List.mem_singleton.mp q, hd]
      exact List.mem_append_right _ (by simp)
theorem LInv.fin {D : List Pr} {R S : List Int} {P : List (List Int)} {dn : List Int} (h : LInv D R S S.length P dn) (sm : ∀ x, x ∈ S ↔ x ∈ R) : Pcs D R P :=
  ⟨h.pc, fun s hs => (h.dnm s).mp (h.seen s (by rw [List.take_length]; exact (sm s).mpr hs)), h.asc⟩
/-! reaching by rounds -/
structure FInv (D : List Pr) (R : List Int) (s : Int) (F : List Int) : Prop where
  nd : F.Nodup
  rc : ∀ x ∈ F, Rch D R s x
  st : s ∈ R → s ∈ F
def Clo (D : List Pr) (R F : List Int) : Prop := ∀ a ∈ F, ∀ b ∈ R, Adj D a b → b ∈ F
theorem FInv.all {D : List Pr} {R F : List Int} {s : Int} (h : FInv D R s F) (c : Clo D R F) (x : Int) : x ∈ F ↔ Rch D R s x := by
  refine ⟨h.rc x, fun k => ?_⟩
  induction k with
  | base m => exact h.st m
  | step _ a b ih => exact c _ ih _ b a
theorem FInv.add {D : List Pr} {R F : List Int} {s a b : Int} (h : FInv D R s F) (ha : a ∈ F) (hb : b ∈ R) (ab : Adj D a b) (n : b ∉ F) : FInv D R s (F ++ [b]) := by
  refine ⟨?_, fun x hx => ?_, fun m => List.mem_append_left _ (h.st m)⟩
  · refine List.nodup_append.mpr ⟨h.nd, by simp, fun x hx y hy z => ?_⟩
    rw [List.mem_singleton.mp hy] at z
    exact n (by rw [← z]; exact hx)
  · rcases List.mem_append.mp hx with z | z
    · exact h.rc x z
    · rw [List.mem_singleton.mp z]
      exact (h.rc a ha).step ab hb

theorem nearF_lt {i : Int} {D : List Pr} (asc : Asc D) (ok : ∀ d ∈ D, d.1 < d.2) : (nearF i D).Pairwise (· < ·) := by
  unfold nearF
  refine List.Pairwise.filterMap _ (fun d e h b hb c hc => ?_) (List.Pairwise.imp_of_mem (fun {x y} hx hy h => (⟨h, ok x hx, ok y hy⟩ : lt2 x y ∧ x.1 < x.2 ∧ y.1 < y.2)) asc)
  obtain ⟨h, h1, h2⟩ := h
  unfold lt2 at h
  by_cases c1 : d.1 = i
  · rw [if_pos c1] at hb
    have eb := Option.some.inj hb
    by_cases c2 : e.1 = i
    · rw [if_pos c2] at hc
      have ec := Option.some.inj hc
      omega
    · rw [if_neg c2] at hc
      by_cases c3 : e.2 = i
      · rw [if_pos c3] at hc
        have ec := Option.some.inj hc
        omega
      · rw [if_neg c3] at hc
        cases hc
  · rw [if_neg c1] at hb
    by_cases c4 : d.2 = i
    · rw [if_pos c4] at hb
      have eb := Option.some.inj hb
      by_cases c2 : e.1 = i
      · rw [if_pos c2] at hc
        have ec := Option.some.inj hc
        omega
      · rw [if_neg c2] at hc
        by_cases c3 : e.2 = i
        · rw [if_pos c3] at hc
          have ec := Option.some.inj hc
          omega
        · rw [if_neg c3] at hc
          cases hc
    · rw [if_neg c4] at hb
      cases hb
/-! ### least paths -/
def ltL : List Int → List Int → Prop
  | [], [] => False
  | [], _ :: _ => True
  | _ :: _, [] => False
  | a :: s, b :: t => a < b ∨ (a = b ∧ ltL s t)
theorem ltL_irr : ∀ p, ¬ ltL p p
  | [], h => h
  | a :: s, h => by
    rcases h with h | ⟨_, h⟩
    · omega
    · exact ltL_irr s h
theorem ltL_trans : ∀ {p q r}, ltL p q → ltL q r → ltL p r
  | [], [], _, h, _ => h.elim
  | [], _ :: _, [], _, k => k.elim
  | [], _ :: _, _ :: _, _, _ => trivial
  | _ :: _, [], _, h, _ => h.elim
  | _ :: _, _ :: _, [], _, k => k.elim
  | a :: s, b :: t, c :: u, h, k => by
    rcases h with h | ⟨h1, h2⟩
    · rcases k with k | ⟨k1, k2⟩
      · exact .inl (by omega)
      · exact .inl (by omega)
    · rcases k with k | ⟨k1, k2⟩
      · exact .inl (by omega)
      · exact .inr ⟨by omega, ltL_trans h2 k2⟩
theorem ltL_tri : ∀ p q, p = q ∨ ltL p q ∨ ltL q p
  | [], [] => .inl rfl
  | [], _ :: _ => .inr (.inl trivial)
  | _ :: _, [] => .inr (.inr trivial)
  | a :: s, b :: t => by
    rcases Int.lt_trichotomy a b with h | h | h
    · exact .inr (.inl (.inl h))
    · subst h
      rcases ltL_tri s t with e | e | e
      · exact .inl (by rw [e])
      · exact .inr (.inl (.inr ⟨rfl, e⟩))
      · exact .inr (.inr (.inr ⟨rfl, e⟩))
    · exact .inr (.inr (.inl h))
theorem ltL_app : ∀ {p q : List Int} (x y : List Int), p.length = q.length → ltL p q → ltL (p ++ x) (q ++ y)
  | [], [], _, _, _, h => h.elim
  | [], _ :: _, _, _, e, _ => by cases e
  | _ :: _, [], _, _, e, _ => by cases e
  | a :: s, b :: t, x, y, e, h => by
    rcases h with h | ⟨h1, h2⟩
    · exact .inl h
    · exact .inr ⟨h1, ltL_app x y (Nat.succ.inj e) h2⟩
theorem ltL_last : ∀ (p : List Int) {x y : Int}, x < y → ltL (p ++ [x]) (p ++ [y])
  | [], _, _, h => .inl h
  | a :: s, _, _, h => .inr ⟨rfl, ltL_last s h⟩
/-- fewer rooms, or as many and less -/
def slt (p q : List Int) : Prop := p.length < q.length ∨ (p.length = q.length ∧ ltL p q)
theorem slt_irr (p : List Int) : ¬ slt p p := fun h => by
  rcases h with h | ⟨_, h⟩
  · omega
  · exact ltL_irr p h
theorem slt_trans {p q r : List Int} (h : slt p q) (k : slt q r) : slt p r := by
  rcases h with h | ⟨h1, h2⟩ <;> rcases k with k | ⟨k1, k2⟩
  · exact .inl (by omega)
  · exact .inl (by omega)
  · exact .inl (by omega)
  · exact .inr ⟨by omega, ltL_trans h2 k2⟩
theorem slt_tri (p q : List Int) : p = q ∨ slt p q ∨ slt q p := by
  rcases Nat.lt_trichotomy p.length q.length with h | h | h
  · exact .inr (.inl (.inl h))
  · rcases ltL_tri p q with e | e | e
    · exact .inl e
    · exact .inr (.inl (.inr ⟨h, e⟩))
    · exact .inr (.inr (.inr ⟨h.symm, e⟩))
  · exact .inr (.inr (.inl h))
theorem slt_app {p q : List Int} (x y : Int) (h : slt p q) : slt (p ++ [x]) (q ++ [y]) := by
  rcases h with h | ⟨h1, h2⟩
  · exact .inl (by rw [List.length_append, List.length_append]; exact Nat.add_lt_add_right h 1)
  · exact .inr ⟨by rw [List.length_append, List.length_append, h1]; rfl, ltL_app [x] [y] h1 h2⟩
theorem slt_last (p : List Int) {x y : Int} (h : x < y) : slt (p ++ [x]) (p ++ [y]) := .inr ⟨by rw [List.length_append, List.length_append]; rfl, ltL_last p h⟩
def sle (p q : List Int) : Prop := p = q ∨ slt p q
theorem sle_trans {p q r : List Int} (h : sle p q) (k : sle q r) : sle p r := by
  rcases h with h | h
  · rw [h]; exact k
  · rcases k with k | k
    · rw [← k]; exact .inr h
    · exact .inr (slt_trans h k)
theorem sle_len {p q : List Int} (h : sle p q) : p.length ≤ q.length := by
  rcases h with h | h | h
  · rw [h]; exact Nat.le_refl _
  · omega
  · omega
theorem sle_app {p q : List Int} (x : Int) (h : sle p q) : sle (p ++ [x]) (q ++ [x]) := by
  rcases h with h | h
  · exact .inl (by rw [h])
  · exact .inr (slt_app x x h)
theorem sle_anti {p q : List Int} (h : sle p q) (k : sle q p) : p = q := by
  rcases h with h | h
  · exact h
  · rcases k with k | k
    · exact k.symm
    · exact (slt_irr _ (slt_trans h k)).elim
theorem sle_of_len {p q : List Int} (h : p.length < q.length) : sle p q := .inr (.inl h)
inductive Pth (D : List Pr) (R : List Int) (s : Int) : Int → List Int → Prop
  | base : s ∈ R → Pth D R s s [s]
  | step {a b : Int} {p : List Int} : Pth D R s a p → Adj D a b → b ∈ R → Pth D R s b (p ++ [b])
theorem Pth.mem {D : List Pr} {R : List Int} {s x : Int} {p : List Int} (h : Pth D R s x p) : x ∈ R := by
  cases h with
  | base h => exact h
  | step _ _ h => exact h
theorem Pth.start {D : List Pr} {R : List Int} {s x : Int} {p : List Int} (h : Pth D R s x p) : s ∈ R := by
  induction h with
  | base h => exact h
  | step _ _ _ ih => exact ih
theorem Pth.ne {D : List Pr} {R : List Int} {s x : Int} {p : List Int} (h : Pth D R s x p) : 1 ≤ p.length := by
  cases h with
  | base h => exact Nat.le_refl _
  | step _ _ h => rw [List.length_append]; exact Nat.le_add_left _ _
theorem Pth.one {D : List Pr} {R : List Int} {s x : Int} {p : List Int} (h : Pth D R s x p) (l : p.length ≤ 1) : x = s ∧ p = [s] := by
  cases h with
  | base h => exact ⟨rfl, rfl⟩
  | step k _ h =>
    rw [List.length_append] at l
    have := k.ne
    have l2 : _ + 1 ≤ 1 := l
    omega
theorem Pth.inR {D : List Pr} {R : List Int} {s x : Int} {p : List Int} (h : Pth D R s x p) : ∀ y ∈ p, y ∈ R := by
  induction h with
  | base h => intro y hy; rw [List.mem_singleton.mp hy]; exact h
  | step _ _ h ih =>
    intro y hy
    rcases List.mem_append.mp hy with m | m
    · exact ih y m
    · rw [List.mem_singleton.mp m]; exact h
/-- the first path -/
def Lst (D : List Pr) (R : List Int) (s x : Int) (p : List Int) : Prop := Pth D R s x p ∧ ∀ q, Pth D R s x q → sle p q
theorem Lst.uniq {D : List Pr} {R : List Int} {s x : Int} {p q : List Int} (h : Lst D R s x p) (k : Lst D R s x q) : p = q := sle_anti (h.2 _ k.1) (k.2 _ h.1)
abbrev En := Int × List Int
def keysE (L : List En) : List Int := L.map (·.1)
theorem keysE_mem {L : List En} {x : Int} {p : List Int} (h : (x, p) ∈ L) : x ∈ keysE L := List.mem_map.mpr ⟨_, h, rfl⟩
theorem of_keysE {L : List En} {x : Int} (h : x ∈ keysE L) : ∃ p, (x, p) ∈ L := by
  obtain ⟨e, m, rfl⟩ := List.mem_map.mp h
  exact ⟨e.2, m⟩
/-- all first paths -/
structure AllP (D : List Pr) (R : List Int) (s : Int) (L : List En) : Prop where
  nd : (keysE L).Nodup
  le : ∀ e ∈ L, Lst D R s e.1 e.2
  all : ∀ x p, Pth D R s x p → x ∈ keysE L
theorem AllP.get {D : List Pr} {R : List Int} {s x : Int} {p : List Int} {L : List En} (h : AllP D R s L) : (x, p) ∈ L ↔ Lst D R s x p := by
  constructor
  · exact fun m => h.le _ m
  · intro k
    obtain ⟨q, m⟩ := of_keysE (h.all x p k.1)
    rw [k.uniq (h.le _ m)]
    exact m
theorem AllP.no {D : List Pr} {R : List Int} {s x : Int} {L : List En} (h : AllP D R s L) : x ∉ keysE L ↔ ∀ p, ¬ Pth D R s x p := by
  constructor
  · exact fun m p k => m (h.all x p k)
  · intro k m
    obtain ⟨q, m⟩ := of_keysE m
    exact k _ (h.le _ m).1
/-- in the midst of the search: A done, a at work (its neighbours N already seen), W waiting -/
structure BIn (D : List Pr) (R : List Int) (s : Int) (A : List En) (a : En) (W : List En) (N : List Int) : Prop where
  nd : (keysE (A ++ a :: W)).Nodup
  le : ∀ e ∈ A ++ a :: W, Lst D R s e.1 e.2
  srt : (A ++ a :: W).Pairwise fun e f => slt e.2 f.2
  cl : ∀ e ∈ A, ∀ b ∈ R, Adj D e.1 b → b ∈ keysE (A ++ a :: W)
  cn : ∀ b ∈ N, b ∈ R → b ∈ keysE (A ++ a :: W)
  st : s ∈ keysE (A ++ a :: W)
  par : ∀ e ∈ A ++ a :: W, e.2.length = 1 ∨ (∃ c ∈ A, ∃ b, e.2 = c.2 ++ [b]) ∨ ∃ b ∈ N, e.2 = a.2 ++ [b]
/-- between two rooms at work -/
structure BOut (D : List Pr) (R : List Int) (s : Int) (A W : List En) : Prop where
  nd : (keysE (A ++ W)).Nodup
  le : ∀ e ∈ A ++ W, Lst D R s e.1 e.2
  srt : (A ++ W).Pairwise fun e f => slt e.2 f.2
  cl : ∀ e ∈ A, ∀ b ∈ R, Adj D e.1 b → b ∈ keysE (A ++ W)
  st : s ∈ R → s ∈ keysE (A ++ W)
  par : ∀ e ∈ A ++ W, e.2.length = 1 ∨ ∃ c ∈ A, ∃ b, e.2 = c.2 ++ [b]
theorem BOut.go {D : List Pr} {R : List Int} {s : Int} {A W : List En} {a : En} (h : BOut D R s A (a :: W)) : BIn D R s A a W [] :=
  ⟨h.nd, h.le, h.srt, h.cl, fun b m => (by cases m), h.st (h.le a (by simp)).1.start, fun e m => (h.par e m).imp id Or.inl⟩
theorem BIn.done {D : List Pr} {R : List Int} {s : Int} {A W : List En} {a : En} {N : List Int} (h : BIn D R s A a W N) (n : ∀ b ∈ R, Adj D a.1 b → b ∈ N) : BOut D R s (A ++ [a]) W := by
  have e : A ++ [a] ++ W = A ++ a :: W := by rw [List.append_assoc]; rfl
  refine ⟨by rw [e]; exact h.nd, by rw [e]; exact h.le, by rw [e]; exact h.srt, ?_, fun _ => by rw [e]; exact h.st, ?_⟩
  · rw [e]
    intro c hc b hb ab
    rcases List.mem_append.mp hc with m | m
    · exact h.cl c m b hb ab
    · rw [List.mem_singleton.mp m] at ab
      exact h.cn b (n b hb ab) hb
  · rw [e]
    intro f hf
    rcases h.par f hf with m | ⟨c, hc, b, e2⟩ | ⟨b, _, e2⟩
    · exact .inl m
    · exact .inr ⟨c, List.mem_append_left _ hc, b, e2⟩
    · exact .inr ⟨a, by simp, b, e2⟩
theorem BIn.skip {D : List Pr} {R : List Int} {s : Int} {A W : List En} {a : En} {N : List Int} {b : Int} (h : BIn D R s A a W N) (k : b ∈ R → b ∈ keysE (A ++ a :: W)) : BIn D R s A a W (N ++ [b]) :=
  ⟨h.nd, h.le, h.srt, h.cl, fun c m hc => (by
    rcases List.mem_append.mp m with m | m
    · exact h.cn c m hc
    · have := List.mem_singleton.mp m
      subst this
      exact k hc), h.st, fun e m => by
    rcases h.par e m with m | m | ⟨b, hb, e2⟩
    · exact .inl m
    · exact .inr (.inl m)
    · exact .inr (.inr ⟨b, List.mem_append_left _ hb, e2⟩)⟩
/-- a path that leaves what is done goes through a room that waits -/
theorem BIn.front {D : List Pr} {R : List Int} {s : Int} {A W : List En} {a : En} {N : List Int} (h : BIn D R s A a W N) {c : Int} {q : List Int} (k : Pth D R s c q) (n : c ∉ keysE A) : sle a.2 q := by
  have key : ∀ {c : Int} {q : List Int}, Pth D R s c q → c ∉ keysE A → ∃ e ∈ a :: W, ∃ q', Pth D R s e.1 q' ∧ (q' = q ∨ q'.length < q.length) := by
    intro c q k
    have inK : ∀ x, x ∈ keysE (A ++ a :: W) → x ∉ keysE A → ∃ e ∈ a :: W, e.1 = x := by
      intro x hx hn
      obtain ⟨p, hp⟩ := of_keysE hx
      rcases List.mem_append.mp hp with m | m
      · exact absurd (keysE_mem m) hn
      · exact ⟨_, m, rfl⟩
    induction k with
    | base hs =>
      intro n
      obtain ⟨e, he, rfl⟩ := inK _ h.st n
      exact ⟨e, he, _, .base hs, .inl rfl⟩
    | @step x y p k ab hb ih =>
      intro n
      by_cases m : x ∈ keysE A
      · obtain ⟨p', hp'⟩ := of_keysE m
        obtain ⟨e, he, rfl⟩ := inK _ (h.cl _ hp' _ hb ab) n
        exact ⟨e, he, _, k.step ab hb, .inl rfl⟩
      · obtain ⟨e, he, q', h1, h2⟩ := ih m
        refine ⟨e, he, q', h1, .inr ?_⟩
        rw [List.length_append]
        show _ < _ + 1
        rcases h2 with h2 | h2
        · rw [h2]; omega
        · omega
  obtain ⟨e, he, q', h1, h2⟩ := key k n
  have l1 : sle e.2 q' := (h.le e (List.mem_append_right _ he)).2 _ h1
  have l2 : sle a.2 e.2 := by
    rcases List.mem_cons.mp he with m | m
    · rw [m]; exact .inl rfl
    · exact .inr ((List.pairwise_cons.mp (List.pairwise_append.mp h.srt).2.1).1 e m)
  refine sle_trans l2 (sle_trans l1 ?_)
  rcases h2 with h2 | h2
  · exact .inl h2
  · exact sle_of_len h2
theorem BIn.add {D : List Pr} {R : List Int} {s : Int} {A W : List En} {a : En} {N : List Int} {b : Int} (h : BIn D R s A a W N) (ab : Adj D a.1 b) (bR : b ∈ R) (bn : b ∉ keysE (A ++ a :: W)) (up : ∀ c ∈ N, c < b) : BIn D R s A a (W ++ [(b, a.2 ++ [b])]) (N ++ [b]) := by
  have e : A ++ a :: (W ++ [(b, a.2 ++ [b])]) = (A ++ a :: W) ++ [(b, a.2 ++ [b])] := by rw [List.append_assoc]; rfl
  have ke : keysE (A ++ a :: (W ++ [(b, a.2 ++ [b])])) = keysE (A ++ a :: W) ++ [b] := by rw [e]; unfold keysE; rw [List.map_append]; rfl
  have aL := h.le a (by simp)
  have new : Lst D R s b (a.2 ++ [b]) := by
    refine ⟨aL.1.step ab bR, fun q k => ?_⟩
    cases k with
    | base _ => exact absurd h.st bn
    | @step c _ p k cb _ =>
      refine sle_app b (h.front k fun m => ?_)
      obtain ⟨p', hp'⟩ := of_keysE m
      exact bn (h.cl _ hp' _ bR cb)
  refine ⟨?_, ?_, ?_, ?_, ?_, ?_, ?_⟩
  · rw [ke]
    refine List.nodup_append.mpr ⟨h.nd, List.pairwise_singleton _ _, fun x hx y hy e => ?_⟩
    rw [List.mem_singleton.mp hy] at e
    rw [e] at hx
    exact bn hx
  · rw [e]
    intro f hf
    rcases List.mem_append.mp hf with m | m
    · exact h.le f m
    · rw [List.mem_singleton.mp m]; exact new
  · rw [e]
    refine List.pairwise_append.mpr ⟨h.srt, List.pairwise_singleton _ _, fun f hf g hg => ?_⟩
    rw [List.mem_singleton.mp hg]
    show slt f.2 (a.2 ++ [b])
    rcases h.par f hf with m | ⟨c, hc, x, e2⟩ | ⟨x, hx, e2⟩
    · refine .inl ?_
      have := aL.1.ne
      rw [List.length_append, m]
      show 1 < _ + 1
      omega
    · rw [e2]
      exact slt_app _ _ ((List.pairwise_append.mp h.srt).2.2 c hc a List.mem_cons_self)
    · rw [e2]
      exact slt_last _ (up x hx)
  · intro c hc x hx cx
    rw [ke]
    exact List.mem_append_left _ (h.cl c hc x hx cx)
  · intro x hx xR
    rw [ke]
    rcases List.mem_append.mp hx with m | m
    · exact List.mem_append_left _ (h.cn x m xR)
    · exact List.mem_append_right _ m
  · rw [ke]; exact List.mem_append_left _ h.st
  · rw [e]
    intro f hf
    rcases List.mem_append.mp hf with m | m
    · rcases h.par f m with m | m | ⟨x, hx, e2⟩
      · exact .inl m
      · exact .inr (.inl m)
      · exact .inr (.inr ⟨x, List.mem_append_left _ hx, e2⟩)
    · rw [List.mem_singleton.mp m]
      exact .inr (.inr ⟨b, by simp, rfl⟩)
theorem BOut.end {D : List Pr} {R : List Int} {s : Int} {A : List En} (h : BOut D R s A []) : AllP D R s A := by
  have e : A ++ [] = A := List.append_nil A
  refine ⟨by have := h.nd; rw [e] at this; exact this, by have := h.le; rw [e] at this; exact this, fun x p k => ?_⟩
  have cl := h.cl
  have st := h.st
  rw [e] at cl st
  induction k with
  | base hs => exact st hs
  | step k ab hb ih =>
    obtain ⟨p', hp'⟩ := of_keysE ih
    exact cl _ hp' _ hb ab
theorem BOut.start {D : List Pr} {R : List Int} {s : Int} (m : s ∈ R) : BOut D R s [] [(s, [s])] := by
  refine ⟨by simp [keysE], fun e he => ?_, List.pairwise_singleton _ _, fun e he => (by cases he), fun _ => by simp [keysE], fun e he => ?_⟩
  · rw [List.mem_singleton.mp he]
    refine ⟨.base m, fun q k => ?_⟩
    have := k.ne
    by_cases l : q.length ≤ 1
    · exact .inl (k.one l).2.symm
    · exact sle_of_len (show 1 < q.length by omega)
  · rw [List.mem_singleton.mp he]
    exact .inl rfl
theorem BOut.none {D : List Pr} {R : List Int} {s : Int} (m : s ∉ R) : BOut D R s [] [] :=
  ⟨List.nodup_nil, fun e he => (by cases he), List.Pairwise.nil, fun e he => (by cases he), fun h => absurd h m, fun e he => (by cases he)⟩

/-! the layers of the law -/
/-- k layers are found: L all, M those of the last layer -/
structure Lay (D : List Pr) (R : List Int) (s : Int) (k : Nat) (L M : List En) : Prop where
  nd : (keysE L).Nodup
  le : ∀ e ∈ L, Lst D R s e.1 e.2 ∧ e.2.length ≤ k
  all : ∀ x p, Pth D R s x p → p.length ≤ k → x ∈ keysE L
  mm : ∀ e, e ∈ M ↔ e ∈ L ∧ e.2.length = k
  sz : s ∈ R → k ≤ L.length
/-- the next layer, the steps E taken -/
structure Fur (R : List Int) (L M : List En) (E : Int → Int → Prop) (F : List En) : Prop where
  nd : (keysE F).Nodup
  of : ∀ e ∈ F, e.1 ∈ R ∧ e.1 ∉ keysE L ∧ ∃ u ∈ M, E u.1 e.1 ∧ e.2 = u.2 ++ [e.1]
  all : ∀ u ∈ M, ∀ v, E u.1 v → v ∈ R → v ∉ keysE L → ∃ p, (v, p) ∈ F ∧ sle p (u.2 ++ [v])
theorem Lay.start {D : List Pr} {R : List Int} {s : Int} (m : s ∈ R) : Lay D R s 1 [(s, [s])] [(s, [s])] := by
  refine ⟨by simp [keysE], fun e he => ?_, fun x p k l => ?_, fun e => ?_, fun _ => Nat.le_refl _⟩
  · have := (BOut.start (D := D) m).le e he
    rw [List.mem_singleton.mp he] at this ⊢
    exact ⟨this, Nat.le_refl _⟩
  · rw [(k.one l).1]
    simp [keysE]
  · constructor
    · intro h
      refine ⟨h, ?_⟩
      rw [List.mem_singleton.mp h]
      rfl
    · exact fun h => h.1
theorem Lay.none {D : List Pr} {R : List Int} {s : Int} (m : s ∉ R) (k : Nat) : Lay D R s k [] [] :=
  ⟨List.nodup_nil, fun e he => (by cases he), fun x p k l => absurd k.start m, fun e => ⟨fun h => (by cases h), fun h => (by cases h.1)⟩, fun h => absurd h m⟩
theorem Lay.via {D : List Pr} {R : List Int} {s : Int} {k : Nat} {L M : List En} (h : Lay D R s k L M) {v : Int} {q : List Int} (p : Pth D R s v q) (n : v ∉ keysE L) : k < q.length ∧ (q.length = k + 1 → 1 ≤ k → ∃ u ∈ M, Adj D u.1 v ∧ sle (u.2 ++ [v]) q) := by
  have l0 : k < q.length := Nat.lt_of_not_le fun l => n (h.all v q p l)
  refine ⟨l0, fun l k1 => ?_⟩
  cases p with
  | base hs =>
    have : 1 = k + 1 := l
    omega
  | @step c _ p kc ab hb =>
    rw [List.length_append] at l
    have l2 : p.length = k := Nat.succ.inj l
    obtain ⟨pc, hc⟩ := of_keysE (h.all c p kc (Nat.le_of_eq l2))
    obtain ⟨lc, lk⟩ := h.le _ hc
    have lk2 : pc.length = k := by
      rcases Nat.lt_or_ge pc.length k with g | g
      · refine absurd (h.all v _ (lc.1.step ab hb) ?_) n
        rw [List.length_append]
        exact g
      · exact Nat.le_antisymm lk g
    exact ⟨(c, pc), (h.mm _).mpr ⟨hc, lk2⟩, ab, sle_app v (lc.2 _ kc)⟩
theorem Lay.next {D : List Pr} {R : List Int} {s : Int} {k : Nat} {L M F : List En} (h : Lay D R s k L M) (k1 : 1 ≤ k) (f : Fur R L M (Adj D) F) (ne : F ≠ []) : Lay D R s (k + 1) (L ++ F) F := by
  have ke : keysE (L ++ F) = keysE L ++ keysE F := List.map_append
  have fl : ∀ e ∈ F, Lst D R s e.1 e.2 ∧ e.2.length = k + 1 := by
    intro e he
    obtain ⟨h1, h2, u, hu, h3, h4⟩ := f.of e he
    obtain ⟨hu1, hu2⟩ := (h.mm u).mp hu
    have el : e.2.length = k + 1 := by rw [h4, List.length_append, hu2]; rfl
    refine ⟨⟨by rw [h4]; exact (h.le u hu1).1.1.step h3 h1, fun q p => ?_⟩, el⟩
    obtain ⟨g1, g2⟩ := h.via p h2
    rcases Nat.lt_or_ge (k + 1) q.length with g | g
    · exact sle_of_len (by omega)
    · obtain ⟨w, hw, ab, l⟩ := g2 (by omega) k1
      obtain ⟨p', hp', l'⟩ := f.all w hw e.1 ab h1 h2
      have : e.2 = p' := by
        have : ∀ {G : List En}, (keysE G).Nodup → ∀ {x : Int} {a b : List Int}, (x, a) ∈ G → (x, b) ∈ G → a = b := by
          intro G
          induction G with
          | nil => intro _ x a b m; cases m
          | cons g G ih =>
            intro nd x a b ma mb
            obtain ⟨n1, n2⟩ := List.nodup_cons.mp nd
            rcases List.mem_cons.mp ma with ma | ma
            · rcases List.mem_cons.mp mb with mb | mb
              · have := ma.trans mb.symm
                exact congrArg Prod.snd this
              · rw [← ma] at n1
                exact absurd (keysE_mem mb) n1
            · rcases List.mem_cons.mp mb with mb | mb
              · rw [← mb] at n1
                exact absurd (keysE_mem ma) n1
              · exact ih n2 ma mb
        exact this f.nd (show (e.1, e.2) ∈ F from he) hp'
      rw [this]
      exact sle_trans l' l
  refine ⟨?_, ?_, ?_, ?_, ?_⟩
  · rw [ke]
    refine List.nodup_append.mpr ⟨h.nd, f.nd, fun x hx y hy e => ?_⟩
    obtain ⟨p, hp⟩ := of_keysE hy
    rw [e] at hx
    exact (f.of _ hp).2.1 hx
  · intro e he
    rcases List.mem_append.mp he with m | m
    · exact ⟨(h.le e m).1, Nat.le_succ_of_le (h.le e m).2⟩
    · exact ⟨(fl e m).1, Nat.le_of_eq (fl e m).2⟩
  · intro x p kp l
    rw [ke]
    by_cases m : x ∈ keysE L
    · exact List.mem_append_left _ m
    · obtain ⟨g1, g2⟩ := h.via kp m
      obtain ⟨w, hw, ab, l⟩ := g2 (by omega) k1
      obtain ⟨p', hp', _⟩ := f.all w hw x ab kp.mem m
      exact List.mem_append_right _ (keysE_mem hp')
  · intro e
    constructor
    · exact fun m => ⟨List.mem_append_right _ m, (fl e m).2⟩
    · rintro ⟨m, l⟩
      rcases List.mem_append.mp m with m | m
      · have := (h.le e m).2
        omega
      · exact m
  · intro m
    rw [List.length_append]
    have := h.sz m
    have : 1 ≤ F.length := by
      cases F with
      | nil => exact absurd rfl ne
      | cons _ _ => exact Nat.le_add_left _ _
    omega
theorem Lay.stop {D : List Pr} {R : List Int} {s : Int} {k : Nat} {L M : List En} (h : Lay D R s k L M) (k1 : 1 ≤ k) (f : Fur R L M (Adj D) []) : AllP D R s L := by
  refine ⟨h.nd, fun e he => (h.le e he).1, fun x p kp => ?_⟩
  induction kp with
  | base hs => exact h.all s [s] (.base hs) k1
  | @step c v p kc ab hb ih =>
    obtain ⟨pc, hc⟩ := of_keysE ih
    obtain ⟨lc, lk⟩ := h.le _ hc
    by_cases m : v ∈ keysE L
    · exact m
    · exfalso
      obtain ⟨g1, _⟩ := h.via (lc.1.step ab hb) m
      rw [List.length_append] at g1
      have g3 : k < pc.length + 1 := g1
      obtain ⟨p', hp', _⟩ := f.all (c, pc) ((h.mm _).mpr ⟨hc, Nat.le_antisymm lk (Nat.lt_succ_iff.mp g3)⟩) v ab hb m
      cases hp'
theorem Lay.full {D : List Pr} {R : List Int} {s : Int} {k : Nat} {L M : List En} (h : Lay D R s k L M) (l : R.length < k) (sub : ∀ l : List Int, l.Nodup → (∀ x ∈ l, x ∈ R) → l.length ≤ R.length) : AllP D R s L := by
  refine ⟨h.nd, fun e he => (h.le e he).1, fun x p kp => ?_⟩
  have h1 := h.sz kp.start
  have h2 := sub (keysE L) h.nd fun x hx => by
    obtain ⟨p, hp⟩ := of_keysE hx
    exact (h.le _ hp).1.1.mem
  unfold keysE at h2
  rw [List.length_map] at h2
  omega
theorem Fur.start (R : List Int) (L M : List En) : Fur R L M (fun _ _ => False) [] :=
  ⟨List.nodup_nil, fun e he => (by cases he), fun _ _ _ h => h.elim⟩
theorem Fur.more {R : List Int} {L M F : List En} {E E' : Int → Int → Prop} (h : Fur R L M E F) (i : ∀ x y, E x y ↔ E' x y) : Fur R L M E' F :=
  ⟨h.nd, fun e he => by
    obtain ⟨h1, h2, u, hu, h3, h4⟩ := h.of e he
    exact ⟨h1, h2, u, hu, (i _ _).mp h3, h4⟩, fun u hu v e => h.all u hu v ((i _ _).mpr e)⟩
/-- a step that is none -/
theorem Fur.skip {R : List Int} {L M F : List En} {E : Int → Int → Prop} (h : Fur R L M E F) (u v : Int) (n : u ∉ keysE M ∨ v ∉ R ∨ v ∈ keysE L) : Fur R L M (fun x y => E x y ∨ x = u ∧ y = v) F :=
  ⟨h.nd, fun e he => by
    obtain ⟨h1, h2, u, hu, h3, h4⟩ := h.of e he
    exact ⟨h1, h2, u, hu, .inl h3, h4⟩, fun w hw v' e h1 h2 => by
    rcases e with e | ⟨rfl, rfl⟩
    · exact h.all w hw v' e h1 h2
    · rcases n with n | n | n
      · exact absurd (keysE_mem (p := w.2) hw) n
      · exact absurd h1 n
      · exact absurd n h2⟩
/-- a step that does not better -/
theorem Fur.worse {R : List Int} {L M F : List En} {E : Int → Int → Prop} (h : Fur R L M E F) {u v : Int} {pu p : List Int} (ndM : ∀ w ∈ M, w.1 = u → w.2 = pu) (m : (v, p) ∈ F) (l : sle p (pu ++ [v])) : Fur R L M (fun x y => E x y ∨ x = u ∧ y = v) F :=
  ⟨h.nd, fun e he => by
    obtain ⟨h1, h2, u, hu, h3, h4⟩ := h.of e he
    exact ⟨h1, h2, u, hu, .inl h3, h4⟩, fun w hw v' e h1 h2 => by
    rcases e with e | ⟨e1, rfl⟩
    · exact h.all w hw v' e h1 h2
    · rw [ndM w hw e1]
      exact ⟨p, m, l⟩⟩
theorem Fur.new {R : List Int} {L M F : List En} {E : Int → Int → Prop} (h : Fur R L M E F) {u v : Int} {pu : List Int} (ndM : ∀ w ∈ M, w.1 = u → w.2 = pu) (um : (u, pu) ∈ M) (vR : v ∈ R) (vL : v ∉ keysE L) (n : v ∉ keysE F) : Fur R L M (fun x y => E x y ∨ x = u ∧ y = v) (F ++ [(v, pu ++ [v])]) := by
  refine ⟨?_, fun e he => ?_, fun w hw v' e h1 h2 => ?_⟩
  · show (List.map _ _).Nodup
    rw [List.map_append]
    refine List.nodup_append.mpr ⟨h.nd, List.pairwise_singleton _ _, fun x hx y hy e => ?_⟩
    rw [List.mem_singleton.mp hy] at e
    rw [e] at hx
    exact n hx
  · rcases List.mem_append.mp he with m | m
    · obtain ⟨h1, h2, u, hu, h3, h4⟩ := h.of e m
      exact ⟨h1, h2, u, hu, .inl h3, h4⟩
    · rw [List.mem_singleton.mp m]
      exact ⟨vR, vL, _, um, .inr ⟨rfl, rfl⟩, rfl⟩
  · rcases e with e | ⟨e1, rfl⟩
    · obtain ⟨p, hp, l⟩ := h.all w hw v' e h1 h2
      exact ⟨p, List.mem_append_left _ hp, l⟩
    · rw [ndM w hw e1]
      exact ⟨_, List.mem_append_right _ (List.mem_singleton.mpr rfl), .inl rfl⟩
def setE (L : List En) (x : Int) (p : List Int) : List En := L.map fun e => if e.1 = x then (x, p) else e
theorem setE_keys (L : List En) (x : Int) (p : List Int) : keysE (setE L x p) = keysE L := by
  unfold keysE setE
  rw [List.map_map]
  refine List.map_congr_left fun e _ => ?_
  show (if e.1 = x then (x, p) else e).1 = e.1
  by_cases h : e.1 = x
  · rw [if_pos h]; exact h.symm
  · rw [if_neg h]
theorem mem_setE {L : List En} {x : Int} {p : List Int} {e : En} (h : e ∈ setE L x p) : e = (x, p) ∨ (e ∈ L ∧ e.1 ≠ x) := by
  obtain ⟨f, hf, e2⟩ := List.mem_map.mp h
  by_cases c : f.1 = x
  · rw [if_pos c] at e2; exact .inl e2.symm
  · rw [if_neg c] at e2; rw [← e2]; exact .inr ⟨hf, c⟩
theorem setE_mem {L : List En} {x : Int} {p : List Int} (h : x ∈ keysE L) : (x, p) ∈ setE L x p := by
  obtain ⟨q, hq⟩ := of_keysE h
  exact List.mem_map.mpr ⟨_, hq, if_pos rfl⟩
theorem setE_old {L : List En} {x : Int} {p : List Int} {e : En} (h : e ∈ L) (n : e.1 ≠ x) : e ∈ setE L x p := List.mem_map.mpr ⟨e, h, if_neg n⟩
theorem Fur.better {R : List Int} {L M F : List En} {E : Int → Int → Prop} (h : Fur R L M E F) {u v : Int} {pu p : List Int} (ndM : ∀ w ∈ M, w.1 = u → w.2 = pu) (um : (u, pu) ∈ M) (vR : v ∈ R) (vL : v ∉ keysE L) (m : (v, p) ∈ F) (uq : ∀ q, (v, q) ∈ F → q = p) (l : sle (pu ++ [v]) p) : Fur R L M (fun x y => E x y ∨ x = u ∧ y = v) (setE F v (pu ++ [v])) := by
  refine ⟨by rw [setE_keys]; exact h.nd, fun e he => ?_, fun w hw v' e h1 h2 => ?_⟩
  · rcases mem_setE he with m | ⟨m, _⟩
    · rw [m]
      exact ⟨vR, vL, _, um, .inr ⟨rfl, rfl⟩, rfl⟩
    · obtain ⟨h1, h2, u, hu, h3, h4⟩ := h.of e m
      exact ⟨h1, h2, u, hu, .inl h3, h4⟩
  · have here : (v, pu ++ [v]) ∈ setE F v (pu ++ [v]) := setE_mem (keysE_mem m)
    rcases e with e | ⟨e1, rfl⟩
    · obtain ⟨q, hq, l2⟩ := h.all w hw v' e h1 h2
      by_cases c : v' = v
      · subst c
        rw [uq q hq] at l2
        exact ⟨_, here, sle_trans l l2⟩
      · exact ⟨q, setE_old hq c, l2⟩
    · rw [ndM w hw e1]
      exact ⟨_, here, .inl rfl⟩

abbrev sFp : Stmt := topS 13
abbrev sRea : Stmt := topS 0
abbrev sPcs : Stmt := topS 0
theorem u1 {u : Nat} (h : u + 64 < cLine) : u + 1 < cLine := by omega
theorem ints_len {r : Nat} {l : List Int} (nd : l.Nodup) (h : ∀ x ∈ l, 0 ≤ x ∧ x < r) : l.length ≤ r := by
  have h1 : (l.map Int.toNat).Nodup := by
    refine List.pairwise_map.mpr (List.Pairwise.imp_of_mem (fun {x y} hx hy ne e => ?_) nd)
    have b1 := h x hx
    have b2 := h y hy
    omega
  have h2 := nat_nodup_len _ (List.range r) h1 fun c hc => by
    obtain ⟨x, hx, rfl⟩ := List.mem_map.mp hc
    have := h x hx
    exact List.mem_range.mpr (by omega)
  rw [List.length_map, List.length_range] at h2
  exact h2
theorem inI (j : Int) (l : List Int) : inV (.int j) (l.map V.int) = decide (j ∈ l) := by
  induction l with
  | nil => rfl
  | cons x l ih =>
    have e : inV (.int j) ((x :: l).map V.int) = (eqV (.int x) (.int j) || inV (.int j) (l.map V.int)) := rfl
    rw [e, ih]
    have e2 : eqV (.int x) (.int j) = decide (x = j) := by
      unfold eqV
      by_cases h : x = j
      · subst h
        simp
      · simp [h]
    rw [e2]
    by_cases h : j = x
    · subst h
      simp
    · have h' : ¬ x = j := fun z => h z.symm
      simp [h, h']
theorem flI (l : List Int) : (l.map V.int).all flatV = true := by
  rw [List.all_eq_true]
  intro v hv
  obtain ⟨x, _, rfl⟩ := List.mem_map.mp hv
  rfl
theorem same_sqT {K : PySem.W.Frag} {H H' : Hp} {a : Addr} {xs : List V} (e : Same H H') (h : SqT K H a xs) : SqT K H' a xs := by
  rcases h with (h | ⟨o, h⟩) | h
  · exact .inl (.inl (e _ _ h))
  · exact .inl (.inr ⟨o, e _ _ h⟩)
  · exact .inr h
/-- what the dict of first_paths holds: rooms and their paths -/
def IsE (H : Hp) (kv : Key × V) (e : En) : Prop := kv.1 = Sum.inl e.1 ∧ ∃ t, kv.2 = V.ref t ∧ H t = some (.tup (e.2.map V.int))
structure Dq (H : Hp) (d : Addr) (kvs : List (Key × V)) (L : List En) : Prop where
  at_ : H d = some (.dK kvs)
  pr : Paired (IsE H) kvs L
  vl : ∀ e ∈ L, e.2.length ≤ L.length
theorem Dq.len {H : Hp} {d : Addr} {kvs : List (Key × V)} {L : List En} (h : Dq H d kvs L) : kvs.length = L.length := Paired.length h.pr
theorem pr_keys {H : Hp} : ∀ {kvs : List (Key × V)} {L : List En}, Paired (IsE H) kvs L → kvs.map (·.1) = (keysE L).map Sum.inl
  | _, _, .nil => rfl
  | _, _, .cons h t => by
    have e : _ :: _ = _ :: _ := congr (congrArg List.cons h.1) (pr_keys t)
    exact e
theorem pr_get {H : Hp} {x : Int} : ∀ {kvs : List (Key × V)} {L : List En}, Paired (IsE H) kvs L → (valV kvs (Sum.inl x : Key) = none ∧ x ∉ keysE L) ∨ ∃ p t, (x, p) ∈ L ∧ valV kvs (Sum.inl x : Key) = some (V.ref t) ∧ H t = some (.tup (p.map V.int))
  | _, _, .nil => .inl ⟨rfl, fun h => by cases h⟩
  | kv :: kvs, e :: L, .cons h t => by
    obtain ⟨h1, u, h2, h3⟩ := h
    by_cases c : e.1 = x
    · refine .inr ⟨e.2, u, ?_, ?_, h3⟩
      · rw [← c]; exact List.mem_cons_self
      · rw [valV_pos (h1.trans (by rw [c])), h2]
    · have n : ¬ kv.1 = (Sum.inl x : Key) := fun z => c (Sum.inl.inj (h1.symm.trans z))
      rw [valV_neg n]
      rcases pr_get t with ⟨g1, g2⟩ | ⟨p, w, g1, g2, g3⟩
      · refine .inl ⟨g1, fun m => ?_⟩
        rcases List.mem_cons.mp m with m | m
        · exact c m.symm
        · exact g2 m
      · exact .inr ⟨p, w, List.mem_cons_of_mem _ g1, g2, g3⟩
theorem Dq.same {H H' : Hp} {d : Addr} {kvs : List (Key × V)} {L : List En} (h : Dq H d kvs L) (s : Same H H') : Dq H' d kvs L := ⟨s _ _ h.at_, Paired.mapP h.pr fun _ _ q => ⟨q.1, by
  obtain ⟨t, e1, e2⟩ := q.2
  exact ⟨t, e1, s _ _ e2⟩⟩, h.vl⟩
theorem pr_upd {H : Hp} {a : Addr} {o o' : HO} {kvs : List (Key × V)} {L : List En} (h : Paired (IsE H) kvs L) (ha : H a = some o) (n : ∀ xs, o ≠ .tup xs) : Paired (IsE (upd H a o')) kvs L := Paired.mapP h fun _ _ q => ⟨q.1, by
  obtain ⟨t, e1, e2⟩ := q.2
  exact ⟨t, e1, by rw [upd_ne (ne_of e2 ha (n _).symm)]; exact e2⟩⟩
theorem Dq.ch {H : Hp} {d wt : Addr} {us vs : List V} {kvs : List (Key × V)} {L : List En} (h : Dq H d kvs L) (ne : d ≠ wt) (hw : H wt = some (.lst us)) : Dq (upd H wt (.lst vs)) d kvs L := ⟨by rw [upd_ne ne]; exact h.at_, pr_upd h.pr hw (fun _ z => by cases z), h.vl⟩
theorem Dq.put {H : Hp} {d t : Addr} {b : Int} {p : List Int} {kvs : List (Key × V)} {L : List En} (h : Dq H d kvs L) (n : valV kvs (Sum.inl b : Key) = none) (ht : H t = some (.tup (p.map V.int))) (hx : p.length ≤ L.length + 1) : Dq (upd H d (.dK (putK kvs (Sum.inl b) (.ref t)))) d (putK kvs (Sum.inl b) (.ref t)) (L ++ [(b, p)]) := by
  have e := putK_new (V.ref t) n
  refine ⟨upd_same, ?_, fun f hf => ?_⟩
  · rw [e]
    exact Paired.snoc (pr_upd h.pr h.at_ (fun _ z => by cases z)) ⟨rfl, t, rfl, by rw [upd_ne (ne_of ht h.at_ (by intro z; cases z))]; exact ht⟩
  · rw [List.length_append]
    rcases List.mem_append.mp hf with m | m
    · have := h.vl f m
      exact Nat.le_add_right_of_le this
    · rw [List.mem_singleton.mp m]
      exact hx
theorem for_iterW {wi : TI} {g : TG} {tb : TS} {D : Ends} {σ : L2.St} {H : Hp} (h : wi σ H fun J H1 => tFor (fun _ H R => R J H) g tb D σ H1) : tFor wi g tb D σ H := h
def SeqI (K : PySem.W.Frag) (H : Hp) (o : Addr) (R : List Int) : Prop := SqL K H o (R.map V.int) ∨ SqT K H o (R.map V.int)
section
variable {P : Program} {w : World} {K : PySem.W.Frag} {mg : Str → Option Value} {base : Heap}
theorem scFp : FnScope ["steps", "start", "inside", "paths", "waiting", "room", "other"] ["steps", "start", "inside"] (defScope sFp) := ⟨rfl, rfl, rfl, by decide +kernel, rfl, by decide +kernel, by decide +kernel⟩
def spFq (K : PySem.W.Frag) (C g : Addr) : Sp := fun vs H Q _ => ∃ (q o p : Addr) (s : Int) (R : List Int) (r : Nat) (D : List Pr) (own : List Addr), vs = [.ref q, .int s, .ref o] ∧ H q = some (.met g p) ∧ HouseAt C H p r D own ∧ SeqI K H o R ∧ (∀ x ∈ R, 0 ≤ x ∧ x < r) ∧
  ∀ (d : Addr) (kvs : List (Key × V)) (L : List En) (H' : Hp), Same H H' → H d = none → Dq H' d kvs L → AllP D R s L → Q (.ref d) H'
theorem ok_fq {f C g : Addr} {fd fdn : FuncData} (F : Fun K "first_paths" "first_paths" sFp f fd) (T : Bi mg) (U : Hs K mg C) (bm : BMeth K C "neighbours" g) (Gn : FnOk P w K mg base CX0 1 g fdn ["self", "room"] (spHnear C)) (bn : Binds K fdn ["self", "room"] []) : FnOk P w K mg base CX0 2 f fd ["steps", "start", "inside"] (spFq K C g) := by
  refine F.ok scFp (fun vs H Q E h => ?_) (fun cdv A outer s0 H vs Q E hr h => ?_)
  · obtain ⟨q, o, p, s, R, r, D, own, rfl, _⟩ := h
    rfl
  · obtain ⟨q, o, p, s, R, r, D, own, rfl, hq, hh, ho, hR, ret⟩ := h
    refine ⟨_, (pss_cons (ps_set (i := 3) scFp.nd rfl (Or.inl rfl) pe_dnewK)
      (pss_cons (ps_if (pt_cmpR op_in_seq (pv 1) (pv 2) (by rfl))
      (pss_one (ps_dput (u1 hr.units) (pv 3) (pv 1) (pe_tup (pa_cons (pv 1) pa_nil)) rfl))
      pss_nil)
      (pss_cons (ps_set (i := 4) scFp.nd rfl (Or.inl rfl) (pe_callTy (call_listD rfl) (by rfl) T.list (by decide +kernel) (pa_cons (pv 3) pa_nil)))
      (pss_cons (ps_while PassesOwn.never (pt_truth (pv 4) (by intro _; rfl))
      (pss_cons (ps_set (i := 5) scFp.nd rfl (Or.inl rfl) (pe_bm PySem.F.plainAttrs_list PySem.F.slot_list_pop PySem.F.type_list_pop mt_popAt (pv 4) (pa_cons pe_int pa_nil)))
        (pss_one (ps_for PassesOwn.never rfl (pi_list (pe_callM (i := 0) (Gn.raw bn .nil) (hr.mono (by decide)) (by rfl) (.inl rfl) bm.fi pass0 (pa_cons (pv 5) pa_nil))) (pg_name (i := 6) scFp.nd rfl (Or.inl rfl))
        (pss_one (ps_if (PW.pt (pw_and (pt_cmpR op_in_seq (pv 6) (pv 2) (by rfl)) (pw_and1 (pt_cmp (pc_dnotin (u1 hr.units) (pv 6) (pv 3))))))
          (pss_cons (ps_dput (u1 hr.units) (pv 3) (pv 6) (pe_op op_catT (pe_dget (u1 hr.units) (pv 3) (pv 5) (fun _ _ => rfl)) (pe_tup (pa_cons (pv 6) pa_nil))) rfl)
            (pss_one (ps_expr (pe_bm PySem.F.plainAttrs_list PySem.F.slot_list_append PySem.F.type_list_append mt_append (pv 4) (pa_cons (pv 6) pa_nil)))))
          pss_nil))))))
      (pss_one (ps_ret (pv 3))))))), ?_⟩
    walk_at "rd"
    intro d nd
    have s1 : Same H (upd H d (HO.dK [])) := same_upd nd
    have hd1 : upd H d (HO.dK []) d = some (.dK []) := upd_same
    have hoS : ∀ H', Same H H' → SeqI K H' o R := fun H' sm => by
      rcases ho with h | h
      · exact .inl (sm.seq h)
      · exact .inr (same_sqT sm h)
    refine ⟨o, _, rfl, hoS _ s1, rfl, flI _, ?_⟩
    rw [inI]
    refine ⟨_, rfl, ?_⟩
    by_cases m : s ∈ R
    rw [decide_eq_true m]
    refine iteT ⟨_, rfl, (by show 1 ≤ sizeLine; decide), fun t nt => ⟨_, rfl, _, rfl, d, _, rfl, DPut.k (k := Sum.inl s) (same_upd nt _ _ hd1) (by decide), ?_⟩⟩
    have s2 : Same H (upd (upd (upd H d (HO.dK [])) t (HO.tup [V.int s])) d (HO.dK (putK [] (Sum.inl s) (V.ref t)))) := same_ch (s1.trans (same_upd nt)) nd
    have pk : ∃ kvs L, Dq (upd (upd (upd H d (HO.dK [])) t (HO.tup [V.int s])) d (HO.dK (putK [] (Sum.inl s) (V.ref t)))) d kvs L ∧ BOut D R s [] L := by
      have ntd : t ≠ d := fun z => by
        rw [z, upd_same] at nt
        cases nt
      refine ⟨[(Sum.inl s, V.ref t)], [(s, [s])], ⟨upd_same, .cons ⟨rfl, t, rfl, by rw [upd_ne ntd]; exact upd_same⟩ .nil, fun e he => ?_⟩, BOut.start m⟩
      rw [List.mem_singleton.mp he]
      exact Nat.le_refl _
    generalize upd (upd (upd H d (HO.dK [])) t (HO.tup [V.int s])) d (HO.dK (putK [] (Sum.inl s) (V.ref t))) = H1 at s2 pk
    clear nt hd1
    rotate_left
    rw [decide_eq_false m]
    refine iteF ?_
    have s2 := s1
    have pk : ∃ kvs L, Dq (upd H d (HO.dK [])) d kvs L ∧ BOut D R s [] L := ⟨[], [], ⟨upd_same, .nil, fun e he => by cases he⟩, BOut.none m⟩
    generalize upd H d (HO.dK []) = H1 at s1 s2 hd1 pk
    clear hd1
    all_goals
      clear s1
      obtain ⟨kvs, L, dk, fi⟩ := pk
      walk_at "rd"
      refine ⟨_, .inl dk.at_, fun wt nwt => ?_⟩
      have r12 := hh.r12
      have dok : ∀ d ∈ D, d.1 < d.2 := fun d hd => (hh.ok.ok d hd).2.1
      have klen : ∀ L : List En, (keysE L).Nodup → (∀ e ∈ L, Lst D R s e.1 e.2) → L.length ≤ r := fun L nd le => by
        have := ints_len nd fun x hx => by
          obtain ⟨p, hp⟩ := of_keysE hx
          exact hR x (le _ hp).1.mem
        unfold keysE at this
        rw [List.length_map] at this
        exact this
      have dwt : d ≠ wt := ne_of_none dk.at_ nwt
      have nw0 : H wt = none := s2.free nwt
      have e0 : kvs.map (fun kv => kV kv.1) = (keysE L).map V.int := by
        rw [show kvs.map (fun kv => kV kv.1) = (kvs.map (·.1)).map kV by rw [List.map_map]; rfl, pr_keys dk.pr, List.map_map]
        rfl
      rw [e0]
      obtain ⟨Pv, hPv⟩ : ∃ Pv : L2.St → Hp → Prop, Pv = (fun σ H' => ∃ (kvs : List (Key × V)) (A W : List En) (v5 v6 : Option V), σ = [some (.ref q), some (.int s), some (.ref o), some (.ref d), some (.ref wt), v5, v6] ∧ Same H H' ∧ Dq H' d kvs (A ++ W) ∧ BOut D R s A W ∧ H' wt = some (.lst ((keysE W).map V.int)) ∧ 2 * (r - kvs.length) + W.length ≤ 100) := ⟨_, rfl⟩
      obtain ⟨mu, hmu⟩ : ∃ mu : L2.St → Hp → Nat, mu = (fun _ H' => match H' d, H' wt with
        | some (.dK kvs), some (.lst ws) => 2 * (r - kvs.length) + ws.length
        | _, _ => 0) := ⟨_, rfl⟩
      refine while_by Pv mu ?h0 (fun σ H2 pv => ?hs) (fun σ H2 Q1 Q2 hi h => ?mono)
      case h0 =>
        rw [hPv]
        have kl := klen L fi.nd fi.le
        have dl := dk.len
        exact ⟨kvs, [], L, none, none, rfl, s2.trans (same_upd nwt), dk.same (same_upd nwt), fi, upd_same, by omega⟩
      case mono =>
        obtain ⟨v, g1, k, tv, q1⟩ := h
        exact ⟨v, g1, k, tv, hi _ _ q1⟩
      case hs =>
        rw [hPv] at pv
        obtain ⟨kvs, A, W, v5, v6, rfl, sm, dk, fi, hw, bd⟩ := pv
        refine ⟨.ref wt, rfl, !((keysE W).map V.int).isEmpty, .inl ⟨_, SqL.of hw, rfl⟩, ?_⟩
        cases W with
        | nil =>
          refine iteF ?_
          walk_at "rd"
          rw [List.append_nil] at dk
          exact ret d kvs A H2 sm nd dk fi.end
        | cons w0 ws =>
          have w0R := hR w0.1 (fi.le w0 (by simp)).1.mem
          obtain ⟨w0, p0⟩ := w0
          obtain ⟨n0, rfl⟩ : ∃ n : Nat, w0 = (n : Int) := ⟨w0.toNat, by have := w0R.1; simp only at this; omega⟩
          have fi := fi.go
          refine iteT ?_
          walk_at "rd"
          refine ⟨.inl ⟨rfl, _, SqL.of hw⟩, ?_⟩
          walk_at "rd"
          have sq : PySem.seqIndex? 0 ((keysE (((n0 : Int), p0) :: ws)).map V.int).length = some 0 := by
            unfold PySem.seqIndex?
            simp [keysE]
          refine ⟨wt, _, 0, 0, .int n0, rfl, rfl, hw, by decide, by decide, sq, rfl, ?_⟩
          have mu0 : mu [some (V.ref q), some (V.int s), some (V.ref o), some (V.ref d), some (V.ref wt), v5, v6] H2 = 2 * (r - kvs.length) + (ws.length + 1) := by
            rw [hmu]
            show (match H2 d, H2 wt with
              | some (.dK kvs), some (.lst ws) => 2 * (r - kvs.length) + ws.length
              | _, _ => 0) = _
            rw [dk.at_, hw]
            show _ + (List.map V.int _).length = _
            unfold keysE
            rw [List.length_map, List.length_map]
            rfl
          rw [mu0]
          have bd2 : 2 * (r - kvs.length) + (ws.length + 1) ≤ 100 := bd
          generalize hM : 2 * (r - kvs.length) + (ws.length + 1) = M at bd2
          show tFor _ _ _ _ _ (upd H2 wt (HO.lst ((keysE ws).map V.int)))
          have s3 : Same H (upd H2 wt (HO.lst ((keysE ws).map V.int))) := same_ch sm nw0
          have hw3 : upd H2 wt (HO.lst ((keysE ws).map V.int)) wt = some (.lst ((keysE ws).map V.int)) := upd_same
          have dk3 : Dq (upd H2 wt (HO.lst ((keysE ws).map V.int))) d kvs (A ++ ((n0 : Int), p0) :: ws) := dk.ch dwt hw
          generalize upd H2 wt (HO.lst ((keysE ws).map V.int)) = H3 at s3 hw3 dk3 ⊢
          refine for_iterW ?_
          refine ⟨q, p, rfl, _, rfl, s3 _ _ hq, p, r, D, own, n0, rfl, hh.same s3, by omega, fun nb nnb => ?_⟩
          have nb0 : H nb = none := s3.free nnb
          have nbw : wt ≠ nb := ne_of_none hw3 nnb
          have nbd : d ≠ nb := ne_of_none dk3.at_ nnb
          obtain ⟨Pw, hPw⟩ : ∃ Pw : Nat → L2.St → Hp → Prop, Pw = (fun j σ H' => ∃ (kvs' : List (Key × V)) (W' : List En) (v6 : Option V), σ = [some (.ref q), some (.int s), some (.ref o), some (.ref d), some (.ref wt), some (.int n0), v6] ∧ Same H H' ∧ H' nb = some (.lst ((nearF (n0 : Nat) D).map V.int)) ∧ Dq H' d kvs' (A ++ ((n0 : Int), p0) :: W') ∧ BIn D R s A ((n0 : Int), p0) W' ((nearF (n0 : Nat) D).take j) ∧ H' wt = some (.lst ((keysE W').map V.int)) ∧ 2 * (r - kvs'.length) + W'.length + 1 ≤ M) := ⟨_, rfl⟩
          refine ⟨nb, rfl, ⟨_, SqL.of upd_same⟩, for_list (K := K) (a := nb) (xs := (nearF (n0 : Nat) D).map V.int) Pw ?i0 (fun j σ H' _ pv => ?il) (fun j v σ H' gv pv => ?ib) (fun σ H' pv => ?ie)⟩
          case i0 =>
            rw [hPw]
            exact ⟨kvs, ws, v6, rfl, s3.trans (same_upd nnb), upd_same, dk3.same (same_upd nnb), (by rw [List.take_zero]; exact fi), same_upd nnb _ _ hw3, by omega⟩
          case il =>
            rw [hPw] at pv
            obtain ⟨_, _, _, _, _, hn, _⟩ := pv
            exact SqL.of hn
          case ie =>
            rw [hPw] at pv
            obtain ⟨kvs', W', v6, rfl, s5, hn, dk5, fi5, hw5, le5⟩ := pv
            rw [List.length_map, List.take_length] at fi5
            refine ⟨?_, ?_⟩
            · rw [hPv]
              refine ⟨kvs', A ++ [((n0 : Int), p0)], W', some (.int n0), v6, rfl, s5, (by rw [List.append_assoc]; exact dk5), fi5.done (fun b _ ab => (mem_nearF dok).mpr ab), hw5, by omega⟩
            · rw [hmu]
              show (match H' d, H' wt with
                | some (.dK kvs), some (.lst ws) => 2 * (r - kvs.length) + ws.length
                | _, _ => 0) < _
              rw [dk5.at_, hw5]
              show _ + (List.map V.int _).length < _
              unfold keysE
              rw [List.length_map, List.length_map]
              omega
          case ib =>
            have nxt : ∀ (kvs' : List (Key × V)) (W' : List En) (v6 : Option V) (H' : Hp), Same H H' → H' nb = some (.lst ((nearF (n0 : Nat) D).map V.int)) → Dq H' d kvs' (A ++ ((n0 : Int), p0) :: W') → BIn D R s A ((n0 : Int), p0) W' ((nearF (n0 : Nat) D).take (j + 1)) → H' wt = some (.lst ((keysE W').map V.int)) → 2 * (r - kvs'.length) + W'.length + 1 ≤ M → Pw (j + 1) [some (.ref q), some (.int s), some (.ref o), some (.ref d), some (.ref wt), some (.int n0), v6] H' := fun kvs' W' v6 H' h1 h2 h3 h4 h5 h6 => by
              rw [hPw]
              exact ⟨kvs', W', v6, rfl, h1, h2, h3, h4, h5, h6⟩
            rw [hPw] at pv
            obtain ⟨kvs', W', v6, rfl, s5, hn, dk5, fi5, hw5, le5⟩ := pv
            rw [List.getElem?_map] at gv
            cases gd : (nearF (n0 : Nat) D)[j]? with
            | none => rw [gd] at gv; cases gv
            | some b =>
              rw [gd] at gv
              have ev := Option.some.inj gv
              subst ev
              have adj : Adj D n0 b := (mem_nearF dok).mp (List.mem_of_getElem? gd)
              have tk : (nearF (n0 : Nat) D).take (j + 1) = (nearF (n0 : Nat) D).take j ++ [b] := by rw [List.take_add_one, gd]; rfl
              rw [tk] at nxt
              walk_at "rd"
              refine ⟨o, _, rfl, hoS _ s5, rfl, flI _, ?_⟩
              rw [inI]
              refine ⟨_, rfl, ?_⟩
              by_cases bR : b ∈ R
              · rw [decide_eq_true bR]
                refine iteT ?_
                refine ⟨_, rfl, _, rfl, d, _, rfl, DGet.k (k := Sum.inl b) dk5.at_, ?_⟩
                refine ⟨_, rfl, ?_⟩
                rcases pr_get (x := b) dk5.pr with ⟨vn, bk⟩ | ⟨pb, tb, mb, vb, _⟩
                · rw [vn]
                  refine iteT ?_
                  rcases pr_get (x := (n0 : Int)) dk5.pr with ⟨_, nk⟩ | ⟨pp, t0, mp, ev0, ht0⟩
                  · exact absurd (keysE_mem (p := p0) (by simp)) nk
                  have pe : pp = p0 := (fi5.le _ mp).uniq (fi5.le ((n0 : Int), p0) (by simp))
                  subst pe
                  have fi6 := fi5.add adj bR bk (fun c hc => by
                    obtain ⟨i, hi, e⟩ := List.getElem?_of_mem hc |>.imp fun i h => (⟨(List.getElem?_eq_some_iff.mp h).1, h⟩ : i < _ ∧ _)
                    have lt := nearF_lt (i := (n0 : Int)) hh.ok.asc dok
                    rw [List.length_take] at hi
                    rw [List.getElem?_take_of_lt (by omega)] at e
                    have h1 := List.getElem?_eq_some_iff.mp e
                    have h2 := List.getElem?_eq_some_iff.mp gd
                    have := List.pairwise_iff_getElem.mp lt i j h1.1 h2.1 (by omega)
                    rw [h1.2, h2.2] at this
                    exact this)
                  have kl := klen _ fi6.nd fi6.le
                  have dl := dk5.len
                  have kl2 : kvs'.length + 1 ≤ r := by
                    rw [dl]
                    rw [List.length_append, List.length_cons] at kl ⊢
                    rw [List.length_append] at kl
                    exact kl
                  have pl0 := dk5.vl _ mp
                  have pz : pp ≠ [] := fun z => by
                    have := (fi5.le _ mp).1.ne
                    rw [z] at this
                    exact Nat.not_succ_le_zero 0 this
                  refine ⟨_, rfl, _, rfl, d, .ref t0, rfl, (by rw [← ev0]; exact DGet.k (k := Sum.inl (n0 : Int)) dk5.at_), _, rfl, (by show 1 ≤ sizeLine; decide), fun t1 nt1 => ?_⟩
                  refine ⟨t0, t1, pp.map V.int, [.int b], rfl, rfl, SqT.of (same_upd nt1 _ _ ht0), SqT.of upd_same, (fun z => pz (List.map_eq_nil_iff.mp z)), Nat.le_of_lt (len_big (by rw [List.length_map]; show pp.length + 1 ≤ 100000; simp only at pl0; omega)), (fun z => by cases z), fun _ t2 nt2 => ?_⟩
                  have s56 : Same H' (upd (upd H' t1 (HO.tup [V.int b])) t2 (HO.tup (pp.map V.int ++ [V.int b]))) := (same_upd nt1).trans (same_upd nt2)
                  have ht2 : upd (upd H' t1 (HO.tup [V.int b])) t2 (HO.tup (pp.map V.int ++ [V.int b])) t2 = some (.tup ((pp ++ [b]).map V.int)) := by rw [List.map_append]; exact upd_same
                  generalize upd (upd H' t1 (HO.tup [V.int b])) t2 (HO.tup (pp.map V.int ++ [V.int b])) = H6 at s56 ht2
                  have dk6 := dk5.same s56
                  refine ⟨_, rfl, _, rfl, d, _, rfl, DPut.k (k := Sum.inl b) dk6.at_ (len_big (by omega)), ?_⟩
                  have dk7 := dk6.put vn ht2 (by rw [List.length_append]; simp only at pl0; show pp.length + 1 ≤ _; omega)
                  have s7 := same_ch (o := HO.dK (putK kvs' (Sum.inl b) (V.ref t2))) (s5.trans s56) nd
                  have hw7 : upd H6 d (HO.dK (putK kvs' (Sum.inl b) (V.ref t2))) wt = some (.lst ((keysE W').map V.int)) := by
                    rw [upd_ne dwt.symm]
                    exact s56 _ _ hw5
                  have hn7 : upd H6 d (HO.dK (putK kvs' (Sum.inl b) (V.ref t2))) nb = some (.lst ((nearF (n0 : Nat) D).map V.int)) := by
                    rw [upd_ne nbd.symm]
                    exact s56 _ _ hn
                  have pl : (putK kvs' (Sum.inl b : Key) (V.ref t2)).length = kvs'.length + 1 := by rw [putK_new _ vn, List.length_append]; rfl
                  generalize upd H6 d (HO.dK (putK kvs' (Sum.inl b) (V.ref t2))) = H7 at dk7 s7 hw7 hn7
                  generalize putK kvs' (Sum.inl b : Key) (V.ref t2) = kv7 at dk7 pl
                  walk_at "rd"
                  have wl : W'.length ≤ 100 := by omega
                  refine ⟨.inl ⟨rfl, _, SqL.of hw7⟩, _, hw7, len_big (by unfold keysE; rw [List.length_map, List.length_map]; omega), ?_⟩
                  refine nxt kv7 (W' ++ [(b, pp ++ [b])]) _ _ (same_ch s7 nw0) (by rw [upd_ne nbw.symm]; exact hn7) (by rw [List.append_assoc] at dk7; exact dk7.ch dwt hw7) fi6 (by rw [upd_same]; unfold keysE; rw [List.map_append, List.map_append]; rfl) (by rw [pl, List.length_append]; show _ + (W'.length + 1) + 1 ≤ M; omega)
                · rw [vb]
                  refine iteF ?_
                  exact nxt kvs' W' _ H' s5 hn dk5 (fi5.skip fun _ => keysE_mem mb) hw5 le5
              · rw [decide_eq_false bR]
                refine iteF ?_
                exact nxt kvs' W' _ H' s5 hn dk5 (fi5.skip fun h => absurd h bR) hw5 le5
end

abbrev sFst : Stmt := topS 12
abbrev sPdr : Stmt := topS 0
section
variable {K : PySem.W.Frag} {a b : Addr} {xs ys : List V}
theorem walk_zipT {n : Nat} (hn : n = min xs.length ys.length) : Walk (RZ.ItzT K a b) n (fun H => SqT K H a xs ∧ SqT K H b ys) (YPair (fun i => xs[i]?) (fun i => ys[i]?)) := by
  subst hn
  refine ⟨fun i _ hi q => ?_, fun _ q => ⟨xs, ys, q.1, q.2, by omega⟩, fun i H v H' _ q y => ?_⟩
  · have h1 : i < xs.length := by omega
    have h2 : i < ys.length := by omega
    exact ⟨xs, ys, xs[i], ys[i], q.1, q.2, by simp [h1], by simp [h2]⟩
  · obtain ⟨T, x, z, h1, h2, h3, h4, h5⟩ := y
    exact ⟨T, x, z, h1, h2, h3, h4 xs q.1, h5 ys q.2⟩
end
/-! ### the doors along a path -/
def dOf (a b : Int) : Pr := (if b < a then b else a, if b > a then b else a)
def alongI (ps : List Int) (i : Nat) : List Pr := (List.range i).map fun k => dOf (ps.getD k 0) (ps.getD (k + 1) 0)
def along (ps : List Int) : List Pr := alongI ps (ps.length - 1)
theorem alongI_succ (ps : List Int) (i : Nat) : alongI ps (i + 1) = alongI ps i ++ [dOf (ps.getD i 0) (ps.getD (i + 1) 0)] := by
  unfold alongI
  rw [List.range_succ, List.map_append]
  rfl
theorem dOf_comm (a b : Int) : dOf a b = dOf b a := by
  unfold dOf
  rcases Int.lt_trichotomy a b with h | h | h
  · rw [if_neg (show ¬ b < a by omega), if_pos (show b > a from h), if_pos (show a < b from h), if_neg (show ¬ a > b by omega)]
  · rw [h]
  · rw [if_pos (show b < a from h), if_neg (show ¬ b > a by omega), if_neg (show ¬ a < b by omega), if_pos (show a > b from h)]
theorem along_rev (ps : List Int) : along ps.reverse = (along ps).reverse := by
  unfold along alongI
  rw [List.length_reverse]
  refine List.ext_getElem (by simp) fun i h1 h2 => ?_
  rw [List.length_map, List.length_range] at h1
  rw [List.getElem_map, List.getElem_range, List.getElem_reverse, List.getElem_map, List.getElem_range]
  simp only [List.length_map, List.length_range]
  have g : ∀ k, k < ps.length → ps.reverse.getD k 0 = ps.getD (ps.length - 1 - k) 0 := fun k hk => by
    rw [List.getD_eq_getElem?_getD, List.getD_eq_getElem?_getD, List.getElem?_reverse hk]
  rw [g _ (by omega), g _ (by omega), dOf_comm]
  congr 2 <;> omega
/-- sorted, each as often as it comes -/
def SrtE (E : List Pr) (ps : List Int) : Prop := E.Perm (along ps) ∧ E.Pairwise fun x y => ¬ lt2 y x
theorem SrtE.uniq {E F : List Pr} {ps qs : List Int} (h : SrtE E ps) (k : SrtE F qs) (p : (along ps).Perm (along qs)) : E = F := by
  refine List.Perm.eq_of_pairwise (fun a b _ _ h1 h2 => ?_) h.2 k.2 (h.1.trans (p.trans k.1.symm))
  unfold lt2 at h1 h2
  obtain ⟨a1, a2⟩ := a
  obtain ⟨b1, b2⟩ := b
  simp only at h1 h2
  have : a1 = b1 ∧ a2 = b2 := by omega
  rw [this.1, this.2]
theorem SrtE.len {E : List Pr} {ps : List Int} (h : SrtE E ps) : E.length = ps.length - 1 := by
  rw [h.1.length_eq]
  unfold along alongI
  rw [List.length_map, List.length_range]
theorem srtE_of {H : Hp} {ys : List V} {us : List V} {ps : List Int} (pm : ys.Perm us) (e : us.map (kH H) = along ps) (h : SrtO.Srtd (ltP (kH H)) ys) : SrtE (ys.map (kH H)) ps := by
  refine ⟨?_, List.pairwise_map.mpr (List.Pairwise.imp (fun {x y} h => ?_) h)⟩
  · rw [← e]
    exact pm.map _
  · exact SrtO.lexB_no.mp h
section
variable {P : Program} {w : World} {K : PySem.W.Frag} {mg : Str → Option Value} {base : Heap}
theorem scFst : FnScope ["house", "start", "goal", "inside"] ["house", "start", "goal", "inside"] (defScope sFst) := ⟨rfl, rfl, rfl, by decide +kernel, rfl, by decide +kernel, by decide +kernel⟩
def spFst (K : PySem.W.Frag) (C : Addr) : Sp := fun vs H Q _ => ∃ (p o : Addr) (s g : Int) (R : List Int) (r : Nat) (D : List Pr) (own : List Addr), vs = [.ref p, .int s, .int g, .ref o] ∧ HouseAt C H p r D own ∧ SeqI K H o R ∧ (∀ x ∈ R, 0 ≤ x ∧ x < r) ∧
  ∀ (v : V) (H' : Hp), Same H H' → ((∃ q t, v = V.ref t ∧ H' t = some (.tup (q.map V.int)) ∧ Lst D R s g q) ∨ (v = .non ∧ ∀ q, ¬ Pth D R s g q)) → Q v H'
theorem SeqI.same {K : PySem.W.Frag} {H H' : Hp} {o : Addr} {R : List Int} (h : SeqI K H o R) (s : Same H H') : SeqI K H' o R := by
  rcases h with h | h
  · exact .inl (s.seq h)
  · exact .inr (same_sqT s h)
theorem ok_fst {f C g fF : Addr} {fd fdF : FuncData} (F : Fun K "first_path" "first_path" sFst f fd) (T : Bi mg) (U : Hs K mg C) (bm : BMeth K C "neighbours" g) (d_first_paths : Df P w K mg base "first_paths" ["steps", "start", "inside"] 2 (spFq K C g) fF fdF) : FnOk P w K mg base CX0 3 f fd ["house", "start", "goal", "inside"] (spFst K C) := by
  refine F.ok scFst (fun vs H Q E h => ?_) (fun cdv A outer s0 H vs Q E hr h => ?_)
  · obtain ⟨p, o, s, gl, R, r, D, own, rfl, _⟩ := h
    rfl
  · obtain ⟨p, o, s, gl, R, r, D, own, rfl, hh, ho, hR, ret⟩ := h
    refine ⟨_, (pss_one (ps_ret (pe_dget1 (u1 hr.units) (pe_call d_first_paths.ok (hr.mono (by decide)) (by rfl) d_first_paths.at_ d_first_paths.kp d_first_paths.b .nil pass0 (pa_cons (pe_bnd (pv 0) U.cl bm) (pa_cons (pv 1) (pa_cons (pv 3) pa_nil)))) (pv 2) ⟨rfl, by rfl, by rfl, by rfl⟩))), ?_⟩
    unfold tDGet1
    obtain ⟨dx, l0, m0, ls, nss, h1, _⟩ := hh.ex
    walk_at "rd"
    refine ⟨_, rfl, p, dx, _, rfl, h1, hf_no _ _ _ (by decide +kernel) (by decide +kernel) (by decide +kernel), fun q nq => ?_⟩
    have s1 : Same H (upd H q (HO.met g p)) := same_upd nq
    refine ⟨q, o, p, s, R, r, D, own, rfl, upd_same, hh.same s1, ho.same s1, hR, fun d kvs L H' s2 nd dk al => ?_⟩
    refine ⟨d, rfl, .inl ⟨kvs, .inl dk.at_⟩, _, DGet.k (k := Sum.inl gl) dk.at_, ret _ H' (s1.trans s2) ?_⟩
    rcases pr_get (x := gl) dk.pr with ⟨e, n⟩ | ⟨q, t, m, e, ht⟩
    · rw [e]
      exact .inr ⟨rfl, al.no.mp n⟩
    · rw [e]
      exact .inl ⟨q, t, rfl, ht, al.get.mp m⟩
end

/-! ### logs in the heap -/
abbrev Cl := Int × Str
def IsC (H : Hp) (v : V) (c : Cl) : Prop := ∃ t, v = .ref t ∧ H t = some (.tup [.int c.1, .str c.2])
def LG (H : Hp) (vs : List V) (L : List Cl) : Prop := Paired (IsC H) vs L
theorem IsC.kt {H H' : Hp} {v : V} {d : Cl} (h : IsC H v d) (k : KT H H') : IsC H' v d := by
  obtain ⟨t, e, h⟩ := h
  exact ⟨t, e, k _ _ h⟩
theorem LG.kt {H H' : Hp} {vs : List V} {D : List Cl} (h : LG H vs D) (k : KT H H') : LG H' vs D := Paired.mapP h fun _ _ q => q.kt k
theorem LG.len {H : Hp} {vs : List V} {D : List Cl} (h : LG H vs D) : vs.length = D.length := Paired.length h
theorem LG.nil0 (H : Hp) : LG H [] [] := Paired.nil
theorem LG.snoc {H : Hp} {vs : List V} {D : List Cl} {v : V} {d : Cl} (h : LG H vs D) (q : IsC H v d) : LG H (vs ++ [v]) (D ++ [d]) := Paired.snoc h q
theorem pget {α β : Type} {F : α → β → Prop} : ∀ {vs : List α} {D : List β} {i : Nat} {v : α}, Paired F vs D → vs[i]? = some v → ∃ d, D[i]? = some d ∧ F v d
  | _, _, _, _, Paired.nil, e => by simp at e
  | _, _, 0, v, .cons r _, e => by
    have e2 := Option.some.inj e
    subst e2
    exact ⟨_, rfl, r⟩
  | _, _, i + 1, v, .cons _ t, e => pget (i := i) t e
theorem pget2 {α β : Type} {F : α → β → Prop} : ∀ {vs : List α} {D : List β} {i : Nat} {d : β}, Paired F vs D → D[i]? = some d → ∃ v, vs[i]? = some v ∧ F v d
  | _, _, _, _, Paired.nil, e => by simp at e
  | _, _, 0, v, .cons r _, e => by
    have e2 := Option.some.inj e
    subst e2
    exact ⟨_, rfl, r⟩
  | _, _, i + 1, v, .cons _ t, e => pget2 (i := i) t e
theorem prev {α β : Type} {F : α → β → Prop} {vs : List α} {D : List β} (h : Paired F vs D) : Paired F vs.reverse D.reverse := by
  induction h with
  | nil => exact Paired.nil
  | cons r _ ih =>
    rw [List.reverse_cons, List.reverse_cons]
    exact Paired.snoc ih r
theorem inV_ints (j : Int) (l : List Int) : inV (.int j) (l.map V.int) = decide (j ∈ l) := by
  induction l with
  | nil => rfl
  | cons x l ih =>
    have e : inV (.int j) ((x :: l).map V.int) = (eqV (.int x) (.int j) || inV (.int j) (l.map V.int)) := rfl
    rw [e, ih]
    have e2 : eqV (.int x) (.int j) = decide (x = j) := by
      unfold eqV
      by_cases h : x = j
      · subst h
        simp
      · simp [h]
    rw [e2]
    by_cases h : j = x
    · subst h
      simp
    · have h' : ¬ x = j := fun z => h z.symm
      simp [h, h']
theorem flat_ints (l : List Int) : (l.map V.int).all flatV = true := by
  rw [List.all_eq_true]
  intro v hv
  obtain ⟨x, _, rfl⟩ := List.mem_map.mp hv
  rfl
/-- the last calls of a log -/
theorem rep1 {α : Type} (n : Nat) (x : α) : (List.replicate n [x]).flatten = List.replicate n x := by
  induction n with
  | zero => rfl
  | succ n ih =>
    rw [List.replicate_succ, List.flatten_cons, List.replicate_succ, ih]
    rfl
def lastF : List Cl → List Cl
  | [] => []
  | c :: S => if c.1 ∈ S.map (·.1) then lastF S else c :: lastF S
theorem lastF_len (L : List Cl) : (lastF L).length ≤ L.length := by
  induction L with
  | nil => exact Nat.le_refl _
  | cons c S ih =>
    show (if c.1 ∈ S.map (·.1) then lastF S else c :: lastF S).length ≤ S.length + 1
    split
    · omega
    · rw [List.length_cons]
      omega
theorem drop_step {L : List Cl} {i : Nat} {c : Cl} (hi : i < L.length) (g : L[L.length - 1 - i]? = some c) : L.drop (L.length - (i + 1)) = c :: L.drop (L.length - i) := by
  have h : L.length - (i + 1) < L.length := by omega
  rw [List.drop_eq_getElem_cons h]
  have e1 : L.length - (i + 1) + 1 = L.length - i := by omega
  have e2 : L.length - (i + 1) = L.length - 1 - i := by omega
  rw [e1]
  congr 1
  rw [← e2, List.getElem?_eq_getElem h] at g
  exact Option.some.inj g
def inS (S : List Cl) : Int → Bool := fun k => decide (k ∈ S.map (·.1))
theorem inS_same {S : List Cl} {c : Cl} (h : c.1 ∈ S.map (·.1)) : inS (c :: S) = inS S := by
  funext k
  unfold inS
  by_cases e : k ∈ S.map (·.1)
  · rw [decide_eq_true e, List.map_cons, decide_eq_true (List.mem_cons_of_mem _ e)]
  · rw [decide_eq_false e, List.map_cons, decide_eq_false]
    intro z
    rcases List.mem_cons.mp z with z | z
    · exact e (by rw [z]; exact h)
    · exact e z
theorem inS_more {S : List Cl} {c : Cl} : (fun j => inS S j || decide (j = c.1)) = inS (c :: S) := by
  funext k
  unfold inS
  rw [List.map_cons]
  by_cases e1 : k = c.1
  · subst e1
    simp
  · by_cases e2 : k ∈ S.map (·.1)
    · rw [decide_eq_true e2, decide_eq_true (List.mem_cons_of_mem _ e2), Bool.true_or]
    · rw [decide_eq_false e2, decide_eq_false e1, decide_eq_false, Bool.or_false]
      intro z
      rcases List.mem_cons.mp z with z | z
      · exact e1 z
      · exact e2 z
theorem atI01 {a b : V} : atI [a, b] 0 = some a ∧ atI [a, b] 1 = some b := ⟨rfl, rfl⟩
abbrev sLast : Stmt := topS 2
abbrev sOrd : Stmt := topS 0
abbrev sWds : Stmt := topS 3
abbrev sLci : Stmt := topS 0
abbrev sTopR : Stmt := topS 0
abbrev sWof : Stmt := topS 0
abbrev sLof : Stmt := topS 0
section
variable {P : Program} {w : World} {K : PySem.W.Frag} {mg : Str → Option Value} {base : Heap}
theorem scLast : FnScope ["log", "called", "backwards", "room", "word"] ["log"] (defScope sLast) := ⟨rfl, rfl, rfl, by decide +kernel, rfl, by decide +kernel, by decide +kernel⟩
def spLast : Sp := fun vs H Q _ => ∃ (l : Addr) (us : List V) (L : List Cl), vs = [.ref l] ∧ H l = some (.lst us) ∧ LG H us L ∧ L.length ≤ 1000 ∧
  ∀ ws p H', Same H H' → H p = none → H' p = some (.lst ws) → LG H' ws (lastF L) → Q (.ref p) H'
theorem ok_last {f : Addr} {fd : FuncData} (F : Fun K "last_calls" "last_calls" sLast f fd) (T : Bi mg) (mrev : mg "reversed" = none) : FnOk P w K mg base CX0 1 f fd ["log"] spLast := by
  refine F.ok scLast (fun vs H Q E h => ?_) (fun cdv A outer s H vs Q E hr h => ?_)
  · obtain ⟨l, us, L, rfl, _⟩ := h
    rfl
  · obtain ⟨l, us, L, rfl, hl, lg, ln, q⟩ := h
    refine ⟨_, (pss_cons (ps_set (i := 1) scLast.nd rfl (Or.inl rfl) (pe_callTy0 cr_set0 (by rfl) T.set (by decide +kernel)))
      (pss_cons (ps_set (i := 2) scLast.nd rfl (Or.inl rfl) (pe_lst pa_nil))
      (pss_cons (ps_for PassesOwn.never rfl (pi_reversed (by rfl) mrev (pa_cons (pv 0) pa_nil)) (pg_tup rfl (pgs_cons (pg_name (i := 3) scLast.nd rfl (Or.inl rfl)) (pgs_cons (pg_name (i := 4) scLast.nd rfl (Or.inl rfl)) pgs_nil)))
      (pss_one (ps_if (pt_cmpR or_snotin (pv 3) (pv 1) (by rfl))
        (pss_cons (ps_expr (pe_sadd (pv 1) (pa_cons (pv 3) pa_nil)))
          (pss_one (ps_expr (pe_bm PySem.F.plainAttrs_list PySem.F.slot_list_append PySem.F.type_list_append mt_append (pv 2) (pa_cons (pe_tup (pa_cons (pv 3) (pa_cons (pv 4) pa_nil))) pa_nil)))))
        pss_nil)))
      (pss_one (ps_ret (pe_revL (pv 2))))))), ?_⟩
    walk_at "rd"
    refine ⟨rfl, fun a na => ⟨Nat.zero_le _, fun b nb => ?_⟩⟩
    have ul : us.length = L.length := lg.len
    have nab : a ≠ b := fun z => by
      rw [← z, upd_same] at nb
      cases nb
    have fb : H b = none := by
      rw [upd_ne nab.symm] at nb
      exact nb
    obtain ⟨Pv, hPv⟩ : ∃ Pv : Nat → L2.St → Hp → Prop, Pv = (fun i σ H' => ∃ (n : Nat) (ws : List V) (v3 v4 : Option V), σ = [some (.ref l), some (.ref a), some (.ref b), v3, v4] ∧ Same H H' ∧ H' a = some (SetO w a (inS (L.drop (L.length - i))) n) ∧ n ≤ i ∧ H' b = some (.lst ws) ∧ LG H' ws (lastF (L.drop (L.length - i))).reverse) := ⟨_, rfl⟩
    have e0 : L.drop (L.length - 0) = [] := List.drop_eq_nil_of_le (by omega)
    refine ⟨_, rfl, l, us, rfl, SqL.of ((same_upd na).trans (same_upd nb) _ _ hl), RT.for_Itv Pv (by rw [hPv]; exact ⟨0, [], none, none, rfl, (same_upd na).trans (same_upd nb), by rw [e0, upd_ne nab, upd_same]; rfl, Nat.le_refl _, upd_same, by rw [e0]; exact LG.nil0 _⟩) (fun i σ H' pv => by rw [hPv] at pv; obtain ⟨_, _, _, _, _, sm, _⟩ := pv; exact SqL.of (sm _ _ hl)) (fun i v σ H' hi gv pv => ?_) (fun σ H' pv => ?_)⟩
    · have nxt : ∀ n ws v3 v4 H', Same H H' → H' a = some (SetO w a (inS (L.drop (L.length - (i + 1)))) n) → n ≤ i + 1 → H' b = some (.lst ws) → LG H' ws (lastF (L.drop (L.length - (i + 1)))).reverse → Pv (i + 1) [some (.ref l), some (.ref a), some (.ref b), v3, v4] H' := fun n ws v3 v4 H' h1 h2 h3 h4 h5 => by
        rw [hPv]
        exact ⟨n, ws, v3, v4, rfl, h1, h2, h3, h4, h5⟩
      rw [hPv] at pv
      obtain ⟨n, ws, v3, v4, rfl, sm, ha, hn, hb, lw⟩ := pv
      rw [ul] at gv hi
      obtain ⟨c, gc, tc, rfl, htc⟩ := pget lg gv
      have st := drop_step hi gc
      rw [st] at nxt
      have htc1 := sm _ _ htc
      have wl : ws.length ≤ 1000 := by
        rw [lw.len, List.length_reverse]
        have := lastF_len (L.drop (L.length - i))
        rw [List.length_drop] at this
        omega
      walk_at "rd"
      refine ⟨_, SqT.of htc1, rfl, _, _, rfl, _, _, rfl, rfl, ?_⟩
      walk_at "rd"
      refine ⟨c.1, a, _, n, rfl, rfl, ha, ?_⟩
      refine ⟨_, rfl, ?_⟩
      by_cases hm : c.1 ∈ (L.drop (L.length - i)).map (·.1)
      · have e : (!inS (L.drop (L.length - i)) c.1) = false := by
          unfold inS
          rw [decide_eq_true hm]
          rfl
        rw [e]
        refine iteF (nxt n ws _ _ _ sm (by rw [inS_same hm]; exact ha) (by omega) hb ?_)
        show LG H' ws (if c.1 ∈ (L.drop (L.length - i)).map (·.1) then lastF (L.drop (L.length - i)) else c :: lastF (L.drop (L.length - i))).reverse
        rw [if_pos hm]
        exact lw
      · have e : (!inS (L.drop (L.length - i)) c.1) = true := by
          unfold inS
          rw [decide_eq_false hm]
          rfl
        rw [e]
        refine iteT ?_
        have s0 : Same H' H' := Same.refl _
        refine ⟨_, rfl, ⟨a, _, n, rfl, ha⟩, _, rfl, a, c.1, _, n, rfl, rfl, ha, (by show n + 1 < 4096; omega), ?_⟩
        have e2 : inS (L.drop (L.length - i)) c.1 = false := by
          unfold inS
          exact decide_eq_false hm
        rw [inS_more, e2]
        have fa : H a = none := na
        have hb2 : upd H' a (SetO w a (inS (c :: L.drop (L.length - i))) (if false = true then n else n + 1)) b = some (.lst ws) := by rw [upd_ne nab.symm]; exact hb
        have ha2 : upd H' a (SetO w a (inS (c :: L.drop (L.length - i))) (if false = true then n else n + 1)) a = some (SetO w a (inS (c :: L.drop (L.length - i))) (n + 1)) := upd_same
        have sm2 : Same H (upd H' a (SetO w a (inS (c :: L.drop (L.length - i))) (if false = true then n else n + 1))) := same_ch sm fa
        have kt2 : KT H' (upd H' a (SetO w a (inS (c :: L.drop (L.length - i))) (if false = true then n else n + 1))) := KT.ch ha (fun xs z => by unfold SetO at z; cases z)
        generalize upd H' a (SetO w a (inS (c :: L.drop (L.length - i))) (if false = true then n else n + 1)) = H2 at hb2 ha2 sm2 kt2
        walk_at "rd"
        refine ⟨.inl ⟨rfl, _, SqL.of hb2⟩, (by show 2 ≤ sizeLine; decide), fun t nt => ?_⟩
        have nbt : b ≠ t := ne_of_none hb2 nt
        refine ⟨ws, by rw [upd_ne nbt]; exact hb2, len_big (by omega), nxt (n + 1) (ws ++ [.ref t]) _ _ _ (same_ch (sm2.trans (same_upd nt)) fb) ?_ (by omega) upd_same ?_⟩
        · rw [upd_ne nab, upd_ne (ne_of_none ha2 nt)]
          exact ha2
        · show LG _ _ (if c.1 ∈ (L.drop (L.length - i)).map (·.1) then lastF (L.drop (L.length - i)) else c :: lastF (L.drop (L.length - i))).reverse
          rw [if_neg hm, List.reverse_cons]
          refine LG.snoc (((lw.kt kt2).kt (KT.new nt)).kt (KT.lst (by rw [upd_ne nbt]; exact hb2))) ⟨t, rfl, ?_⟩
          rw [upd_ne nbt.symm, upd_same]
    · rw [hPv] at pv
      obtain ⟨n, ws, v3, v4, rfl, sm, ha, hn, hb, lw⟩ := pv
      rw [ul, Nat.sub_self, List.drop_zero] at lw
      refine ⟨_, rfl, b, ws, rfl, SqL.of hb, fun p np => ?_⟩
      refine q ws.reverse p _ (sm.trans (same_upd np)) (sm.free np) upd_same ?_
      have := prev (lw.kt (KT.new (o := HO.lst ws.reverse) np))
      rw [List.reverse_reverse] at this
      exact this
def spOrd : Sp := fun vs H Q _ => ∃ (l : Addr) (us : List V) (L : List Cl), vs = [.ref l] ∧ H l = some (.lst us) ∧ LG H us L ∧ L.length ≤ 1000 ∧
  ∀ p H', Same H H' → H p = none → H' p = some (.tup ((lastF L).map fun c => V.int c.1)) → Q (.ref p) H'
theorem scWds : FnScope ["house", "log", "words", "room", "word"] ["house", "log"] (defScope sWds) := ⟨rfl, rfl, rfl, by decide +kernel, rfl, by decide +kernel, by decide +kernel⟩
/-- the last word of each of r rooms -/
def wordsF (r : Nat) (L : List Cl) : List V := L.foldl (fun W c => W.set c.1.toNat (.str c.2)) (List.replicate r .non)
theorem wordsF_len (r : Nat) (L : List Cl) : (wordsF r L).length = r := by
  have key : ∀ (L : List Cl) (W : List V), (L.foldl (fun W c => W.set c.1.toNat (.str c.2)) W).length = W.length := by
    intro L
    induction L with
    | nil => intro W; rfl
    | cons c L ih =>
      intro W
      show (L.foldl _ (W.set c.1.toNat (.str c.2))).length = _
      rw [ih, List.length_set]
  unfold wordsF
  rw [key, List.length_replicate]
def InR (r : Nat) (L : List Cl) : Prop := ∀ c ∈ L, 0 ≤ c.1 ∧ c.1 < r
theorem wordsF_step {r : Nat} {L : List Cl} {j : Nat} {c : Cl} (g : L[j]? = some c) : wordsF r (L.take (j + 1)) = (wordsF r (L.take j)).set c.1.toNat (.str c.2) := by
  unfold wordsF
  rw [List.take_add_one, g, List.foldl_append]
  rfl
def spWds (C : Addr) : Sp := fun vs H Q _ => ∃ (p l : Addr) (us : List V) (L : List Cl) (r : Nat) (D : List Pr) (own : List Addr), vs = [.ref p, .ref l] ∧ HouseAt C H p r D own ∧ H l = some (.lst us) ∧ LG H us L ∧ InR r L ∧
  ∀ q H', Same H H' → H q = none → H' q = some (.lst (wordsF r L)) → Q (.ref q) H'
theorem ok_wds {f C : Addr} {fd : FuncData} (F : Fun K "words_of" "words_of" sWds f fd) (U : Hs K mg C) : FnOk P w K mg base CX0 1 f fd ["house", "log"] (spWds C) := by
  refine F.ok scWds (fun vs H Q E h => ?_) (fun cdv A outer s H vs Q E hr h => ?_)
  · obtain ⟨p, l, us, L, r, D, own, rfl, _⟩ := h
    rfl
  · obtain ⟨p, l, us, L, r, D, own, rfl, hh, hl, lg, inr, q⟩ := h
    obtain ⟨dx, l0, m0, ls, nss, h1, _⟩ := hh.ex
    have r12 := hh.r12
    refine ⟨_, (pss_cons (ps_set (i := 2) scWds.nd rfl (Or.inl rfl) (pe_op op_rep (pe_lst (pa_cons pe_non pa_nil)) (pe_fld (pv 0) rfl)))
      (pss_cons (ps_for PassesOwn.never rfl (pi_list (pv 1)) (pg_tup rfl (pgs_cons (pg_name (i := 3) scWds.nd rfl (Or.inl rfl)) (pgs_cons (pg_name (i := 4) scWds.nd rfl (Or.inl rfl)) pgs_nil)))
      (pss_one (ps_asg (pv 4) (pg_sub (pv 2) (pv 3) set_list))))
      (pss_one (ps_ret (pv 2))))), ?_⟩
    walk_at "rd"
    refine ⟨by decide, fun e ne => ?_⟩
    have s0 : Same H (upd H e (HO.lst [V.non])) := same_upd ne
    refine ⟨C, dx, _, s0 _ _ h1, U.cl, U.nR, .int r, hf_rooms _ _ _, e, r, [.non], rfl, rfl, upd_same, by omega, by omega, by show 1 * _ ≤ sizeLine; exact Nat.le_of_lt (len_big (by omega)), fun t nt => ?_⟩
    have s1 := s0.trans (same_upd (o := HO.lst (List.replicate (r : Int).toNat [V.non]).flatten) nt)
    have ft : H t = none := s0.free nt
    have e0 : (List.replicate (r : Int).toNat [V.non]).flatten = wordsF r [] := by
      rw [Int.toNat_natCast]
      show _ = List.replicate r V.non
      exact rep1 r V.non
    rw [e0] at s1 ⊢
    have htt : upd (upd H e (HO.lst [V.non])) t (HO.lst (wordsF r [])) t = some (.lst (wordsF r [])) := upd_same
    generalize upd (upd H e (HO.lst [V.non])) t (HO.lst (wordsF r [])) = H1 at s1 htt
    obtain ⟨Pv, hPv⟩ : ∃ Pv : Nat → L2.St → Hp → Prop, Pv = (fun i σ H' => ∃ v3 v4 : Option V, σ = [some (.ref p), some (.ref l), some (.ref t), v3, v4] ∧ Same H H' ∧ H' t = some (.lst (wordsF r (L.take i)))) := ⟨_, rfl⟩
    refine ⟨_, rfl, l, rfl, ⟨_, SqL.of (s1 _ _ hl)⟩, for_list (K := K) (a := l) (xs := us) Pv (by rw [hPv]; exact ⟨none, none, rfl, s1, htt⟩) (fun i σ H' _ pv => by rw [hPv] at pv; obtain ⟨_, _, _, sm, _⟩ := pv; exact SqL.of (sm _ _ hl)) (fun i v σ H' gv pv => ?_) (fun σ H' pv => ?_)⟩
    · have nxt : ∀ v3 v4 H', Same H H' → H' t = some (.lst (wordsF r (L.take (i + 1)))) → Pv (i + 1) [some (.ref p), some (.ref l), some (.ref t), v3, v4] H' := fun v3 v4 H' h1 h2 => by
        rw [hPv]
        exact ⟨v3, v4, rfl, h1, h2⟩
      rw [hPv] at pv
      obtain ⟨v3, v4, rfl, sm, ht⟩ := pv
      obtain ⟨c, gc, tc, rfl, htc⟩ := pget lg gv
      have rc := inr c (List.mem_of_getElem? gc)
      walk_at "rd"
      refine ⟨_, SqT.of (sm _ _ htc), rfl, _, _, rfl, _, _, rfl, rfl, ?_⟩
      walk_at "rd"
      refine ⟨_, ht, c.1.toNat, ixn (by omega) (by rw [wordsF_len]; omega), nxt _ _ _ (same_ch sm ft) ?_⟩
      rw [upd_same, wordsF_step gc]
    · rw [hPv] at pv
      obtain ⟨v3, v4, rfl, sm, ht⟩ := pv
      have ul : us.length = L.length := lg.len
      rw [ul, List.take_length] at ht
      walk_at "rd"
      exact q t H' sm ft ht
/-- the last call in any of the rooms -/
def lastIn (R : List Int) (L : List Cl) : Option Cl := L.reverse.find? fun c => decide (c.1 ∈ R)
def spLci (K : PySem.W.Frag) : Sp := fun vs H Q _ => ∃ (l o : Addr) (us : List V) (L : List Cl) (R : List Int), vs = [.ref l, .ref o] ∧ H l = some (.lst us) ∧ LG H us L ∧ (SqL K H o (R.map V.int) ∨ SqT K H o (R.map V.int)) ∧ (lastIn R L = none → Q .non H) ∧ (∀ t c, lastIn R L = some c → H t = some (.tup [.int c.1, .str c.2]) → Q (.ref t) H)
def optR (o : Option Cl) : V := match o with
  | none => .non
  | some c => .int c.1
def optW (o : Option Cl) : V := match o with
  | none => .non
  | some c => .str c.2
def spTopR (K : PySem.W.Frag) (g : Option Cl → V) : Sp := fun vs H Q _ => ∃ (l o : Addr) (us : List V) (L : List Cl) (R : List Int), vs = [.ref l, .ref o] ∧ H l = some (.lst us) ∧ LG H us L ∧ (SqL K H o (R.map V.int) ∨ SqT K H o (R.map V.int)) ∧ Q (g (lastIn R L)) H
theorem lastIn_at {H : Hp} {us : List V} {L : List Cl} {R : List Int} {c : Cl} (lg : LG H us L) (h : lastIn R L = some c) : ∃ t, H t = some (.tup [.int c.1, .str c.2]) := by
  unfold lastIn at h
  have m := List.mem_of_find?_eq_some h
  obtain ⟨i, g⟩ := List.getElem?_of_mem (List.mem_reverse.mp m)
  obtain ⟨v, _, t, _, e⟩ := pget2 lg g
  exact ⟨t, e⟩
def spLof (K : PySem.W.Frag) : Sp := fun vs H Q _ => ∃ (l o : Addr) (W : List V) (L : List Cl), vs = [.ref l, .ref o] ∧ H l = some (.lst W) ∧ H o = some (.tup (L.map fun c => V.int c.1)) ∧ L.length ≤ 1000 ∧ (∀ c ∈ L, 0 ≤ c.1 ∧ W[c.1.toNat]? = some (.str c.2)) ∧
  ∀ ws p H', Same H H' → H p = none → H' p = some (.lst ws) → LG H' ws L → Q (.ref p) H'
end
abbrev sLtop : Stmt := topS 0
abbrev sLwof : Stmt := topS 0
abbrev sLlast : Stmt := topS 31
abbrev sSpell : Stmt := topS 32
abbrev sPool : Stmt := topS 33
abbrev sSize : Stmt := topS 34
abbrev sDrawn : Stmt := topS 35
abbrev sChosen : Stmt := topS 0
theorem lastIn_step {R : List Int} {L : List Cl} {i : Nat} {c : Cl} (g : L[i]? = some c) : lastIn R (L.take (i + 1)) = if c.1 ∈ R then some c else lastIn R (L.take i) := by
  rw [List.take_add_one, g]
  unfold lastIn
  show List.find? _ (L.take i ++ [c]).reverse = _
  rw [List.reverse_append]
  show List.find? _ (c :: (L.take i).reverse) = _
  by_cases e : c.1 ∈ R
  · rw [List.find?_cons_of_pos (by simp [e]), if_pos e]
  · rw [List.find?_cons_of_neg (by simp [e]), if_neg e]
theorem cut_drop (xs : List V) (k : Nat) : cutV xs (some ((k : Nat) : Int)) none = xs.drop k := by
  unfold cutV
  rw [show HT.sIx xs.length 0 (some ((k : Nat) : Int)) = min k xs.length from HT.sIx_nat xs.length 0 k, HT.sIx_none]
  by_cases h : k ≤ xs.length
  · rw [Nat.min_eq_left h]
    refine List.take_of_length_le ?_
    rw [List.length_drop]
    exact Nat.le_refl _
  · rw [Nat.min_eq_right (by omega), List.drop_length, List.drop_eq_nil_of_le (by omega)]
    exact List.take_nil
theorem for_iter {wi : TI} {g : TG} {tb : TS} {D : Ends} {σ : L2.St} {H : Hp} (h : wi σ H fun J H1 => tFor (fun _ H R => R J H) g tb D σ H1) : tFor wi g tb D σ H := h
section
variable {P : Program} {w : World} {K : PySem.W.Frag} {mg : Str → Option Value} {base : Heap}
theorem scLlast : FnScope ["log", "last", "k", "later", "call"] ["log"] (defScope sLlast) := ⟨rfl, rfl, rfl, by decide +kernel, rfl, by decide +kernel, by decide +kernel⟩
theorem ok_llast {f : Addr} {fd : FuncData} (F : Fun K "_law_last" "_law_last" sLlast f fd) (T : Bi mg) : FnOk P w K mg base CX0 1 f fd ["log"] spLast := by
  refine F.ok scLlast (fun vs H Q E h => ?_) (fun cdv A outer s H vs Q E hr h => ?_)
  · obtain ⟨l, us, L, rfl, _⟩ := h
    rfl
  · obtain ⟨l, us, L, rfl, hl, lg, ln, q⟩ := h
    have ul : us.length = L.length := lg.len
    refine ⟨_, (pss_cons (ps_set (i := 1) scLlast.nd rfl (Or.inl rfl) (pe_lst pa_nil))
      (pss_cons (ps_for PassesOwn.never rfl (pi_range1 (by rfl) T.range (pa_cons (pe_callB call_len_seq (by rfl) T.len (by decide +kernel) (pa_cons (pv 0) pa_nil)) pa_nil)) (pg_name (i := 2) scLlast.nd rfl (Or.inr rfl))
      (pss_cons (ps_setLc (i := 3) (own := [("call", 4)]) (tt := tTest (tOp (rI0 fun i j => .bl (decide (i = j))) (tOp (rIxT K) (tVar 4) (tC (.int 0))) (tOp (rIxT K) (tOp (rIxL K) (tVar 0) (tVar 2)) (tC (.int 0))))) (by rfl) scLlast.nd rfl rfl (sw_true rfl rfl rfl (by decide +kernel)) (pi_list (pe_slice sl_list (pv 0) (po_some (pe_op op_add (pv 2) pe_int)) po_none)) (blkOk_by (N := ["log", "last", "k", "later", "call"]) (sc := defScope sLlast) (by decide +kernel)) (fun _ _ _ _ _ => pg_name (i := 4) scLlast.nd rfl (Or.inl rfl)) (fun _ _ _ _ _ => (pts_one (pt_cmpR op_eqI (pe_ix ix_tup (pv 4) pe_int (fun _ _ => rfl)) (pe_ix ix_tup (pe_ix ix_list (pv 0) (pv 2) (fun _ _ => rfl)) pe_int (fun _ _ => rfl)) (nomark _)))) (fun _ _ _ _ _ => (pv 4)))
        (pss_one (ps_if (pt_cmpR op_eqI (pe_callB call_len_seq (by rfl) T.len (by decide +kernel) (pa_cons (pv 3) pa_nil)) pe_int (nomark _))
        (pss_one (ps_expr (pe_bm PySem.F.plainAttrs_list PySem.F.slot_list_append PySem.F.type_list_append mt_append (pv 1) (pa_cons (pe_ix ix_list (pv 0) (pv 2) (fun _ _ => rfl)) pa_nil))))
        pss_nil))))
      (pss_one (ps_ret (pv 1))))), ?_⟩
    walk_at "rd"
    refine ⟨by decide, fun b nb => ?_⟩
    obtain ⟨Pv, hPv⟩ : ∃ Pv : Nat → L2.St → Hp → Prop, Pv = (fun i σ H' => ∃ (ws : List V) (A : List Cl) (v2 v3 : Option V), σ = [some (.ref l), some (.ref b), v2, v3, none] ∧ Same H H' ∧ H' b = some (.lst ws) ∧ LG H' ws A ∧ A ++ lastF (L.drop i) = lastF L) := ⟨_, rfl⟩
    refine ⟨_, rfl, l, rfl, us, .inl (SqL.of (same_upd nb _ _ hl)), us.length, rfl, by omega, by omega, for_range (lo := 0) (n := ((us.length : Nat) : Int).toNat) Pv (by rw [hPv]; exact ⟨[], [], none, none, rfl, same_upd nb, upd_same, LG.nil0 _, rfl⟩) (fun i σ H' hi pv => ?_) (fun σ H' pv => ?_)⟩
    · have nxt : ∀ ws A v2 v3 H', Same H H' → H' b = some (.lst ws) → LG H' ws A → A ++ lastF (L.drop (i + 1)) = lastF L → Pv (i + 1) [some (.ref l), some (.ref b), v2, v3, none] H' := fun ws A v2 v3 H' h1 h2 h3 h4 => by
        rw [hPv]
        exact ⟨ws, A, v2, v3, rfl, h1, h2, h3, h4⟩
      rw [hPv] at pv
      obtain ⟨ws, A, v2, v3, rfl, sm, hb, lw, eA⟩ := pv
      have hiL : i < L.length := by omega
      obtain ⟨c, gc⟩ : ∃ c, L[i]? = some c := ⟨_, List.getElem?_eq_getElem hiL⟩
      obtain ⟨v, gv, tc, rfl, htc⟩ := pget2 lg gc
      have hl' := sm _ _ hl
      have ed : L.drop i = c :: L.drop (i + 1) := by
        rw [List.drop_eq_getElem_cons hiL]
        congr 1
        rw [List.getElem?_eq_getElem hiL] at gc
        exact Option.some.inj gc
      have wl : ws.length ≤ 1000 := by
        have e1 := congrArg List.length eA
        have e2 := lastF_len L
        rw [List.length_append] at e1
        rw [lw.len]
        omega
      walk_at "rd"
      refine ⟨_, rfl, _, rfl, 0 + (i : Int), 1, rfl, rfl, 0 + (i : Int) + 1, rfl, l, us, rfl, SqL.of hl', fun e ne => ?_⟩
      have ek : 0 + (i : Int) + 1 = ((i + 1 : Nat) : Int) := by omega
      rw [ek, cut_drop]
      have s2 := sm.trans (same_upd (o := HO.lst (us.drop (i + 1))) ne)
      have he : upd H' e (HO.lst (us.drop (i + 1))) e = some (.lst (us.drop (i + 1))) := upd_same
      have hb2 : upd H' e (HO.lst (us.drop (i + 1))) b = some (.lst ws) := same_upd ne _ _ hb
      have lw2 := lw.kt (KT.new (o := HO.lst (us.drop (i + 1))) ne)
      generalize upd H' e (HO.lst (us.drop (i + 1))) = H2 at s2 he hb2 lw2
      have hl2 := s2 _ _ hl
      have htc2 := s2 _ _ htc
      refine ⟨e, rfl, ⟨_, SqL.of he⟩, fun g ng => ?_⟩
      obtain ⟨Pw, hPw⟩ : ∃ Pw : Nat → Hp → Prop, Pw = (fun j Hx => ∃ zs, Same H2 Hx ∧ Hx g = some (.lst zs) ∧ zs.length = (((L.drop (i + 1)).take j).filter fun d => decide (d.1 = c.1)).length) := ⟨_, rfl⟩
      refine lc_list (K := K) (a := e) (xs := us.drop (i + 1)) Pw (by rw [hPw]; exact ⟨[], same_upd ng, upd_same, rfl⟩) (fun j Hx _ pv => by rw [hPw] at pv; obtain ⟨_, s3, _⟩ := pv; exact SqL.of (s3 _ _ he)) (fun j v Hx gv2 pv => ?_) (fun Hx pv => ?_)
      · have nxw : ∀ zs Hx, Same H2 Hx → Hx g = some (.lst zs) → zs.length = (((L.drop (i + 1)).take (j + 1)).filter fun d => decide (d.1 = c.1)).length → Pw (j + 1) Hx := fun zs Hx h1 h2 h3 => by
          rw [hPw]
          exact ⟨zs, h1, h2, h3⟩
        rw [hPw] at pv
        obtain ⟨zs, s3, hg, lz⟩ := pv
        rw [List.getElem?_drop] at gv2
        obtain ⟨d, gd, td, rfl, htd⟩ := pget lg gv2
        have gd2 : (L.drop (i + 1))[j]? = some d := by rw [List.getElem?_drop]; exact gd
        have s03 := s2.trans s3
        have zl : zs.length ≤ 1000 := by
          have e1 := List.length_filter_le (fun d : Cl => decide (d.1 = c.1)) ((L.drop (i + 1)).take j)
          rw [List.length_take, List.length_drop] at e1
          omega
        simp only [wipe]
        walk_at "rd"
        refine ⟨_, SqT.of (s03 _ _ htd), .int d.1, rfl, _, SqL.of (s03 _ _ hl), .ref tc, at_of (j := i) (by omega) gv, tc, rfl, _, SqT.of (s03 _ _ htc), .int c.1, rfl, d.1, rfl, c.1, rfl, ?_⟩
        by_cases ee : d.1 = c.1
        · rw [if_pos ee]
          refine ⟨zs, hg, len_big (by omega), nxw _ _ (same_ch s3 ng) upd_same ?_⟩
          rw [List.take_add_one, gd2, List.filter_append, List.length_append, List.length_append, lz]
          show _ = _ + (List.filter _ [d]).length
          rw [List.filter_cons_of_pos (by simp [ee])]
          rfl
        · rw [if_neg ee]
          refine nxw zs _ s3 hg ?_
          rw [List.take_add_one, gd2, List.filter_append, List.length_append, lz]
          show _ = _ + (List.filter _ [d]).length
          rw [List.filter_cons_of_neg (by simp [ee])]
          rfl
      · rw [hPw] at pv
        obtain ⟨zs, s3, hg, lz⟩ := pv
        have e1 : (us.drop (i + 1)).length = (L.drop (i + 1)).length := by rw [List.length_drop, List.length_drop, ul]
        rw [e1, List.take_length] at lz
        have s03 := s2.trans s3
        have hb3 := s3 _ _ hb2
        walk_at "rd"
        refine ⟨zs, .inl (SqL.of hg), ?_⟩
        by_cases hm : c.1 ∈ (L.drop (i + 1)).map (·.1)
        · have pos : ¬ ((zs.length : Nat) : Int) = 0 := by
            intro z
            have z2 : (((L.drop (i + 1)).filter fun d => decide (d.1 = c.1))) = [] := List.eq_nil_of_length_eq_zero (by omega)
            obtain ⟨d, hd, ed2⟩ := List.mem_map.mp hm
            have : d ∈ (L.drop (i + 1)).filter fun d => decide (d.1 = c.1) := List.mem_filter.mpr ⟨hd, by simp [ed2]⟩
            rw [z2] at this
            cases this
          rw [if_neg pos]
          refine nxt ws A _ _ _ s03 hb3 (lw2.kt (KT.same s3)) ?_
          rw [ed] at eA
          rw [← eA]
          show _ = A ++ (if c.1 ∈ (L.drop (i + 1)).map (·.1) then lastF (L.drop (i + 1)) else c :: lastF (L.drop (i + 1)))
          rw [if_pos hm]
        · have zero : ((zs.length : Nat) : Int) = 0 := by
            have z2 : (((L.drop (i + 1)).filter fun d => decide (d.1 = c.1))) = [] := List.filter_eq_nil_iff.mpr fun d hd z => hm (List.mem_map.mpr ⟨d, hd, by simpa using z⟩)
            rw [z2] at lz
            rw [lz]
            rfl
          rw [if_pos zero]
          refine ⟨.inl ⟨rfl, _, SqL.of hb3⟩, _, SqL.of (s03 _ _ hl), .ref tc, at_of (j := i) (by omega) gv, ?_⟩
          refine ⟨ws, hb3, len_big (by omega), nxt (ws ++ [.ref tc]) (A ++ [c]) _ _ _ (same_ch s03 nb) upd_same ?_ ?_⟩
          · exact LG.snoc ((lw2.kt (KT.same s3)).kt (KT.lst hb3)) (IsC.kt (d := c) ⟨tc, rfl, s03 _ _ htc⟩ (KT.lst hb3))
          · rw [ed] at eA
            rw [← eA]
            show _ = A ++ (if c.1 ∈ (L.drop (i + 1)).map (·.1) then lastF (L.drop (i + 1)) else c :: lastF (L.drop (i + 1)))
            rw [if_neg hm, List.append_assoc]
            rfl
    · rw [hPv] at pv
      obtain ⟨ws, A, v2, v3, rfl, sm, hb, lw, eA⟩ := pv
      have e1 : L.drop ((us.length : Nat) : Int).toNat = [] := List.drop_eq_nil_of_le (by omega)
      rw [e1] at eA
      have eA2 : A = lastF L := by rw [← eA]; exact (List.append_nil A).symm
      rw [eA2] at lw
      walk_at "rd"
      exact q ws b H' sm nb hb lw
theorem scSpell : FnScope ["numbers", "at", "letters", "rest", "word", "k"] ["numbers", "at"] (defScope sSpell) := ⟨rfl, rfl, rfl, by decide +kernel, rfl, by decide +kernel, by decide +kernel⟩
/-- a word: short, and its signs are signs -/
def wk (n : Nat) (z : Str) : Prop := z.length ≤ n ∧ PyData.strOk z = true
theorem wk.mono {n m : Nat} {z : Str} (h : wk n z) (l : n ≤ m) : wk m z := ⟨Nat.le_trans h.1 l, h.2⟩
theorem strOk_app {u v : Str} (h : PyData.strOk u = true) (k : PyData.strOk v = true) : PyData.strOk (u ++ v) = true := by
  show (u.cps ++ v.cps).all (· < 0x110000) = true
  rw [Array.all_append]
  show (PyData.strOk u && PyData.strOk v) = true
  rw [h, k]
  rfl
theorem wk_app {a b n : Nat} {u v : Str} (h : wk a u) (k : wk b v) (l : a + b ≤ n) : wk n (u ++ v) := ⟨by rw [Str.length_append]; have := h.1; have := k.1; omega, strOk_app h.2 k.2⟩
theorem wk_cut {n : Nat} {z : Str} (h : wk n z) (lo hi : Option Int) : wk n (cutS z lo hi) := by
  refine ⟨Nat.le_trans (cutS_length z lo hi) h.1, ?_⟩
  have h2 := h.2
  unfold PyData.strOk at h2 ⊢
  unfold cutS
  rw [Array.all_eq_true_iff_forall_mem] at h2 ⊢
  intro c hc
  refine h2 c ?_
  rw [Array.mem_def]
  simp only [List.mem_toArray] at hc
  exact List.mem_of_mem_drop (List.mem_of_mem_take hc)
theorem strOk_one {c : Nat} (h : c < 0x110000) : PyData.strOk (Str.mk #[c]) = true := by
  show (#[c] : Array Nat).all (· < 0x110000) = true
  simp [h]
def spSpell (K : PySem.W.Frag) : Sp := fun vs H Q _ => ∃ (a : Addr) (ns : List Int) (at_ : Nat), vs = [.ref a, .int at_] ∧ SqL K H a (ns.map V.int) ∧ at_ + 4 < ns.length ∧ ∀ z : Str, wk 8 z → Q (.str z) H
theorem letters_at {j : Nat} (h : j < 26) : ∃ c, atI (Str.ofString "abcdefghijklmnopqrstuvwxyz").cps.toList ((j : Nat) : Int) = some c ∧ c < 0x110000 := by
  have hl : (Str.ofString "abcdefghijklmnopqrstuvwxyz").cps.toList.length = 26 := by decide +kernel
  have ha : ((Str.ofString "abcdefghijklmnopqrstuvwxyz").cps.toList.all fun c => decide (c < 0x110000)) = true := by decide +kernel
  refine ⟨_, atI_nat (List.getElem?_eq_getElem (by rw [hl]; exact h)), ?_⟩
  exact of_decide_eq_true (List.all_eq_true.mp ha _ (List.getElem_mem _))
theorem ok_spell {f : Addr} {fd : FuncData} (F : Fun K "_law_spelled" "_law_spelled" sSpell f fd) (T : Bi mg) : FnOk P w K mg base CX0 1 f fd ["numbers", "at"] (spSpell K) := by
  refine F.ok scSpell (fun vs H Q E h => ?_) (fun cdv A outer s H vs Q E hr h => ?_)
  · obtain ⟨a, ns, at_, rfl, _⟩ := h
    rfl
  · obtain ⟨a, ns, at_, rfl, hS, hn, q⟩ := h
    have gn : ∀ (j : Nat) (hj : j < ns.length), (ns.map V.int)[j]? = some (.int ns[j]) := fun j hj => by
      rw [List.getElem?_map, List.getElem?_eq_getElem hj]
      rfl
    refine ⟨_, (pss_cons (ps_set (i := 2) scSpell.nd rfl (Or.inl rfl) pe_str)
      (pss_cons (ps_set (i := 3) scSpell.nd rfl (Or.inl rfl) (pe_op op_add (pe_callTy cr_intI (by rfl) T.int (by decide +kernel) (pa_cons (pe_ix ix_list (pv 0) (pe_op op_add (pv 1) pe_int) (fun _ _ => rfl)) pa_nil)) (pe_op op_mul pe_int (pe_callTy cr_intI (by rfl) T.int (by decide +kernel) (pa_cons (pe_ix ix_list (pv 0) (pe_op op_add (pv 1) pe_int) (fun _ _ => rfl)) pa_nil)))))
      (pss_cons (ps_set (i := 3) scSpell.nd rfl (Or.inl rfl) (pe_op op_add (pe_op op_add (pv 3) (pe_op op_mul (pe_op op_pow pe_int pe_int) (pe_callTy cr_intI (by rfl) T.int (by decide +kernel) (pa_cons (pe_ix ix_list (pv 0) (pe_op op_add (pv 1) pe_int) (fun _ _ => rfl)) pa_nil)))) (pe_op op_mul (pe_op op_pow pe_int pe_int) (pe_callTy cr_intI (by rfl) T.int (by decide +kernel) (pa_cons (pe_ix ix_list (pv 0) (pe_op op_add (pv 1) pe_int) (fun _ _ => rfl)) pa_nil)))))
      (pss_cons (ps_set (i := 4) scSpell.nd rfl (Or.inl rfl) pe_str)
      (pss_cons (ps_for PassesOwn.never rfl (pi_range1 (by rfl) T.range (pa_cons (pe_op op_add pe_int (pe_op op_mod (pe_callTy cr_intI (by rfl) T.int (by decide +kernel) (pa_cons (pe_ix ix_list (pv 0) (pv 1) (fun _ _ => rfl)) pa_nil)) pe_int)) pa_nil)) (pg_name (i := 5) scSpell.nd rfl (Or.inl rfl))
      (pss_cons (ps_set (i := 4) scSpell.nd rfl (Or.inl rfl) (pe_op op_add_str (pv 4) (pe_ix ix_str (pv 2) (pe_op op_mod (pe_callTy cr_intI (by rfl) T.int (by decide +kernel) (pa_cons (pv 3) pa_nil)) pe_int) (fun _ _ => rfl))))
        (pss_one (ps_set (i := 3) scSpell.nd rfl (Or.inl rfl) (pe_op op_fdiv (pv 3) pe_int)))))
      (pss_one (ps_ret (pv 4)))))))), ?_⟩
    walk_at "rd"
    have at4 : ∀ j : Nat, j ≤ 4 → ∃ x, (ns.map V.int)[at_ + j]? = some (.int x) := fun j hj => ⟨_, gn (at_ + j) (by omega)⟩
    obtain ⟨x0, g0⟩ := at4 0 (by omega)
    obtain ⟨x1, g1⟩ := at4 1 (by omega)
    obtain ⟨x2, g2⟩ := at4 2 (by omega)
    obtain ⟨x3, g3⟩ := at4 3 (by omega)
    obtain ⟨x4, g4⟩ := at4 4 (by omega)
    refine ⟨_, hS, .int x1, at_of (j := at_ + 1) (by omega) g1, x1, rfl, _, hS, .int x2, at_of (j := at_ + 2) (by omega) g2, x2, rfl, .inl (by decide), ⟨by decide, by decide, by decide⟩, _, hS, .int x3, at_of (j := at_ + 3) (by omega) g3, x3, rfl, .inl (by decide), ⟨by decide, by decide, by decide⟩, _, hS, .int x4, at_of (j := at_ + 4) (by omega) g4, x4, rfl, .inl (by decide), ?_⟩
    generalize x1 + 997 * x2 + 997 ^ Int.toNat 2 * x3 + 997 ^ Int.toNat 3 * x4 = rest0
    have m0 := Int.emod_nonneg x0 (show (8 : Int) ≠ 0 by decide)
    have m1 := Int.emod_lt_of_pos x0 (show (0 : Int) < 8 by decide)
    obtain ⟨Pv, hPv⟩ : ∃ Pv : Nat → L2.St → Hp → Prop, Pv = (fun i σ H' => ∃ (rest : Int) (z : Str) (v5 : Option V), σ = [some (.ref a), some (.int at_), some (.str (Str.ofString "abcdefghijklmnopqrstuvwxyz")), some (.int rest), some (.str z), v5] ∧ H' = H ∧ z.length = i ∧ PyData.strOk z = true) := ⟨_, rfl⟩
    refine for_iter ?_
    walk_at "rd"
    refine ⟨_, hS, .int x0, at_of (j := at_ + 0) (by omega) g0, x0, rfl, by decide, by omega, by omega, for_range (lo := 0) (n := (1 + x0 % 8).toNat) Pv (by rw [hPv]; exact ⟨rest0, _, none, rfl, rfl, by decide +kernel, by decide +kernel⟩) (fun i σ H' hi pv => ?_) (fun σ H' pv => ?_)⟩
    · have nxt : ∀ rest z v5, z.length = i + 1 → PyData.strOk z = true → Pv (i + 1) [some (.ref a), some (.int at_), some (.str (Str.ofString "abcdefghijklmnopqrstuvwxyz")), some (.int rest), some (.str z), v5] H := fun rest z v5 h h2 => by
        rw [hPv]
        exact ⟨rest, z, v5, rfl, rfl, h, h2⟩
      rw [hPv] at pv
      obtain ⟨rest, z, v5, rfl, rfl, lz, oz⟩ := pv
      have k0 := Int.emod_nonneg rest (show (26 : Int) ≠ 0 by decide)
      have k1 := Int.emod_lt_of_pos rest (show (0 : Int) < 26 by decide)
      obtain ⟨j, ej⟩ : ∃ j : Nat, rest % 26 = j := ⟨(rest % 26).toNat, by omega⟩
      obtain ⟨c, gc, c11⟩ := letters_at (j := j) (by omega)
      walk_at "rd"
      rw [ej]
      refine ⟨by decide, by decide +kernel, c, gc, ?_, ⟨by decide, by decide⟩, nxt _ _ _ ?_ (strOk_app oz (strOk_one c11))⟩
      · have e1 : (Str.mk #[c]).length = 1 := rfl
        rw [e1]
        exact Nat.le_of_lt (len_big (by omega))
      · rw [Str.length_append, lz]
        rfl
    · rw [hPv] at pv
      obtain ⟨rest, z, v5, rfl, rfl, lz, oz⟩ := pv
      walk_at "rd"
      exact q z ⟨by omega, oz⟩
end

section
variable {P : Program} {w : World} {K : PySem.W.Frag} {mg : Str → Option Value} {base : Heap}
theorem scPool : FnScope ["numbers", "at", "many", "pool", "k", "own", "way", "cut"] ["numbers", "at", "many"] (defScope sPool) := ⟨rfl, rfl, rfl, by decide +kernel, rfl, by decide +kernel, by decide +kernel⟩
def Texts (n : Nat) (Z : List Str) : Prop := Z.length = n ∧ ∀ z ∈ Z, wk 16 z
def spPool (K : PySem.W.Frag) : Sp := fun vs H Q _ => ∃ (a : Addr) (ns : List Int) (m : Nat), vs = [.ref a, .int 0, .int m] ∧ SqL K H a (ns.map V.int) ∧ 5 * m < ns.length ∧ 1 ≤ m ∧ m ≤ 100 ∧ ∀ Z p H', Texts m Z → Same H H' → H p = none → H' p = some (.lst (Z.map V.str)) → Q (.ref p) H'
theorem ok_pool {f fS : Addr} {fd fdS : FuncData} (F : Fun K "_law_pool" "_law_pool" sPool f fd) (T : Bi mg) (d__law_spelled : Df P w K mg base "_law_spelled" ["numbers", "at"] 1 (spSpell K) fS fdS) : FnOk P w K mg base CX0 2 f fd ["numbers", "at", "many"] (spPool K) := by
  refine F.ok scPool (fun vs H Q E h => ?_) (fun cdv A outer s H vs Q E hr h => ?_)
  · obtain ⟨a, ns, m, rfl, _⟩ := h
    rfl
  · obtain ⟨a, ns, m, rfl, hS, hn, m1, m100, q⟩ := h
    refine ⟨_, (pss_cons (ps_set (i := 3) scPool.nd rfl (Or.inl rfl) (pe_lst (pa_cons (pe_call d__law_spelled.ok (hr.mono (by decide)) (by rfl) d__law_spelled.at_ d__law_spelled.kp d__law_spelled.b .nil pass0 (pa_cons (pv 0) (pa_cons (pv 1) pa_nil))) pa_nil)))
      (pss_cons (ps_for PassesOwn.never rfl (pi_range2 (by rfl) T.range (pa_cons pe_int (pa_cons (pv 2) pa_nil))) (pg_name (i := 4) scPool.nd rfl (Or.inl rfl))
      (pss_cons (ps_set (i := 5) scPool.nd rfl (Or.inl rfl) (pe_call d__law_spelled.ok (hr.mono (by decide)) (by rfl) d__law_spelled.at_ d__law_spelled.kp d__law_spelled.b .nil pass0 (pa_cons (pv 0) (pa_cons (pe_op op_add (pv 1) (pe_op op_mul pe_int (pv 4))) pa_nil))))
        (pss_cons (ps_set (i := 6) scPool.nd rfl (Or.inl rfl) (pe_op op_fdiv (pe_callTy cr_intI (by rfl) T.int (by decide +kernel) (pa_cons (pe_ix ix_list (pv 0) (pe_op op_add (pv 1) (pe_op op_mul pe_int (pv 4))) (fun _ _ => rfl)) pa_nil)) pe_int))
        (pss_cons (ps_set (i := 7) scPool.nd rfl (Or.inl rfl) (pe_op op_mod (pe_callTy cr_intI (by rfl) T.int (by decide +kernel) (pa_cons (pe_op op_fdiv (pv 6) pe_int) pa_nil)) pe_int))
        (pss_cons (ps_if (pt_cmpR op_eqI (pe_op op_mod (pe_callTy cr_intI (by rfl) T.int (by decide +kernel) (pa_cons (pv 6) pa_nil)) pe_int) pe_int (nomark _))
        (pss_one (ps_set (i := 5) scPool.nd rfl (Or.inl rfl) (pe_op op_add_str (pe_slice sl_str (pe_ix ix_list (pv 3) pe_int (fun _ _ => rfl)) po_none (po_some (pv 7))) (pe_slice sl_str (pv 5) (po_some (pv 7)) po_none))))
        pss_nil)
        (pss_cons (ps_if (pt_cmpR op_eqI (pe_op op_mod (pe_callTy cr_intI (by rfl) T.int (by decide +kernel) (pa_cons (pv 6) pa_nil)) pe_int) pe_int (nomark _))
        (pss_one (ps_set (i := 5) scPool.nd rfl (Or.inl rfl) (pe_op op_add_str (pe_slice sl_str (pv 5) po_none (po_some (pv 7))) (pe_slice sl_str (pe_ix ix_list (pv 3) pe_int (fun _ _ => rfl)) (po_some (pv 7)) po_none))))
        pss_nil)
        (pss_one (ps_expr (pe_bm PySem.F.plainAttrs_list PySem.F.slot_list_append PySem.F.type_list_append mt_append (pv 3) (pa_cons (pv 5) pa_nil))))))))))
      (pss_one (ps_ret (pv 3))))), ?_⟩
    walk_at "rd"
    refine ⟨a, ns, 0, rfl, hS, by omega, fun z0 hz0 => ⟨by decide, fun p np => ?_⟩⟩
    refine for_iter ?_
    walk_at "rd"
    obtain ⟨Pv, hPv⟩ : ∃ Pv : Nat → L2.St → Hp → Prop, Pv = (fun i σ H' => ∃ (Z : List Str) (v4 v5 v6 v7 : Option V), σ = [some (.ref a), some (.int 0), some (.int m), some (.ref p), v4, v5, v6, v7] ∧ Same H H' ∧ H' p = some (.lst (Z.map V.str)) ∧ Texts (i + 1) Z ∧ Z[0]? = some z0) := ⟨_, rfl⟩
    refine ⟨by omega, by omega, by omega, by omega, for_range (lo := 1) (n := ((m : Int) - 1).toNat) Pv (by rw [hPv]; exact ⟨[z0], none, none, none, none, rfl, same_upd np, upd_same, ⟨rfl, fun z hz => by rw [List.mem_singleton.mp hz]; exact hz0.mono (by decide)⟩, rfl⟩) (fun i σ H' hi pv => ?_) (fun σ H' pv => ?_)⟩
    · have nxt : ∀ Z v4 v5 v6 v7 H', Same H H' → H' p = some (.lst (Z.map V.str)) → Texts (i + 1 + 1) Z → Z[0]? = some z0 → Pv (i + 1) [some (.ref a), some (.int 0), some (.int m), some (.ref p), v4, v5, v6, v7] H' := fun Z v4 v5 v6 v7 H' h1 h2 h3 h4 => by
        rw [hPv]
        exact ⟨Z, v4, v5, v6, v7, rfl, h1, h2, h3, h4⟩
      rw [hPv] at pv
      obtain ⟨Z, v4, v5, v6, v7, rfl, sm, hp, tx, gz⟩ := pv
      have hS' := sm.seq hS
      have gn : (ns.map V.int)[5 * (i + 1)]? = some (.int (ns[5 * (i + 1)]'(by omega))) := by
        rw [List.getElem?_map, List.getElem?_eq_getElem (by omega)]
        rfl
      generalize ns[5 * (i + 1)]'(by omega) = x at gn
      have gz2 : (Z.map V.str)[0]? = some (.str z0) := by rw [List.getElem?_map, gz]; rfl
      have fin : ∀ (y : Str) (v4 v5 v6 v7 : Option V), wk 16 y → Pv (i + 1) [some (.ref a), some (.int 0), some (.int m), some (.ref p), v4, v5, v6, v7] (upd H' p (HO.lst (Z.map V.str ++ [V.str y]))) := fun y v4 v5 v6 v7 hy => by
        refine nxt (Z ++ [y]) _ _ _ _ _ (same_ch sm np) (by rw [upd_same, List.map_append]; rfl) ⟨by rw [List.length_append, tx.1]; rfl, fun z hz => ?_⟩ ?_
        · rcases List.mem_append.mp hz with h | h
          · exact tx.2 z h
          · rw [List.mem_singleton.mp h]
            exact hy
        · rw [List.getElem?_append_left (by rw [tx.1]; omega)]
          exact gz
      have small : (Z.map V.str).length < sizeLine := len_big (by rw [List.length_map, tx.1]; omega)
      have ty : tyV K "list" (.ref p) H' := .inl ⟨rfl, _, SqL.of hp⟩
      walk_at "rd"
      refine ⟨.inl (by decide), a, ns, 5 * (i + 1), by rw [show (0 : Int) + 5 * (1 + (i : Int)) = ((5 * (i + 1) : Nat) : Int) by omega], hS', by omega, fun own ho => ?_⟩
      simp only [rSlS]
      walk_at "rd"
      have sl : ∀ z : Str, wk 8 z → ∀ lo hi, wk 8 (cutS z lo hi) := fun z hz lo hi => wk_cut hz lo hi
      have cat : ∀ u v : Str, wk 8 u → wk 8 v → wk 16 (u ++ v) := fun u v h1 h2 => wk_app h1 h2 (by decide)
      have big8 : ∀ z : Str, wk 8 z → z.length ≤ sizeLine := fun z hz => Nat.le_of_lt (len_big (by have := hz.1; omega))
      have big16 : ∀ u v : Str, wk 8 u → wk 8 v → u.length + v.length ≤ sizeLine := fun u v h1 h2 => Nat.le_of_lt (len_big (by have := h1.1; have := h2.1; omega))
      refine ⟨.inl (by decide), _, hS', .int x, at_of (j := 5 * (i + 1)) (by omega) gn, x, rfl, ⟨by decide, by decide⟩, ⟨by decide, by decide⟩, by decide, by decide, ?_⟩
      generalize x / 8 / 3 % 8 = cut
      refine ite2 (fun w1 => ?_) (fun w1 => ⟨by decide, ite2 (fun w2 => ?_) (fun w2 => ⟨ty, _, hp, small, fin own _ _ _ _ (ho.mono (by decide))⟩)⟩)
      · refine ⟨_, SqL.of hp, .str z0, at_of (j := 0) rfl gz2, z0, rfl, big8 z0 hz0, big8 own ho, big16 _ _ (sl _ hz0 _ _) (sl _ ho _ _), by decide, ?_⟩
        exact ite2 (fun w2 => absurd w2 (by omega)) (fun _ => ⟨ty, _, hp, small, fin _ _ _ _ _ (cat _ _ (sl _ hz0 _ _) (sl _ ho _ _))⟩)
      · exact ⟨big8 own ho, _, SqL.of hp, .str z0, at_of (j := 0) rfl gz2, z0, rfl, big8 z0 hz0, big16 _ _ (sl _ ho _ _) (sl _ hz0 _ _), ty, _, hp, small, fin _ _ _ _ _ (cat _ _ (sl _ ho _ _) (sl _ hz0 _ _))⟩
    · rw [hPv] at pv
      obtain ⟨Z, v4, v5, v6, v7, rfl, sm, hp, tx, gz⟩ := pv
      walk_at "rd"
      exact q Z p H' ⟨by rw [tx.1]; omega, tx.2⟩ sm np hp
theorem scSize : FnScope ["number", "few", "most"] ["number", "few", "most"] (defScope sSize) := ⟨rfl, rfl, rfl, by decide +kernel, rfl, by decide +kernel, by decide +kernel⟩
def spSize : Sp := fun vs H Q _ => ∃ (x f m : Int), vs = [.int x, .int f, .int m] ∧ 0 ≤ f ∧ f ≤ m ∧ ∀ n : Int, 0 ≤ n → n ≤ m → Q (.int n) H
theorem ok_size {f : Addr} {fd : FuncData} (F : Fun K "_law_size" "_law_size" sSize f fd) (T : Bi mg) : FnOk P w K mg base CX0 1 f fd ["number", "few", "most"] spSize := by
  refine F.ok scSize (fun vs H Q E h => ?_) (fun cdv A outer s H vs Q E hr h => ?_)
  · obtain ⟨x, f, m, rfl, _⟩ := h
    rfl
  · obtain ⟨x, f, m, rfl, h0, hm, q⟩ := h
    refine ⟨_, (pss_cons (ps_if (pt_cmpR op_ge (pe_callTy cr_intI (by rfl) T.int (by decide +kernel) (pa_cons (pv 0) pa_nil)) pe_int (nomark _))
      (pss_one (ps_ret (pe_op op_mod (pe_callTy cr_intI (by rfl) T.int (by decide +kernel) (pa_cons (pv 0) pa_nil)) (pe_op op_add (pv 2) pe_int))))
      pss_nil)
      (pss_one (ps_ret (pe_op op_mod (pe_callTy cr_intI (by rfl) T.int (by decide +kernel) (pa_cons (pv 0) pa_nil)) (pe_op op_add (pv 1) pe_int))))), ?_⟩
    walk_at "rd"
    have a1 := Int.emod_nonneg x (show m + 1 ≠ 0 by omega)
    have a2 := Int.emod_lt_of_pos x (show 0 < m + 1 by omega)
    have b1 := Int.emod_nonneg x (show f + 1 ≠ 0 by omega)
    have b2 := Int.emod_lt_of_pos x (show 0 < f + 1 by omega)
    exact ite2 (fun _ => ⟨by omega, q _ a1 (by omega)⟩) (fun _ => ⟨by omega, q _ b1 (by omega)⟩)
theorem scDrawn : FnScope ["numbers", "many", "rooms", "pool", "log", "k", "pick", "word"] ["numbers", "many", "rooms", "pool"] (defScope sDrawn) := ⟨rfl, rfl, rfl, by decide +kernel, rfl, by decide +kernel, by decide +kernel⟩
def spDrawn (K : PySem.W.Frag) : Sp := fun vs H Q _ => ∃ (a b : Addr) (ns : List Int) (m r : Nat) (Z : List Str), vs = [.ref a, .int m, .int r, .ref b] ∧ SqL K H a (ns.map V.int) ∧ 7 * m ≤ ns.length ∧ m ≤ 100 ∧ 1 ≤ r ∧ H b = some (.lst (Z.map V.str)) ∧ 1 ≤ Z.length ∧ Z.length ≤ 100 ∧ (∀ z ∈ Z, wk 16 z) ∧
  ∀ L ws p H', L.length = m → InR r L → (∀ c ∈ L, wk 16 c.2) → Same H H' → H p = none → H' p = some (.lst ws) → LG H' ws L → Q (.ref p) H'
theorem ok_drawn {f fS : Addr} {fd fdS : FuncData} (F : Fun K "_law_drawn" "_law_drawn" sDrawn f fd) (T : Bi mg) (d__law_spelled : Df P w K mg base "_law_spelled" ["numbers", "at"] 1 (spSpell K) fS fdS) : FnOk P w K mg base CX0 2 f fd ["numbers", "many", "rooms", "pool"] (spDrawn K) := by
  refine F.ok scDrawn (fun vs H Q E h => ?_) (fun cdv A outer s H vs Q E hr h => ?_)
  · obtain ⟨a, b, ns, m, r, Z, rfl, _⟩ := h
    rfl
  · obtain ⟨a, b, ns, m, r, Z, rfl, hS, hn, hm, r1, hb, z1, z100, zw, q⟩ := h
    refine ⟨_, (pss_cons (ps_set (i := 4) scDrawn.nd rfl (Or.inl rfl) (pe_lst pa_nil))
      (pss_cons (ps_for PassesOwn.never rfl (pi_range1 (by rfl) T.range (pa_cons (pv 1) pa_nil)) (pg_name (i := 5) scDrawn.nd rfl (Or.inl rfl))
      (pss_cons (ps_set (i := 6) scDrawn.nd rfl (Or.inl rfl) (pe_callTy cr_intI (by rfl) T.int (by decide +kernel) (pa_cons (pe_ix ix_list (pv 0) (pe_op op_add (pe_op op_mul pe_int (pv 5)) pe_int) (fun _ _ => rfl)) pa_nil)))
        (pss_cons (ps_set (i := 7) scDrawn.nd rfl (Or.inl rfl) (pe_ix ix_list (pv 3) (pe_op op_mod (pe_callTy cr_intI (by rfl) T.int (by decide +kernel) (pa_cons (pe_op op_fdiv (pv 6) pe_int) pa_nil)) (pe_callB call_len_seq (by rfl) T.len (by decide +kernel) (pa_cons (pv 3) pa_nil))) (fun _ _ => rfl)))
        (pss_cons (ps_if (pt_cmpR op_eqI (pe_op op_mod (pe_callTy cr_intI (by rfl) T.int (by decide +kernel) (pa_cons (pv 6) pa_nil)) pe_int) pe_int (nomark _))
        (pss_one (ps_set (i := 7) scDrawn.nd rfl (Or.inl rfl) (pe_call d__law_spelled.ok (hr.mono (by decide)) (by rfl) d__law_spelled.at_ d__law_spelled.kp d__law_spelled.b .nil pass0 (pa_cons (pv 0) (pa_cons (pe_op op_add (pe_op op_mul pe_int (pv 5)) pe_int) pa_nil)))))
        pss_nil)
        (pss_one (ps_expr (pe_bm PySem.F.plainAttrs_list PySem.F.slot_list_append PySem.F.type_list_append mt_append (pv 4) (pa_cons (pe_tup (pa_cons (pe_op op_mod (pe_callTy cr_intI (by rfl) T.int (by decide +kernel) (pa_cons (pe_ix ix_list (pv 0) (pe_op op_mul pe_int (pv 5)) (fun _ _ => rfl)) pa_nil)) (pv 2)) (pa_cons (pv 7) pa_nil))) pa_nil))))))))
      (pss_one (ps_ret (pv 4))))), ?_⟩
    walk_at "rd"
    refine ⟨by decide, fun p np => ?_⟩
    refine for_iter ?_
    walk_at "rd"
    obtain ⟨Pv, hPv⟩ : ∃ Pv : Nat → L2.St → Hp → Prop, Pv = (fun i σ H' => ∃ (ws : List V) (L : List Cl) (v5 v6 v7 : Option V), σ = [some (.ref a), some (.int m), some (.int r), some (.ref b), some (.ref p), v5, v6, v7] ∧ Same H H' ∧ H' p = some (.lst ws) ∧ LG H' ws L ∧ L.length = i ∧ InR r L ∧ ∀ c ∈ L, wk 16 c.2) := ⟨_, rfl⟩
    refine ⟨by omega, by omega, for_range (lo := 0) (n := (m : Int).toNat) Pv (by rw [hPv]; exact ⟨[], [], none, none, none, rfl, same_upd np, upd_same, LG.nil0 _, rfl, (fun c hc => by cases hc), fun c hc => by cases hc⟩) (fun i σ H' hi pv => ?_) (fun σ H' pv => ?_)⟩
    · have nxt : ∀ ws L v5 v6 v7 H', Same H H' → H' p = some (.lst ws) → LG H' ws L → L.length = i + 1 → InR r L → (∀ c ∈ L, wk 16 c.2) → Pv (i + 1) [some (.ref a), some (.int m), some (.int r), some (.ref b), some (.ref p), v5, v6, v7] H' := fun ws L v5 v6 v7 H' h1 h2 h3 h4 h5 h6 => by
        rw [hPv]
        exact ⟨ws, L, v5, v6, v7, rfl, h1, h2, h3, h4, h5, h6⟩
      rw [hPv] at pv
      obtain ⟨ws, L, v5, v6, v7, rfl, sm, hp, lw, lL, inr, wks⟩ := pv
      have hS' := sm.seq hS
      have gn : ∀ (j : Nat) (hj : j < ns.length), (ns.map V.int)[j]? = some (.int ns[j]) := fun j hj => by
        rw [List.getElem?_map, List.getElem?_eq_getElem hj]
        rfl
      have g1 := gn (7 * i + 1) (by omega)
      have g0 := gn (7 * i) (by omega)
      generalize ns[7 * i + 1]'(by omega) = x1 at g1
      generalize ns[7 * i]'(by omega) = x0 at g0
      have wl : ws.length ≤ 100 := by rw [lw.len]; omega
      have ty : tyV K "list" (.ref p) H' := .inl ⟨rfl, _, SqL.of hp⟩
      have r0 := Int.emod_nonneg x0 (show (r : Int) ≠ 0 by omega)
      have r2 := Int.emod_lt_of_pos x0 (show (0 : Int) < r by omega)
      have fin : ∀ (y : Str) (v5 v6 v7 : Option V) (t : Addr), wk 16 y → H' t = none → ∃ acc, upd H' t (HO.tup [V.int (x0 % r), V.str y]) p = some (HO.lst acc) ∧ acc.length < sizeLine ∧ Pv (i + 1) [some (.ref a), some (.int m), some (.int r), some (.ref b), some (.ref p), v5, v6, v7] (upd (upd H' t (HO.tup [V.int (x0 % r), V.str y])) p (HO.lst (acc ++ [V.ref t]))) := fun y v5 v6 v7 t wy nt => by
        have npt : p ≠ t := ne_of_none hp nt
        refine ⟨ws, by rw [upd_ne npt]; exact hp, len_big (by omega), nxt (ws ++ [.ref t]) (L ++ [(x0 % r, y)]) _ _ _ _ (same_ch (sm.trans (same_upd nt)) np) upd_same ?_ (by rw [List.length_append, lL]; rfl) (fun c hc => ?_) (fun c hc => ?_)⟩
        · refine LG.snoc ((lw.kt (KT.new nt)).kt (KT.lst (by rw [upd_ne npt]; exact hp))) ⟨t, rfl, ?_⟩
          rw [upd_ne npt.symm, upd_same]
        · rcases List.mem_append.mp hc with h | h
          · exact inr c h
          · rw [List.mem_singleton.mp h]
            exact ⟨r0, r2⟩
        · rcases List.mem_append.mp hc with h | h
          · exact wks c h
          · rw [List.mem_singleton.mp h]
            exact wy
      walk_at "rd"
      refine ⟨.inl (by decide), _, hS', .int x1, at_of (j := 7 * i + 1) (by omega) g1, x1, rfl, ⟨by decide, by decide⟩, _, .inl (SqL.of (sm _ _ hb)), ?_⟩
      have zl : (Z.map V.str).length = Z.length := List.length_map _
      have p0 := Int.emod_nonneg (x1 / 8) (show ((Z.map V.str).length : Int) ≠ 0 by omega)
      have p1 := Int.emod_lt_of_pos (x1 / 8) (show (0 : Int) < ((Z.map V.str).length : Int) by omega)
      obtain ⟨j, ej⟩ : ∃ j : Nat, x1 / 8 % ((Z.map V.str).length : Int) = j := ⟨(x1 / 8 % ((Z.map V.str).length : Int)).toNat, by omega⟩
      rw [ej] at p1
      obtain ⟨z, gz, zk⟩ : ∃ z, (Z.map V.str)[j]? = some (.str z) ∧ wk 16 z := ⟨Z[j]'(by omega), by rw [List.getElem?_map, List.getElem?_eq_getElem (by omega)]; rfl, zw _ (List.getElem_mem _)⟩
      refine ⟨by omega, _, SqL.of (sm _ _ hb), .str z, by rw [ej]; exact atI_nat gz, by decide, ite2 (fun _ => ?_) (fun _ => ?_)⟩
      · refine ⟨.inl (by decide), a, ns, 7 * i + 2, by rw [show (7 : Int) * (0 + (i : Int)) + 2 = ((7 * i + 2 : Nat) : Int) by omega], hS', by omega, fun own ho => ?_⟩
        walk_at "rd"
        exact ⟨ty, .inl (by decide), _, hS', .int x0, at_of (j := 7 * i) (by omega) g0, x0, rfl, by omega, (by show 2 ≤ sizeLine; decide), fun t nt => fin own _ _ _ t (ho.mono (by decide)) nt⟩
      · exact ⟨ty, .inl (by decide), _, hS', .int x0, at_of (j := 7 * i) (by omega) g0, x0, rfl, by omega, (by show 2 ≤ sizeLine; decide), fun t nt => fin z _ _ _ t zk nt⟩
    · rw [hPv] at pv
      obtain ⟨ws, L, v5, v6, v7, rfl, sm, hp, lw, lL, inr, wks⟩ := pv
      walk_at "rd"
      exact q L ws p H' (by omega) inr wks sm np hp lw
end

/-! ### own rules: data compared by <, len(set(tuple of ints)) -/
theorem pig : ∀ (ns K : List Int), K.Nodup → (∀ x ∈ K, x ∈ ns) → K.length ≤ ns.length
  | [], K, _, h => by
    cases K with
    | nil => exact Nat.le_refl _
    | cons a K => exact absurd (h a List.mem_cons_self) (by simp)
  | a :: ns, K, nd, h => by
    by_cases m : a ∈ K
    · have ih := pig ns (K.erase a) (nd.erase a) fun x hx => by
        have hx2 := (List.Nodup.mem_erase_iff nd).mp hx
        rcases List.mem_cons.mp (h x hx2.2) with e | e
        · exact absurd e hx2.1
        · exact e
      rw [List.length_erase_of_mem m] at ih
      have : 1 ≤ K.length := List.length_pos_of_mem m
      rw [List.length_cons]
      omega
    · have ih := pig ns K nd fun x hx => by
        rcases List.mem_cons.mp (h x hx) with e | e
        · rw [e] at hx; exact absurd hx m
        · exact e
      rw [List.length_cons]
      omega
theorem pig_nd : ∀ (ns K : List Int), K.Nodup → (∀ x ∈ K, x ∈ ns) → K.length = ns.length → ns.Nodup
  | [], K, _, _, _ => List.nodup_nil
  | a :: ns, K, nd, h, e => by
    have sub : a ∉ K → ∀ x ∈ K, x ∈ ns := fun m x hx => by
      rcases List.mem_cons.mp (h x hx) with z | z
      · rw [z] at hx; exact absurd hx m
      · exact z
    rw [List.length_cons] at e
    by_cases m : a ∈ K
    · by_cases r : a ∈ ns
      · have := pig ns K nd fun x hx => by
          rcases List.mem_cons.mp (h x hx) with z | z
          · rw [z]; exact r
          · exact z
        omega
      · refine List.nodup_cons.mpr ⟨r, pig_nd ns (K.erase a) (nd.erase a) (fun x hx => ?_) ?_⟩
        · have hx2 := (List.Nodup.mem_erase_iff nd).mp hx
          rcases List.mem_cons.mp (h x hx2.2) with z | z
          · exact absurd z hx2.1
          · exact z
        · rw [List.length_erase_of_mem m]
          omega
    · have := pig ns K nd (sub m)
      omega
theorem set_len {ns K : List Int} (nd : K.Nodup) (h : ∀ x, x ∈ ns ↔ x ∈ K) : K.length = ns.length ↔ ns.Nodup :=
  ⟨fun e => pig_nd ns K nd (fun x hx => (h x).mpr hx) e, fun n => Nat.le_antisymm (pig ns K nd fun x hx => (h x).mpr hx) (pig K ns n fun x hx => (h x).mp hx)⟩
def tLenSetT (K : PySem.W.Frag) (ta : TE) : TE := fun σ H Q => ta σ H fun x H1 => ∃ (l : Addr) (ns : List Int), x = V.ref l ∧ SqT K H1 l (ns.map V.int) ∧ ns.length ≤ 1000 ∧ ∀ m : Nat, (m = ns.length ↔ ns.Nodup) → Q (.int m) H1
theorem pe_lenSetT {X : Cx} {a : Expr} {ta : TE} {p p2 q pos : Pos} (hg : Gl X "len") (hm : X.mg "len" = none) (hg2 : Gl X "set") (hm2 : X.mg "set" = none) (ha : PE X a ta) (hc : X.calm = true := by rfl)
    (na : starEach [a] X.env = (false, eval a X.env) :: starEach [] X.env := by rfl) : PE X (.Call (.Name "len" p) [.Call (.Name "set" p2) [a] [] q] [] pos) (tLenSetT X.K ta) := by
  refine ⟨fun pins s σ H Q I h => ?_⟩
  refine Call_ (ld_blt I hg hm boot_len ?_)
  refine PyProof.Rows.callWith_builtin1 (PyProof.Rows.args_cons ?_ rfl) rfl rfl
  refine Call_ (ld_blt I hg2 hm2 boot_set ?_)
  refine PyProof.Rows.callWith_type1 (PyProof.Rows.args_cons (thn (ha.run pins s σ H _ I h) fun v s1 ⟨x, H1, I1, r1, q1⟩ => PyProof.Rows.args_nil ?_) na) na rfl
  obtain ⟨l, ns, rfl, hq, hl, q1⟩ := q1
  cases r1
  obtain ⟨its, r, pl, hz⟩ := I1.tuple hq
  refine call_set_tupI ns (I1.ok.hd hc) pl (by simpa using ints_of_vals r) (by unfold scanBound; omega) fun h' tk c hS hle hk => ?_
  refine PyProof.Rows.args_nil ?_
  obtain ⟨o, es, ep, t, ho, hex, hd, _, nd, mem, _, hf, hn, _⟩ := hS
  have I2 : Inv X pins σ H1 { s1 with heap := h', toks := tk } := I1.kept fun b o e => hk b o e
  refine call_len_set ho hex hd hf (by rw [hn] <;> omega) ⟨.int c, H1, I2.tok _, ⟨_, by rw [hn]⟩, q1 c ?_⟩
  have e := set_len nd (ns := ns) fun x => by rw [← mem x, decide_eq_true_iff]
  rw [List.length_map, Array.length_toList, hn] at e
  exact e
def rLtD (K : PySem.W.Frag) (n : Nat) : R2 := fun x y H Q => ∃ d e, Dp K H x d ∧ Dp K H y e ∧ PySem.W.alike d e = true ∧ d ≠ .none ∧ d.depth ≤ n ∧ Q (.bl (PySem.W.dataLt d e)) H
theorem op_ltD {X : Cx} {n : Nat} (hu : X.A.units + n < cLine) : OpR X (compareOp .Lt) (rLtD X.K n) := by
  intro pins s σ H x y v u Q I rx ry h
  obtain ⟨d, e, hd, he, al, nn, dep, q⟩ := h
  obtain ⟨as, r1⟩ := Dp.reads I d x v hd rx
  obtain ⟨bs, r2⟩ := Dp.reads I e y u he ry
  exact PySem.W.lt_data r1 r2 al nn (by have := Nat.min_le_left d.depth e.depth; omega) ⟨.bl _, H, I, rfl, q⟩

abbrev sHall : Stmt := topS 17
abbrev sLp : Stmt := topS 15
/-- the place of the last call in a room -/
def placeF : List Cl → Int → Option Nat := fun L r => (List.range L.length).reverse.find? fun i => decide ((L[i]?.map (·.1)) = some r)
/-- a dict that says it -/
def PlD (H : Hp) (d : Addr) (L : List Cl) : Prop := ∃ kvs : List (Key × V), H d = some (.dK kvs) ∧ ∀ r : Int, valV kvs (Sum.inl r : Key) = (placeF L r).map fun i : Nat => V.int i
theorem find_ext {α : Type} {p q : α → Bool} : ∀ l : List α, (∀ a ∈ l, p a = q a) → l.find? p = l.find? q
  | [], _ => rfl
  | a :: l, h => by
    rw [List.find?_cons, List.find?_cons, h a List.mem_cons_self, find_ext l fun b hb => h b (List.mem_cons_of_mem _ hb)]
theorem placeF_snoc (L : List Cl) (c : Cl) (r : Int) : placeF (L ++ [c]) r = if c.1 = r then some L.length else placeF L r := by
  unfold placeF
  rw [List.length_append, List.length_singleton, List.range_succ, List.reverse_append]
  show List.find? _ (L.length :: (List.range L.length).reverse) = _
  have hl : ((L ++ [c])[L.length]?.map (·.1)) = some c.1 := by simp
  by_cases h : c.1 = r
  · rw [List.find?_cons_of_pos (by rw [hl, h]; simp), if_pos h]
  · rw [List.find?_cons_of_neg (by rw [hl]; simp [h]), if_neg h]
    refine find_ext _ fun i hi => ?_
    have : i < L.length := by simpa using hi
    rw [List.getElem?_append_left this]
theorem dc_enum {K : PySem.W.Frag} {a : Addr} {xs : List V} {g : TG} {tt : TT} {tk tv : TE} {vs : List Nat} {σ : L2.St} {H1 : Hp} {D : Addr} {Qd : Hp → Prop} (Pv : Nat → Hp → Prop) (h0 : Pv 0 (upd H1 D (.dK []))) (hl : ∀ i H, i ≤ xs.length → Pv i H → SqL K H a xs)
    (hs : ∀ (i : Nat) x (t : Addr) H, xs[i]? = some x → Pv i H → H t = none → g (.ref t) (wipe σ vs) (upd H t (.tup [.int (i : Nat), x])) fun σ2 H2 => wipe σ2 vs = wipe σ vs ∧ tt σ2 H2 fun b H3 =>
      if b = true then tk σ2 H3 fun y H4 => tv σ2 H4 fun z H5 => ∃ kvs k, y = kV k ∧ H5 D = some (.dK kvs) ∧ kvs.length < sizeLine ∧ Pv (i + 1) (upd H5 D (.dK (putK kvs k z))) else Pv (i + 1) H3) (hd : ∀ H, Pv xs.length H → Qd H) :
    ∃ W : Nat → Nat → Hp → Prop, (∃ m, W 0 m (upd H1 D (.dK []))) ∧ ∀ i m H, W i m H →
      ((Ite K a).stop i H ∧ Qd H) ∨ ((Ite K a).go i H ∧ ∃ Nx : Hp → Prop, (∀ H', Nx H' → ∃ m', m' < m ∧ W (i + 1) m' H') ∧ ∀ x H', (Ite K a).yld i H x H' → g x (wipe σ vs) H' fun σ2 H2 => wipe σ2 vs = wipe σ vs ∧ tt σ2 H2 fun b H3 =>
        if b = true then tk σ2 H3 fun y H4 => tv σ2 H4 fun z H5 => ∃ kvs k, y = kV k ∧ H5 D = some (.dK kvs) ∧ kvs.length < sizeLine ∧ Nx (upd H5 D (.dK (putK kvs k z))) else Nx H3) := by
  refine ⟨fun i m H => m = xs.length - i ∧ i ≤ xs.length ∧ Pv i H, ⟨xs.length, by simp, Nat.zero_le _, h0⟩, ?_⟩
  rintro i m H ⟨rfl, hi, p⟩
  have q := hl i H hi p
  by_cases hlt : i < xs.length
  · refine .inr ⟨⟨xs, xs[i], q, List.getElem?_eq_getElem hlt⟩, Pv (i + 1), fun H' p' => ⟨xs.length - (i + 1), by omega, rfl, hlt, p'⟩, ?_⟩
    rintro v H' ⟨t, x, rfl, nt, rfl, f⟩
    exact hs i x t H (f xs q) p nt
  · have e : i = xs.length := by omega
    subst e
    exact .inl ⟨⟨xs, q, Nat.le_refl _⟩, hd H p⟩
theorem lcW {wi : TI} {g : TG} {tt : TT} {te : TE} {vs : List Nat} {σ : L2.St} {H : Hp} {Q : VK} (h : wi σ H fun J H1 => tLc (fun _ H R => R J H) g tt te vs σ H1 Q) : tLc wi g tt te vs σ H Q := h
section
variable {P : Program} {w : World} {K : PySem.W.Frag} {mg : Str → Option Value} {base : Heap}
theorem scLp : FnScope ["log", "place", "room", "_"] ["log"] (defScope sLp) := ⟨rfl, rfl, rfl, by decide +kernel, rfl, by decide +kernel, by decide +kernel⟩
def spLp : Sp := fun vs H Q _ => ∃ (l : Addr) (us : List V) (L : List Cl), vs = [.ref l] ∧ H l = some (.lst us) ∧ LG H us L ∧ L.length ≤ 1000 ∧ ∀ d H', Same H H' → H d = none → PlD H' d L → Q (.ref d) H'
theorem ok_lp {f : Addr} {fd : FuncData} (F : Fun K "last_places" "last_places" sLp f fd) (T : Bi mg) : FnOk P w K mg base CX0 1 f fd ["log"] spLp := by
  refine F.ok scLp (fun vs H Q E h => ?_) (fun cdv A outer s H vs Q E hr h => ?_)
  · obtain ⟨l, us, L, rfl, _⟩ := h
    rfl
  · obtain ⟨l, us, L, rfl, hl, lg, len, ret⟩ := h
    refine ⟨_, (pss_one (ps_ret (pe_dc (own := [("place", 1), ("room", 2), ("_", 3)]) (g := gTup K 2 (gCons (gName 1) (gCons (gTup K 2 (gCons (gName 2) (gCons (gName 3) gNil))) gNil))) (by rfl) scLp.nd (pi_enum (by rfl) T.enumerate (pa_cons (pv 0) pa_nil)) (blkOk_by (N := ["log", "place", "room", "_"]) (sc := defScope sLp) (by decide +kernel)) (fun _ _ _ _ _ => pg_tup rfl (pgs_cons (pg_name (i := 1) scLp.nd rfl (Or.inl rfl)) (pgs_cons (pg_tup rfl (pgs_cons (pg_name (i := 2) scLp.nd rfl (Or.inl rfl)) (pgs_cons (pg_name (i := 3) scLp.nd rfl (Or.inl rfl)) pgs_nil))) pgs_nil))) (fun _ _ _ _ _ => pts_nil) (fun _ _ _ _ _ => (pv 2)) (fun _ _ _ _ _ => (pv 1))))), ?_⟩
    walk_at "rd"
    have ul : us.length = L.length := lg.len
    refine ⟨_, rfl, l, us, rfl, SqL.of hl, fun D nD => ?_⟩
    obtain ⟨Pv, hPv⟩ : ∃ Pv : Nat → Hp → Prop, Pv = (fun i H' => Same H H' ∧ ∃ kvs : List (Key × V), H' D = some (.dK kvs) ∧ kvs.length ≤ i ∧ ∀ r : Int, valV kvs (Sum.inl r : Key) = (placeF (L.take i) r).map fun i : Nat => V.int i) := ⟨_, rfl⟩
    refine dc_enum (xs := us) Pv (by rw [hPv]; exact ⟨same_upd nD, [], upd_same, Nat.zero_le _, fun r => rfl⟩) (fun i H' _ pv => by rw [hPv] at pv; exact SqL.of (pv.1 _ _ hl)) (fun i v t H' gv pv nt => ?_) (fun H' pv => ?_)
    · rw [hPv] at pv
      obtain ⟨sm, kvs, hD, kl, kv⟩ := pv
      obtain ⟨c, gc, tc, rfl, htc⟩ := pget lg gv
      have il : i < L.length := (List.getElem?_eq_some_iff.mp gc).1
      have htc1 := sm _ _ htc
      have s1 := same_upd (o := HO.tup [V.int (i : Nat), V.ref tc]) nt
      simp only [wipe]
      walk_at "rd"
      refine ⟨_, SqT.of upd_same, rfl, _, _, rfl, _, _, rfl, tc, rfl, _, SqT.of (s1 _ _ htc1), rfl, _, _, rfl, _, _, rfl, ?_⟩
      refine ⟨rfl, rfl, ?_⟩
      rw [if_pos trivial]
      refine ⟨kvs, Sum.inl c.1, rfl, s1 _ _ hD, len_big (by omega), ?_⟩
      rw [hPv]
      refine ⟨same_ch (sm.trans s1) nD, _, upd_same, (by have := length_putK kvs (Sum.inl c.1 : Key) (V.int (i : Nat)); omega), fun r => ?_⟩
      rw [valV_put, List.take_add_one, gc]
      show _ = (placeF (L.take i ++ [c]) r).map _
      rw [placeF_snoc, List.length_take, Nat.min_eq_left (by omega), kv r]
      by_cases h : c.1 = r
      · rw [if_pos h, if_pos (by rw [h])]
        rfl
      · rw [if_neg h, if_neg (fun z => h (Sum.inl.inj z).symm)]
    · rw [hPv] at pv
      obtain ⟨sm, kvs, hD, kl, kv⟩ := pv
      rw [ul, List.take_length] at kv
      exact ret D H' sm nD ⟨kvs, hD, kv⟩
theorem scHall : FnScope ["house", "first", "second", "pair", "x", "y", "before", "after", "room"] ["house", "first", "second", "pair"] (defScope sHall) := ⟨rfl, rfl, rfl, by decide +kernel, rfl, by decide +kernel, by decide +kernel⟩
def placeI (L : List Cl) (r : Int) : Int := match placeF L r with
  | some i => (i : Int)
  | none => -1
theorem place_getD {kv : List (Key × V)} {L : List Cl} (g : ∀ r : Int, valV kv (Sum.inl r : Key) = (placeF L r).map fun i : Nat => V.int i) (z : Int) : (valV kv (Sum.inl z : Key)).getD (V.int (-1)) = V.int (placeI L z) := by
  rw [g]
  unfold placeI
  cases placeF L z <;> rfl
theorem place_some {kv : List (Key × V)} {L : List Cl} (g : ∀ r : Int, valV kv (Sum.inl r : Key) = (placeF L r).map fun i : Nat => V.int i) {x : Int} (h : (placeF L x).isSome) : valV kv (Sum.inl x : Key) = some (V.int (placeI L x)) := by
  rw [g]
  unfold placeI
  cases e : placeF L x with
  | none => rw [e] at h; cases h
  | some i => rfl
/-- the hall of a pair -/
def hallF (r : Nat) (A B : List Cl) (x y : Int) : List Int := (rg r).filter fun z => decide (placeI A z ≤ placeI A x) && decide (placeI B z ≤ placeI B y)
def spHall (C : Addr) : Sp := fun vs H Q _ => ∃ (p a b t : Addr) (x y : Int) (us ws : List V) (A B : List Cl) (r : Nat) (D : List Pr) (own : List Addr), vs = [.ref p, .ref a, .ref b, .ref t] ∧ HouseAt C H p r D own ∧ H a = some (.lst us) ∧ LG H us A ∧ A.length ≤ 1000 ∧ H b = some (.lst ws) ∧ LG H ws B ∧ B.length ≤ 1000 ∧ H t = some (.tup [.int x, .int y]) ∧ (placeF A x).isSome ∧ (placeF B y).isSome ∧ ∀ o H', Same H H' → H o = none → H' o = some (.lst ((hallF r A B x y).map V.int)) → Q (.ref o) H'
theorem ok_hall {f C fL : Addr} {fd fdL : FuncData} (F : Fun K "hall" "hall" sHall f fd) (T : Bi mg) (U : Hs K mg C) (d_last_places : Df P w K mg base "last_places" ["log"] 1 spLp fL fdL) : FnOk P w K mg base CX0 2 f fd ["house", "first", "second", "pair"] (spHall C) := by
  refine F.ok scHall (fun vs H Q E h => ?_) (fun cdv A0 outer s H vs Q E hr h => ?_)
  · obtain ⟨p, a, b, t, x, y, us, ws, A, B, r, D, own, rfl, _⟩ := h
    rfl
  · obtain ⟨p, a, b, t, x, y, us, ws, A, B, r, D, own, rfl, hh, ha, la, al, hb, lb, bl, ht, px, py, ret⟩ := h
    refine ⟨_, (pss_cons (ps_asg (pv 3) (pg_tup rfl (pgs_cons (pg_name (i := 4) scHall.nd rfl (Or.inr rfl)) (pgs_cons (pg_name (i := 5) scHall.nd rfl (Or.inr rfl)) pgs_nil))))
      (pss_cons (ps_set (i := 6) scHall.nd rfl (Or.inr rfl) (pe_call d_last_places.ok (hr.mono (by decide)) (by rfl) d_last_places.at_ d_last_places.kp d_last_places.b .nil pass0 (pa_cons (pv 1) pa_nil)))
      (pss_cons (ps_set (i := 7) scHall.nd rfl (Or.inr rfl) (pe_call d_last_places.ok (hr.mono (by decide)) (by rfl) d_last_places.at_ d_last_places.kp d_last_places.b .nil pass0 (pa_cons (pv 2) pa_nil)))
      (pss_one (ps_ret (pe_lc (own := [("room", 8)]) (by rfl) scHall.nd (pi_range1 (by rfl) T.range (pa_cons (pe_fld (pv 0) rfl) pa_nil)) (blkOk_by (N := ["house", "first", "second", "pair", "x", "y", "before", "after", "room"]) (sc := defScope sHall) (by decide +kernel)) (fun _ _ _ _ _ => pg_name (i := 8) scHall.nd rfl (Or.inl rfl)) (fun _ _ _ _ _ => (pts_one (PW.pt (pw_and (pt_cmpR op_le (pe_dget2 (u1 hr.units) (pv 6) (pv 8) (pe_un un_neg pe_int) ⟨by rfl, by rfl, by rfl, by rfl⟩) (pe_dget (u1 hr.units) (pv 6) (pv 4) (fun _ _ => rfl)) (nomark _)) (pw_and1 (pt_cmpR op_le (pe_dget2 (u1 hr.units) (pv 7) (pv 8) (pe_un un_neg pe_int) ⟨by rfl, by rfl, by rfl, by rfl⟩) (pe_dget (u1 hr.units) (pv 7) (pv 5) (fun _ _ => rfl)) (nomark _))))))) (fun _ _ _ _ _ => (pv 8)))))))), ?_⟩
    walk_at "rd"
    refine ⟨_, SqT.of ht, rfl, .int x, [.int y], rfl, .int y, [], rfl, rfl, ?_⟩
    refine ⟨a, us, A, rfl, ha, la, al, fun d1 H1 s1 n1 pd1 => ?_⟩
    refine ⟨b, ws, B, rfl, s1 _ _ hb, lb.kt (KT.same s1), bl, fun d2 H2 s2 n2 pd2 => ?_⟩
    obtain ⟨kv1, hd1, g1⟩ := pd1
    obtain ⟨kv2, hd2, g2⟩ := pd2
    have hd1 := s2 _ _ hd1
    have s12 := s1.trans s2
    have hh2 := hh.same s12
    obtain ⟨dx, l0, m0, ls, nss, h1, _⟩ := hh2.ex
    have r12 := hh.r12
    refine lcW ?_
    walk_at "rd"
    refine ⟨C, dx, _, h1, U.cl, U.nR, .int r, hf_rooms _ _ _, r, rfl, by omega, by omega, fun c nc => ?_⟩
    obtain ⟨Pv, hPv⟩ : ∃ Pv : Nat → Hp → Prop, Pv = (fun j Hx => Same H2 Hx ∧ Hx c = some (.lst ((((List.range j).map fun i : Nat => (i : Int)).filter fun z => decide (placeI A z ≤ placeI A x) && decide (placeI B z ≤ placeI B y)).map V.int))) := ⟨_, rfl⟩
    refine lc_range (lo := 0) (n := (r : Int).toNat) Pv (by rw [hPv]; exact ⟨same_upd nc, upd_same⟩) (fun j Hx hj pv => ?_) (fun Hx pv => ?_)
    · rw [hPv] at pv
      obtain ⟨sx, hc⟩ := pv
      simp only [wipe]
      unfold tDGet2 tDGet
      walk_at "rd"
      have dl : ((((List.range j).map fun i : Nat => (i : Int)).filter fun z => decide (placeI A z ≤ placeI A x) && decide (placeI B z ≤ placeI B y)).map V.int).length < sizeLine := len_big (by
        rw [List.length_map]
        have := List.length_filter_le (fun z => decide (placeI A z ≤ placeI A x) && decide (placeI B z ≤ placeI B y)) ((List.range j).map fun i : Nat => (i : Int))
        rw [List.length_map, List.length_range] at this
        omega)
      have step : (((List.range (j + 1)).map fun i : Nat => (i : Int)).filter fun z => decide (placeI A z ≤ placeI A x) && decide (placeI B z ≤ placeI B y)) = (((List.range j).map fun i : Nat => (i : Int)).filter fun z => decide (placeI A z ≤ placeI A x) && decide (placeI B z ≤ placeI B y)) ++ (if placeI A (j : Int) ≤ placeI A x ∧ placeI B (j : Int) ≤ placeI B y then [(j : Int)] else []) := by
        rw [List.range_succ, List.map_append, List.filter_append]
        congr 1
        show List.filter _ [(j : Int)] = _
        by_cases h : placeI A (j : Int) ≤ placeI A x ∧ placeI B (j : Int) ≤ placeI B y
        · rw [if_pos h, List.filter_cons_of_pos (by simp [h.1, h.2]), List.filter_nil]
        · rw [if_neg h, List.filter_cons_of_neg (by simpa using h), List.filter_nil]
      have no : ¬ (placeI A (j : Int) ≤ placeI A x ∧ placeI B (j : Int) ≤ placeI B y) → Pv (j + 1) Hx := fun h => by
        rw [hPv]
        refine ⟨sx, ?_⟩
        rw [step, if_neg h, List.append_nil]
        exact hc
      rw [Int.zero_add]
      refine ⟨.inl ⟨kv1, .inl (sx _ _ hd1)⟩, _, DGet.k (k := Sum.inl (j : Int)) (sx _ _ hd1), .int (placeI A x), (by rw [← place_some g1 px]; exact DGet.k (k := Sum.inl x) (sx _ _ hd1)), placeI A (j : Int), place_getD g1 _, placeI A x, rfl, ?_⟩
      by_cases c1 : placeI A (j : Int) ≤ placeI A x
      rotate_left
      · rw [if_neg c1, if_neg (show ¬ False from id)]
        exact no fun z => c1 z.1
      rw [if_pos c1]
      refine ⟨.inl ⟨kv2, .inl (sx _ _ hd2)⟩, _, DGet.k (k := Sum.inl (j : Int)) (sx _ _ hd2), .int (placeI B y), (by rw [← place_some g2 py]; exact DGet.k (k := Sum.inl y) (sx _ _ hd2)), placeI B (j : Int), place_getD g2 _, placeI B y, rfl, ?_⟩
      by_cases c2 : placeI B (j : Int) ≤ placeI B y
      rotate_left
      · rw [if_neg c2]
        exact no fun z => c2 z.2
      rw [if_pos c2]
      refine ⟨_, hc, dl, ?_⟩
      rw [hPv]
      refine ⟨same_ch sx nc, ?_⟩
      rw [upd_same, step, if_pos ⟨c1, c2⟩, List.map_append]
      rfl
    · rw [hPv] at pv
      obtain ⟨sx, hc⟩ := pv
      refine ret c Hx (s12.trans sx) (s12.free nc) ?_
      rw [show (r : Int).toNat = r by omega] at hc
      exact hc
end

abbrev sCrp : Stmt := topS 16
/-- the word of the last call in a room -/
def wordL (L : List Cl) (r : Int) : Option Str := (lastIn [r] L).map (·.2)
def crossB (A B : List Cl) (x y : Int) : Bool := decide (wordL A x ≠ wordL A y) && (decide (placeI A y < placeI A x) && decide (placeI B x < placeI B y))
def crossR (A B : List Cl) (rs : List Int) (x : Int) : List Pr := (rs.filter fun y => crossB A B x y).map fun y => (x, y)
def crossF (A B : List Cl) (rs : List Int) : List Pr := rs.flatMap (crossR A B rs)
theorem wordL_cons (c : Cl) (S : List Cl) (x : Int) : wordL (c :: S) x = match wordL S x with
    | some w => some w
    | none => if c.1 = x then some c.2 else none := by
  unfold wordL lastIn
  rw [List.reverse_cons, List.find?_append]
  cases e : S.reverse.find? (fun c => decide (c.1 ∈ [x])) with
  | some w => rfl
  | none =>
    show Option.map (fun x : Cl => x.2) (List.find? (fun c : Cl => decide (c.1 ∈ [x])) [c]) = if c.1 = x then some c.2 else none
    by_cases h : c.1 = x
    · rw [List.find?_cons_of_pos (by simp [h])]
      simp [h]
    · rw [List.find?_cons_of_neg (by simp [h])]
      simp [h]
theorem wordL_none {L : List Cl} {x : Int} : wordL L x = none ↔ x ∉ L.map (·.1) := by
  induction L with
  | nil => simp [wordL, lastIn]
  | cons c S ih =>
    rw [wordL_cons]
    cases e : wordL S x with
    | some w =>
      have : ¬ wordL S x = none := by rw [e]; simp
      have h := fun z => this (ih.mpr z)
      simp only [reduceCtorEq, List.map_cons, List.mem_cons, not_or, false_iff, not_and]
      exact fun _ => h
    | none =>
      have h := ih.mp e
      by_cases c1 : c.1 = x
      · simp [c1]
      · have c2 : ¬ x = c.1 := fun z => c1 z.symm
        simp only [if_neg c1, List.map_cons, List.mem_cons, not_or, true_iff]
        exact ⟨c2, h⟩
theorem lastF_mem (L : List Cl) (x : Int) : x ∈ (lastF L).map (·.1) ↔ x ∈ L.map (·.1) := by
  induction L with
  | nil => exact Iff.rfl
  | cons c S ih =>
    show x ∈ (if c.1 ∈ S.map (·.1) then lastF S else c :: lastF S).map (·.1) ↔ _
    by_cases h : c.1 ∈ S.map (·.1)
    · rw [if_pos h, ih, List.map_cons, List.mem_cons]
      exact ⟨.inr, fun z => z.elim (fun e => by rw [e]; exact h) id⟩
    · rw [if_neg h, List.map_cons, List.map_cons, List.mem_cons, List.mem_cons, ih]
theorem lastF_nd (L : List Cl) : ((lastF L).map (·.1)).Nodup := by
  induction L with
  | nil => exact List.nodup_nil
  | cons c S ih =>
    show ((if c.1 ∈ S.map (·.1) then lastF S else c :: lastF S).map (·.1)).Nodup
    by_cases h : c.1 ∈ S.map (·.1)
    · rw [if_pos h]; exact ih
    · rw [if_neg h, List.map_cons]
      exact List.nodup_cons.mpr ⟨fun z => h ((lastF_mem S c.1).mp z), ih⟩
abbrev kvOf (c : Cl) : Key × V := (Sum.inl c.1, V.str c.2)
theorem lastF_val (L : List Cl) (x : Int) : valV ((lastF L).map kvOf) (Sum.inl x : Key) = (wordL L x).map V.str := by
  induction L with
  | nil => rfl
  | cons c S ih =>
    show valV ((if c.1 ∈ S.map (·.1) then lastF S else c :: lastF S).map kvOf) _ = _
    rw [wordL_cons]
    by_cases h : c.1 ∈ S.map (·.1)
    · rw [if_pos h, ih]
      cases e : wordL S x with
      | some w => rfl
      | none =>
        have c1 : ¬ c.1 = x := fun z => wordL_none.mp e (by rw [← z]; exact h)
        simp only [if_neg c1]
    · rw [if_neg h, List.map_cons]
      by_cases c1 : c.1 = x
      · have e : wordL S x = none := wordL_none.mpr (by rw [← c1]; exact h)
        rw [valV_pos (by show (Sum.inl c.1 : Key) = Sum.inl x; rw [c1]), e]
        simp only [if_pos c1]
        rfl
      · rw [valV_neg (by show ¬ (Sum.inl c.1 : Key) = Sum.inl x; exact fun z => c1 (Sum.inl.inj z)), ih]
        cases e : wordL S x with
        | some w => rfl
        | none => simp only [if_neg c1]
theorem merge_nd : ∀ (more acc : List (Key × V)), (more.map (·.1)).Nodup → (∀ k ∈ more.map (·.1), k ∉ acc.map (·.1)) → mergeK acc more = acc ++ more
  | [], acc, _, _ => (List.append_nil acc).symm
  | kv :: more, acc, nd, dis => by
    show mergeK (putK acc kv.1 kv.2) more = _
    have hk := dis kv.1 List.mem_cons_self
    have e : putK acc kv.1 kv.2 = acc ++ [kv] := by
      unfold putK
      rw [if_neg]
      intro z
      obtain ⟨q, hq, hq2⟩ := List.any_eq_true.mp z
      exact hk (List.mem_map.mpr ⟨q, hq, of_decide_eq_true hq2⟩)
    have nd2 := List.nodup_cons.mp nd
    rw [e, merge_nd more (acc ++ [kv]) nd2.2 fun k hk2 z => ?_, List.append_assoc]
    · rfl
    · rw [List.map_append] at z
      rcases List.mem_append.mp z with z | z
      · exact dis k (List.mem_cons_of_mem _ hk2) z
      · have : k = kv.1 := by simpa using z
        rw [this] at hk2
        exact nd2.1 hk2
theorem lg_refs {K : PySem.W.Frag} {H : Hp} : ∀ {zs : List V} {D : List Cl}, LG H zs D → ∃ ps : List Addr, zs = ps.map V.ref ∧ Paired (fun p (kv : Key × V) => SqT K H p [kV kv.1, kv.2]) ps (D.map kvOf)
  | _, _, Paired.nil => ⟨[], rfl, .nil⟩
  | _, _, Paired.cons r t => by
    obtain ⟨tc, rfl, h⟩ := r
    obtain ⟨ps, e, pr⟩ := lg_refs (K := K) t
    exact ⟨tc :: ps, by rw [e]; rfl, .cons (SqT.of h) pr⟩
theorem in_list {K : PySem.W.Frag} {a : Addr} {xs : List V} {g : TG} {tt : TT} {te : TE} {vs : List Nat} {σ : L2.St} {H : Hp} {D : Addr} {Nx : Hp → Prop} (Pv : Nat → Hp → Prop) (h0 : Pv 0 H) (hl : ∀ i H, i ≤ xs.length → Pv i H → SqL K H a xs)
    (hs : ∀ i x H, xs[i]? = some x → Pv i H → g x (wipe σ vs) H fun σ2 H2 => wipe σ2 vs = wipe σ vs ∧ tt σ2 H2 fun b H3 => if b = true then te σ2 H3 fun y H4 => ∃ acc, H4 D = some (.lst acc) ∧ acc.length < sizeLine ∧ Pv (i + 1) (upd H4 D (.lst (acc ++ [y]))) else Pv (i + 1) H3)
    (hd : ∀ H, Pv xs.length H → Nx H) :
    ∃ W : Nat → Nat → Hp → Prop, (∃ m, W 0 m H) ∧ ∀ j k H, W j k H → ((Itl K a).stop j H ∧ Nx H) ∨ ((Itl K a).go j H ∧ ∃ N1 : Hp → Prop, (∀ H', N1 H' → ∃ k', k' < k ∧ W (j + 1) k' H') ∧ ∀ x H', (Itl K a).yld j H x H' → g x (wipe σ vs) H' fun σ3 H5 => wipe σ3 vs = wipe σ vs ∧ tt σ3 H5 fun b H6 =>
      if b = true then te σ3 H6 fun y H7 => ∃ acc, H7 D = some (.lst acc) ∧ acc.length < sizeLine ∧ N1 (upd H7 D (.lst (acc ++ [y]))) else N1 H6) := by
  refine ⟨fun i m H => m = xs.length - i ∧ i ≤ xs.length ∧ Pv i H, ⟨xs.length, rfl, Nat.zero_le _, h0⟩, ?_⟩
  rintro i m H ⟨rfl, hi, p⟩
  have q := hl i H hi p
  by_cases lt : i < xs.length
  · refine .inr ⟨⟨xs, xs[i], q, by simp [lt]⟩, Pv (i + 1), fun H' q => ⟨xs.length - (i + 1), by omega, rfl, lt, q⟩, ?_⟩
    rintro v H' ⟨rfl, ev⟩
    exact hs i v _ (ev xs q) p
  · have e : i = xs.length := by omega
    subst e
    exact .inl ⟨⟨xs, q, Nat.le_refl _⟩, hd H p⟩
theorem place_in {L : List Cl} {x : Int} (h : x ∈ L.map (·.1)) : (placeF L x).isSome := by
  obtain ⟨c, hc, e⟩ := List.mem_map.mp h
  obtain ⟨i, gi⟩ := List.getElem?_of_mem hc
  unfold placeF
  rw [List.find?_isSome]
  refine ⟨i, by simpa using (List.getElem?_eq_some_iff.mp gi).1, ?_⟩
  rw [gi, ← e]
  simp
theorem cross_len (A B : List Cl) (rs : List Int) : ∀ l : List Int, (l.flatMap (crossR A B rs)).length ≤ l.length * rs.length
  | [] => Nat.zero_le _
  | x :: l => by
    have ih := cross_len A B rs l
    have h : (crossR A B rs x).length ≤ rs.length := by
      unfold crossR
      rw [List.length_map]
      exact List.length_filter_le _ _
    rw [List.flatMap_cons, List.length_append, List.length_cons, Nat.succ_mul]
    omega
section
variable {P : Program} {w : World} {K : PySem.W.Frag} {mg : Str → Option Value} {base : Heap}
theorem scCrp : FnScope ["first", "second", "words", "before", "after", "rooms", "x", "y"] ["first", "second"] (defScope sCrp) := ⟨rfl, rfl, rfl, by decide +kernel, rfl, by decide +kernel, by decide +kernel⟩
def spCrp : Sp := fun vs H Q _ => ∃ (a b : Addr) (us ws : List V) (A B : List Cl) (r : Nat), vs = [.ref a, .ref b] ∧ H a = some (.lst us) ∧ LG H us A ∧ A.length ≤ 1000 ∧ H b = some (.lst ws) ∧ LG H ws B ∧ B.length ≤ 1000 ∧ InR r A ∧ r ≤ 12 ∧ (∀ c ∈ A, (placeF B c.1).isSome) ∧
  ∀ (rs : List Int) (zs : List V) (t : Addr) (H' : Hp), rs.Pairwise (· < ·) → (∀ x, x ∈ rs ↔ x ∈ A.map (·.1)) → Same H H' → H t = none → H' t = some (.lst zs) → PL H' zs (crossF A B rs) → Q (.ref t) H'
theorem ok_crp {f fL fA : Addr} {fd fdL fdA : FuncData} (F : Fun K "crossed_pairs" "crossed_pairs" sCrp f fd) (T : Bi mg) (nd : mg "dict" = none) (d_last_calls : Df P w K mg base "last_calls" ["log"] 1 spLast fA fdA) (d_last_places : Df P w K mg base "last_places" ["log"] 1 spLp fL fdL) : FnOk P w K mg base CX0 2 f fd ["first", "second"] spCrp := by
  refine F.ok scCrp (fun vs H Q E h => ?_) (fun cdv A0 outer s H vs Q E hr h => ?_)
  · obtain ⟨a, b, us, ws, A, B, r, rfl, _⟩ := h
    rfl
  · obtain ⟨a, b, us, ws, A, B, r, rfl, ha, la, al, hb, lb, bl, inr, r12, calls, ret⟩ := h
    refine ⟨_, (pss_cons (ps_set (i := 2) scCrp.nd rfl (Or.inr rfl) (pe_callTy (call_dictP rfl) (by rfl) nd (by decide +kernel) (pa_cons (pe_call d_last_calls.ok (hr.mono (by decide)) (by rfl) d_last_calls.at_ d_last_calls.kp d_last_calls.b .nil pass0 (pa_cons (pv 0) pa_nil)) pa_nil)))
      (pss_cons (ps_set (i := 3) scCrp.nd rfl (Or.inr rfl) (pe_call d_last_places.ok (hr.mono (by decide)) (by rfl) d_last_places.at_ d_last_places.kp d_last_places.b .nil pass0 (pa_cons (pv 0) pa_nil)))
      (pss_cons (ps_set (i := 4) scCrp.nd rfl (Or.inr rfl) (pe_call d_last_places.ok (hr.mono (by decide)) (by rfl) d_last_places.at_ d_last_places.kp d_last_places.b .nil pass0 (pa_cons (pv 1) pa_nil)))
      (pss_cons (ps_set (i := 5) scCrp.nd rfl (Or.inr rfl) (pe_callB (call_sortedDI rfl) (by rfl) T.sorted (by decide +kernel) (pa_cons (pv 2) pa_nil)))
      (pss_one (ps_ret (pe_lc2 (own := [("x", 6), ("y", 7)]) (vs1 := [7]) (wi1 := iList K (tVar 5)) (te := tTup (tCons (tVar 6) (tCons (tVar 7) tNil))) (tt1 := tAnd (tTest (tOp rNe (tDGet (tVar 2) (tVar 6)) (tDGet (tVar 2) (tVar 7)))) (tAnd (tTest (tOp (rI0 fun i j => .bl (decide (j < i))) (tDGet (tVar 3) (tVar 6)) (tDGet (tVar 3) (tVar 7)))) (tTest (tOp (rI0 fun i j => .bl (decide (i < j))) (tDGet (tVar 4) (tVar 6)) (tDGet (tVar 4) (tVar 7)))))) (by rfl) scCrp.nd (pi_list (pv 5)) (blkOk_by (N := ["first", "second", "words", "before", "after", "rooms", "x", "y"]) (sc := defScope sCrp) (by decide +kernel)) (by decide) (fun _ _ _ _ _ => pg_name (i := 6) scCrp.nd rfl (Or.inl rfl)) (fun _ _ _ _ _ => pts_nil) (fun _ _ _ _ _ => (pi_list (pv 5))) (fun _ _ _ _ _ => pg_name (i := 7) scCrp.nd rfl (Or.inl rfl)) (fun _ _ _ _ _ => (pts_one (PW.pt (pw_and (pt_cmpR op_ne (pe_dget (u1 hr.units) (pv 2) (pv 6) (fun _ _ => rfl)) (pe_dget (u1 hr.units) (pv 2) (pv 7) (fun _ _ => rfl)) (nomark _)) (pw_and (pt_cmpR op_gt (pe_dget (u1 hr.units) (pv 3) (pv 6) (fun _ _ => rfl)) (pe_dget (u1 hr.units) (pv 3) (pv 7) (fun _ _ => rfl)) (nomark _)) (pw_and1 (pt_cmpR op_lt (pe_dget (u1 hr.units) (pv 4) (pv 6) (fun _ _ => rfl)) (pe_dget (u1 hr.units) (pv 4) (pv 7) (fun _ _ => rfl)) (nomark _)))))))) (fun _ _ _ _ _ => (pe_tup (pa_cons (pv 6) (pa_cons (pv 7) pa_nil))))))))))), ?_⟩
    walk_at "rd"
    refine ⟨a, us, A, rfl, ha, la, al, fun zs t H1 s1 nt ht lz => ?_⟩
    obtain ⟨ps, rfl, pr⟩ := lg_refs (K := K) lz
    have ndk : (((lastF A).map kvOf).map (·.1)).Nodup := by
      rw [List.map_map]
      show ((lastF A).map fun c => (Sum.inl c.1 : Key)).Nodup
      have := lastF_nd A
      refine List.pairwise_map.mpr (List.Pairwise.imp (fun {x y} h z => h ?_) (List.pairwise_map.mp this))
      exact Sum.inl.inj z
    have em : mergeK [] ((lastF A).map kvOf) = (lastF A).map kvOf := (merge_nd _ [] ndk fun k _ => List.not_mem_nil).trans (List.nil_append _)
    refine ⟨t, rfl, ps, SqL.of ht, _, pr, fun p np => ?_⟩
    rw [em]
    have s2 := s1.trans (same_upd (o := HO.dK ((lastF A).map kvOf)) np)
    have hp := upd_same (H := H1) (a := p) (o := HO.dK ((lastF A).map kvOf))
    generalize upd H1 p (HO.dK ((lastF A).map kvOf)) = H2 at s2 hp ⊢
    refine ⟨a, us, A, rfl, s2 _ _ ha, la.kt (KT.same s2), al, fun d1 H3 s3 n3 pd1 => ?_⟩
    have s23 := s2.trans s3
    refine ⟨b, ws, B, rfl, s23 _ _ hb, lb.kt (KT.same s23), bl, fun d2 H4 s4 n4 pd2 => ?_⟩
    have s24 := s23.trans s4
    have hp4 := s4 _ _ (s3 _ _ hp)
    obtain ⟨kv1, hd1, g1⟩ := pd1
    obtain ⟨kv2, hd2, g2⟩ := pd2
    have hd1 := s4 _ _ hd1
    have nks : ((lastF A).map (·.1)).length ≤ 12 := by
      have := ints_len (r := r) (lastF_nd A) fun x hx => by
        obtain ⟨c, hc, rfl⟩ := List.mem_map.mp ((lastF_mem A x).mp hx)
        exact inr c hc
      omega
    refine ⟨_, .inl hp4, (lastF A).map (·.1), by rw [List.map_map, List.map_map]; rfl, by omega, fun rs o pmr sor no => ?_⟩
    have memr : ∀ x, x ∈ rs ↔ x ∈ A.map (·.1) := fun x => pmr.mem_iff.trans (lastF_mem A x)
    have ndr : rs.Nodup := pmr.nodup_iff.mpr (lastF_nd A)
    have rl : rs.length ≤ 12 := by rw [pmr.length_eq]; exact nks
    have up : rs.Pairwise (· < ·) := List.Pairwise.imp₂ (fun x y h1 h2 => by have h1 : x ≤ y := h1; have h2 : x ≠ y := h2; omega) sor ndr
    have s25 := s24.trans (same_upd (o := HO.lst (rs.map V.int)) no)
    have s45 := same_upd (H := H4) (o := HO.lst (rs.map V.int)) no
    have ho := upd_same (H := H4) (a := o) (o := HO.lst (rs.map V.int))
    generalize upd H4 o (HO.lst (rs.map V.int)) = H5 at s25 s45 ho ⊢
    have hp5 := s45 _ _ hp4
    have hd1 := s45 _ _ hd1
    have hd2 := s45 _ _ hd2
    refine ⟨_, rfl, o, rfl, ⟨_, SqL.of ho⟩, fun c nc => ?_⟩
    have lm : (rs.map V.int).length = rs.length := List.length_map _
    have wS : ∀ x ∈ rs, ∃ z, wordL A x = some z := fun x hx => by
      cases e : wordL A x with
      | some z => exact ⟨z, rfl⟩
      | none => exact absurd ((memr x).mp hx) (wordL_none.mp e)
    have pA : ∀ x ∈ rs, (placeF A x).isSome := fun x hx => place_in ((memr x).mp hx)
    have pB : ∀ x ∈ rs, (placeF B x).isSome := fun x hx => by
      obtain ⟨c, hc, rfl⟩ := List.mem_map.mp ((memr x).mp hx)
      exact calls c hc
    obtain ⟨Pv, hPv⟩ : ∃ Pv : Nat → Hp → Prop, Pv = (fun i Hx => Same H5 Hx ∧ ∃ zs, Hx c = some (.lst zs) ∧ PL Hx zs ((rs.take i).flatMap (crossR A B rs))) := ⟨_, rfl⟩
    refine ⟨fun j m Hx => m = rs.length - j ∧ j ≤ rs.length ∧ Pv j Hx, ⟨_, rfl, Nat.zero_le _, by rw [hPv]; exact ⟨same_upd nc, [], upd_same, PL.nil0 _⟩⟩, ?_⟩
    rintro j mm Hx ⟨rfl, hj, pv⟩
    have pv0 := pv
    rw [hPv] at pv
    obtain ⟨sx, zs, hc, pz⟩ := pv
    by_cases lt : j < rs.length
    · refine .inr ⟨⟨rs.map V.int, .int rs[j], SqL.of (sx _ _ ho), by rw [List.getElem?_map, List.getElem?_eq_getElem lt]; rfl⟩, Pv (j + 1), fun H' q => ⟨_, by omega, rfl, lt, q⟩, ?_⟩
      rintro v H' ⟨rfl, ev⟩
      have e2 := ev _ (SqL.of (sx _ _ ho))
      rw [List.getElem?_map, List.getElem?_eq_getElem lt] at e2
      have e3 := Option.some.inj e2
      subst e3
      have mx : rs[j] ∈ rs := List.getElem_mem lt
      have tk : (rs.take (j + 1)).flatMap (crossR A B rs) = (rs.take j).flatMap (crossR A B rs) ++ crossR A B rs rs[j] := by
        rw [List.take_add_one, List.getElem?_eq_getElem lt, List.flatMap_append]
        congr 1
        show crossR A B rs rs[j] ++ [] = _
        rw [List.append_nil]
      have nxt : ∀ Hx zs, Same H5 Hx → Hx c = some (.lst zs) → PL Hx zs ((rs.take j).flatMap (crossR A B rs) ++ crossR A B rs rs[j]) → Pv (j + 1) Hx := fun Hx zs h1 h2 h3 => by
        rw [hPv]
        exact ⟨h1, zs, h2, by rw [tk]; exact h3⟩
      have dlen : ((rs.take j).flatMap (crossR A B rs)).length ≤ 144 := by
        have h1 := cross_len A B rs (rs.take j)
        have h2 : (rs.take j).length ≤ 12 := by rw [List.length_take]; omega
        exact Nat.le_trans h1 (Nat.mul_le_mul h2 rl)
      generalize rs[j] = x at mx nxt ⊢
      generalize (rs.take j).flatMap (crossR A B rs) = done at pz nxt dlen
      clear tk ev e2
      obtain ⟨Pw, hPw⟩ : ∃ Pw : Nat → Hp → Prop, Pw = (fun k Hy => Same H5 Hy ∧ ∃ zs, Hy c = some (.lst zs) ∧ PL Hy zs (done ++ ((rs.take k).filter fun y => crossB A B x y).map fun y => (x, y))) := ⟨_, rfl⟩
      refine ⟨rfl, iteT (B := True) ?_⟩
      refine ⟨_, rfl, o, rfl, ⟨_, SqL.of (sx _ _ ho)⟩, in_list (K := K) (a := o) (xs := rs.map V.int) Pw (by rw [hPw]; exact ⟨sx, zs, hc, by rw [List.take_zero]; simpa using pz⟩) (fun k Hy _ pw => by rw [hPw] at pw; exact SqL.of (pw.1 _ _ ho)) (fun k v Hy gv pw => ?_) (fun Hy pw => ?_)⟩
      · rw [hPw] at pw
        obtain ⟨sy, ws', hc2, pz2⟩ := pw
        rw [List.getElem?_map] at gv
        obtain ⟨y, gy, rfl⟩ : ∃ y, rs[k]? = some y ∧ v = V.int y := by
          cases e : rs[k]? with
          | none => rw [e] at gv; cases gv
          | some y => rw [e] at gv; exact ⟨y, rfl, (Option.some.inj gv).symm⟩
        have my : y ∈ rs := List.mem_of_getElem? gy
        simp only [wipe]
        unfold tDGet
        walk_at "rd"
        obtain ⟨wx, ewx⟩ := wS x mx
        obtain ⟨wy, ewy⟩ := wS y my
        have dW : ∀ (z : Int) (q : Str), wordL A z = some q → DGet Hy p (.int z) (some (.str q)) := fun z q e => by
          have h := DGet.k (k := Sum.inl z) (sy _ _ hp5)
          rw [lastF_val, e] at h
          exact h
        have dA : ∀ z ∈ rs, DGet Hy d1 (.int z) (some (.int (placeI A z))) := fun z hz => by
          rw [← place_some g1 (pA z hz)]
          exact DGet.k (k := Sum.inl z) (sy _ _ hd1)
        have dB : ∀ z ∈ rs, DGet Hy d2 (.int z) (some (.int (placeI B z))) := fun z hz => by
          rw [← place_some g2 (pB z hz)]
          exact DGet.k (k := Sum.inl z) (sy _ _ hd2)
        have step : (rs.take (k + 1)).filter (fun y => crossB A B x y) = (rs.take k).filter (fun y => crossB A B x y) ++ (if crossB A B x y = true then [y] else []) := by
          rw [List.take_add_one, gy, List.filter_append]
          congr 1
          show List.filter _ [y] = _
          by_cases h : crossB A B x y = true
          · rw [if_pos h, List.filter_cons_of_pos h, List.filter_nil]
          · rw [if_neg h, List.filter_cons_of_neg h, List.filter_nil]
        have skip : ¬ crossB A B x y = true → Pw (k + 1) Hy := fun h => by
          rw [hPw]
          refine ⟨sy, ws', hc2, ?_⟩
          rw [step, if_neg h, List.append_nil]
          exact pz2
        have cb : crossB A B x y = (decide (wx ≠ wy) && (decide (placeI A y < placeI A x) && decide (placeI B x < placeI B y))) := by
          unfold crossB
          rw [ewx, ewy]
          congr 1
          by_cases h : wx = wy
          · simp [h]
          · simp [h]
        refine ⟨_, dW x wx ewx, _, dW y wy ewy, rfl, _, rfl, ?_⟩
        by_cases cw : wx = wy
        · rw [decide_eq_true (show V.str wx = V.str wy by rw [cw]), if_neg (by decide), if_neg (show ¬ False from id)]
          exact skip (by rw [cb, decide_eq_false (fun z => z cw)]; simp)
        rw [decide_eq_false (show ¬ V.str wx = V.str wy from fun z => cw (V.str.inj z)), if_pos (show (!false) = true from rfl)]
        refine ⟨_, dA x mx, _, dA y my, _, rfl, _, rfl, ?_⟩
        by_cases ca : placeI A y < placeI A x
        rotate_left
        · rw [if_neg ca, if_neg (show ¬ False from id)]
          exact skip (by rw [cb, decide_eq_false ca]; simp)
        rw [if_pos ca]
        refine ⟨_, dB x mx, _, dB y my, _, rfl, _, rfl, ?_⟩
        by_cases cc : placeI B x < placeI B y
        rotate_left
        · rw [if_neg cc]
          exact skip (by rw [cb, decide_eq_false cc]; simp)
        rw [if_pos cc]
        have yes : crossB A B x y = true := by rw [cb, decide_eq_true (show wx ≠ wy from cw), decide_eq_true ca, decide_eq_true cc]; rfl
        refine ⟨by decide, fun t nt => ?_⟩
        have nct : c ≠ t := ne_of_none hc2 nt
        have wl : ws'.length ≤ 1000 := by
          rw [pz2.len, List.length_append, List.length_map]
          have h1 := List.length_filter_le (fun y => crossB A B x y) (rs.take k)
          rw [List.length_take] at h1
          omega
        refine ⟨ws', by rw [upd_ne nct]; exact hc2, len_big (by omega), ?_⟩
        rw [hPw]
        refine ⟨same_ch (sy.trans (same_upd nt)) nc, ws' ++ [.ref t], upd_same, ?_⟩
        rw [step, if_pos yes, List.map_append, ← List.append_assoc]
        refine PL.snoc ((pz2.kt (KT.new nt)).kt (KT.lst (by rw [upd_ne nct]; exact hc2))) ⟨t, rfl, ?_⟩
        rw [upd_ne nct.symm, upd_same]
      · rw [hPw] at pw
        obtain ⟨sy, ws', hc2, pz2⟩ := pw
        rw [lm, List.take_length] at pz2
        exact nxt Hy ws' sy hc2 pz2
    · have e : j = rs.length := by omega
      subst e
      rw [List.take_length] at pz
      refine .inl ⟨⟨_, SqL.of (sx _ _ ho), by rw [lm]; exact Nat.le_refl _⟩, ?_⟩
      exact ret rs zs c Hx up memr (s25.trans sx) (s25.free nc) hc pz
end

abbrev sUr : Stmt := topS 20
def optS (o : Option Str) : V := match o with
  | some z => .str z
  | none => .non
theorem optS_scal (o o' : Option Str) : scal (optS o) (optS o') = true := by cases o <;> cases o' <;> rfl
theorem optS_inj {o o' : Option Str} (h : optS o = optS o') : o = o' := by
  cases o with
  | none =>
    cases o' with
    | none => rfl
    | some z => cases h
  | some y =>
    cases o' with
    | none => cases h
    | some z => exact congrArg some (V.str.inj h)
theorem wordL_snoc (S : List Cl) (c : Cl) (x : Int) : wordL (S ++ [c]) x = if c.1 = x then some c.2 else wordL S x := by
  unfold wordL lastIn
  rw [List.reverse_append]
  show Option.map _ (List.find? _ (c :: S.reverse)) = _
  by_cases h : c.1 = x
  · rw [List.find?_cons_of_pos (by simp [h]), if_pos h]
    rfl
  · rw [List.find?_cons_of_neg (by simp [h]), if_neg h]
theorem wordsF_get {r : Nat} {L : List Cl} (inr : InR r L) {k : Nat} (hk : k < r) : (wordsF r L)[k]? = some (optS (wordL L k)) := by
  have key : ∀ j, j ≤ L.length → (wordsF r (L.take j))[k]? = some (optS (wordL (L.take j) k)) := by
    intro j
    induction j with
    | zero =>
      intro _
      show (List.replicate r V.non)[k]? = _
      rw [List.getElem?_replicate, if_pos hk]
      rfl
    | succ j ih =>
      intro hj
      have gc : L[j]? = some L[j] := List.getElem?_eq_getElem (by omega)
      have ic := inr L[j] (List.getElem_mem _)
      rw [wordsF_step gc, List.take_add_one, gc]
      show _ = some (optS (wordL (L.take j ++ [L[j]]) k))
      rw [wordL_snoc]
      have ih := ih (by omega)
      generalize L[j] = c at ic
      by_cases h : c.1 = (k : Int)
      · rw [if_pos h, show c.1.toNat = k by omega, List.getElem?_set_self (by rw [wordsF_len]; exact hk)]
        rfl
      · rw [if_neg h, List.getElem?_set_ne (by omega)]
        exact ih
  have := key L.length (Nat.le_refl _)
  rw [List.take_length] at this
  exact this
section
variable {P : Program} {w : World} {K : PySem.W.Frag} {mg : Str → Option Value} {base : Heap}
theorem scUr : FnScope ["house", "first", "second", "words", "others", "room"] ["house", "first", "second"] (defScope sUr) := ⟨rfl, rfl, rfl, by decide +kernel, rfl, by decide +kernel, by decide +kernel⟩
def spUr (C : Addr) : Sp := fun vs H Q _ => ∃ (p a b : Addr) (us ws : List V) (A B : List Cl) (r : Nat) (D : List Pr) (own : List Addr), vs = [.ref p, .ref a, .ref b] ∧ HouseAt C H p r D own ∧ H a = some (.lst us) ∧ LG H us A ∧ InR r A ∧ H b = some (.lst ws) ∧ LG H ws B ∧ InR r B ∧
  (∀ k : Nat, k < r → wordL A k ≠ wordL B k → (∀ j : Nat, j < k → wordL A j = wordL B j) → ∀ H', Same H H' → Q (.int k) H') ∧ ((∀ k : Nat, k < r → wordL A k = wordL B k) → ∀ H', Same H H' → Q .non H')
theorem ok_ur {f C fW : Addr} {fd fdW : FuncData} (F : Fun K "unlike_room" "unlike_room" sUr f fd) (T : Bi mg) (U : Hs K mg C) (d_words_of : Df P w K mg base "words_of" ["house", "log"] 1 (spWds C) fW fdW) : FnOk P w K mg base CX0 2 f fd ["house", "first", "second"] (spUr C) := by
  refine F.ok scUr (fun vs H Q E h => ?_) (fun cdv A0 outer s H vs Q E hr h => ?_)
  · obtain ⟨p, a, b, us, ws, A, B, r, D, own, rfl, _⟩ := h
    rfl
  · obtain ⟨p, a, b, us, ws, A, B, r, D, own, rfl, hh, ha, la, ia, hb, lb, ib, hN, hS⟩ := h
    refine ⟨_, (pss_cons (ps_set (i := 3) scUr.nd rfl (Or.inl rfl) (pe_call d_words_of.ok (hr.mono (by decide)) (by rfl) d_words_of.at_ d_words_of.kp d_words_of.b .nil pass0 (pa_cons (pv 0) (pa_cons (pv 1) pa_nil))))
      (pss_cons (ps_set (i := 4) scUr.nd rfl (Or.inl rfl) (pe_call d_words_of.ok (hr.mono (by decide)) (by rfl) d_words_of.at_ d_words_of.kp d_words_of.b .nil pass0 (pa_cons (pv 0) (pa_cons (pv 2) pa_nil))))
      (pss_cons (ps_for PassesOwn.never rfl (pi_range1 (by rfl) T.range (pa_cons (pe_fld (pv 0) rfl) pa_nil)) (pg_name (i := 5) scUr.nd rfl (Or.inl rfl))
      (pss_one (ps_if (pt_cmpR op_ne (pe_ix ix_list (pv 3) (pv 5) (fun _ _ => rfl)) (pe_ix ix_list (pv 4) (pv 5) (fun _ _ => rfl)) (nomark _))
        (pss_one (ps_ret (pv 5)))
        pss_nil)))
      (pss_one (ps_ret pe_non))))), ?_⟩
    walk_at "rd"
    refine ⟨p, a, us, A, r, D, own, rfl, hh, ha, la, ia, fun q1 H1 s1 nq1 hq1 => ?_⟩
    refine ⟨p, b, ws, B, r, D, own, rfl, hh.same s1, s1 _ _ hb, lb.kt (KT.same s1), ib, fun q2 H2 s2 nq2 hq2 => ?_⟩
    have s12 := s1.trans s2
    have hq1 := s2 _ _ hq1
    obtain ⟨dx, l0, m0, ls, nss, h1, _⟩ := (hh.same s12).ex
    have r12 := hh.r12
    refine for_iterW ?_
    walk_at "rd"
    refine ⟨C, dx, _, h1, U.cl, U.nR, .int r, hf_rooms _ _ _, r, rfl, by omega, by omega, ?_⟩
    obtain ⟨Pv, hPv⟩ : ∃ Pv : Nat → L2.St → Hp → Prop, Pv = (fun i σ H' => ∃ v5, σ = [some (.ref p), some (.ref a), some (.ref b), some (.ref q1), some (.ref q2), v5] ∧ H2 = H' ∧ ∀ j : Nat, j < i → wordL A j = wordL B j) := ⟨_, rfl⟩
    refine for_range (lo := 0) (n := (r : Int).toNat) Pv (by rw [hPv]; exact ⟨none, rfl, rfl, fun j hj => absurd hj (by omega)⟩) (fun i σ H' hi pv => ?_) (fun σ H' pv => ?_)
    · rw [hPv] at pv
      obtain ⟨v5, rfl, rfl, all⟩ := pv
      have hir : i < r := by omega
      walk_at "rd"
      refine ⟨_, SqL.of hq1, optS (wordL A i), at_of (j := i) (by omega) (wordsF_get ia hir), _, SqL.of hq2, optS (wordL B i), at_of (j := i) (by omega) (wordsF_get ib hir), ?_⟩
      refine ⟨optS_scal _ _, _, rfl, ?_⟩
      by_cases h : wordL A i = wordL B i
      · rw [decide_eq_true (show optS (wordL A i) = optS (wordL B i) by rw [h]), if_neg (by decide), hPv]
        exact ⟨_, rfl, rfl, fun j hj => (Nat.lt_succ_iff_lt_or_eq.mp hj).elim (all j) (fun e => by rw [e]; exact h)⟩
      · rw [decide_eq_false (fun z => h (optS_inj z)), if_pos (show (!false) = true from rfl), Int.zero_add]
        exact hN i hir h all _ s12
    · rw [hPv] at pv
      obtain ⟨v5, rfl, rfl, all⟩ := pv
      walk_at "rd"
      exact hS (fun k hk => all k (by omega)) _ s12
end

abbrev sPp : Stmt := topS 19
/-! ### (len(path), path), compared -/
def lenD (p : List Int) : PyData := .tuple [.int p.length, .tuple (p.map PyData.int)]
theorem toks_lt : ∀ (p q : List Int) (x y : List (Int ⊕ List Nat)), p.length = q.length → x = y → (PyProof.Rows.lexLt itemOrd (PySem.W.keyToksAll (p.map PyData.int) ++ x) (PySem.W.keyToksAll (q.map PyData.int) ++ y) = true ↔ ltL p q)
  | [], [], x, y, _, e => by
    subst e
    rw [PyProof.Rows.lex_irrefl]
    simp [ltL]
  | [], _ :: _, _, _, h, _ => by cases h
  | _ :: _, [], _, _, h, _ => by cases h
  | a :: s, b :: t, x, y, h, e => by
    show PyProof.Rows.lexLt itemOrd (Sum.inl 1 :: Sum.inl a :: (PySem.W.keyToksAll (s.map PyData.int) ++ x)) (Sum.inl 1 :: Sum.inl b :: (PySem.W.keyToksAll (t.map PyData.int) ++ y)) = true ↔ _
    rw [PyProof.Rows.lex_self]
    by_cases c : a = b
    · subst c
      rw [PyProof.Rows.lex_self, toks_lt s t x y (Nat.succ.inj h) e]
      show _ ↔ (a < a ∨ (a = a ∧ ltL s t))
      exact ⟨fun z => .inr ⟨rfl, z⟩, fun z => z.elim (fun w => absurd w (by omega)) (·.2)⟩
    · rw [PyProof.Rows.lex_diff (fun z => c (Sum.inl.inj z))]
      show decide (a < b) = true ↔ (a < b ∨ (a = b ∧ ltL s t))
      rw [decide_eq_true_iff]
      exact ⟨.inl, fun z => z.elim id fun w => absurd w.1 c⟩
theorem dataLt_len (p q : List Int) : PySem.W.dataLt (lenD p) (lenD q) = true ↔ slt p q := by
  unfold PySem.W.dataLt lenD
  show PyProof.Rows.lexLt itemOrd (Sum.inl 1 :: Sum.inl (p.length : Int) :: Sum.inl 1 :: (PySem.W.keyToksAll (p.map PyData.int) ++ [Sum.inl 0])) (Sum.inl 1 :: Sum.inl (q.length : Int) :: Sum.inl 1 :: (PySem.W.keyToksAll (q.map PyData.int) ++ [Sum.inl 0])) = true ↔ _
  rw [PyProof.Rows.lex_self]
  by_cases c : p.length = q.length
  · rw [c, PyProof.Rows.lex_self, PyProof.Rows.lex_self, toks_lt p q _ _ c rfl]
    exact ⟨fun z => .inr ⟨c, z⟩, fun z => z.elim (fun w => absurd w (by omega)) (·.2)⟩
  · rw [PyProof.Rows.lex_diff (fun z => c (by have := Sum.inl.inj z; omega))]
    show decide ((p.length : Int) < q.length) = true ↔ _
    rw [decide_eq_true_iff]
    exact ⟨fun z => .inl (by omega), fun z => z.elim (fun w => by omega) fun w => absurd w.1 c⟩
theorem alike_ints : ∀ p q : List Int, PySem.W.alikeAll (p.map PyData.int) (q.map PyData.int) = true
  | [], [] => rfl
  | [], _ :: _ => rfl
  | _ :: _, [] => rfl
  | _ :: s, _ :: t => by
    show (true && PySem.W.alikeAll (s.map PyData.int) (t.map PyData.int)) = true
    rw [alike_ints s t]
    rfl
theorem alike_len (p q : List Int) : PySem.W.alike (lenD p) (lenD q) = true := by
  show (true && (PySem.W.alikeAll (p.map PyData.int) (q.map PyData.int) && true)) = true
  rw [alike_ints]
  rfl
theorem dep_ints : ∀ p : List Int, PyData.depthAll (p.map PyData.int) = 0
  | [] => rfl
  | _ :: s => by
    show max 0 (PyData.depthAll (s.map PyData.int)) = 0
    rw [dep_ints s]
    rfl
theorem dep_len (p : List Int) : (lenD p).depth ≤ 2 := by
  show max 0 (max (PyData.depthAll (p.map PyData.int) + 1) 0) + 1 ≤ 2
  rw [dep_ints]
  decide
theorem dp_ints {K : PySem.W.Frag} {H : Hp} : ∀ p : List Int, DpAll K H (p.map V.int) (p.map PyData.int)
  | [] => .nil
  | _ :: s => .cons (.int _) (dp_ints s)
theorem dp_len {K : PySem.W.Frag} {H : Hp} {u t : Addr} {p : List Int} (hu : H u = some (.tup [.int p.length, .ref t])) (ht : H t = some (.tup (p.map V.int))) : Dp K H (.ref u) (lenD p) :=
  .tup (SqT.of hu) (.cons (.int _) (.cons (.tup (SqT.of ht) (dp_ints p)) .nil))
theorem Room.u2 {k : Nat} {A : Around} (r : Room k A) : A.units + 2 < cLine := by
  have := r.un
  omega
/-! ### the best of a set of paths -/
def BestOf (H : Hp) (S : List Int → Prop) (v : V) : Prop := (∃ q t, v = .ref t ∧ H t = some (.tup (q.map V.int)) ∧ S q ∧ ∀ q', S q' → sle q q') ∨ (v = .non ∧ ∀ q, ¬ S q)
theorem BestOf.same {H H' : Hp} {S : List Int → Prop} {v : V} (h : BestOf H S v) (s : Same H H') : BestOf H' S v := by
  rcases h with ⟨q, t, e, ht, h1, h2⟩ | h
  · exact .inl ⟨q, t, e, s _ _ ht, h1, h2⟩
  · exact .inr h
theorem BestOf.congr {H : Hp} {S S' : List Int → Prop} {v : V} (h : BestOf H S v) (e : ∀ q, S q ↔ S' q) : BestOf H S' v := by
  rcases h with ⟨q, t, ev, ht, h1, h2⟩ | ⟨ev, h⟩
  · exact .inl ⟨q, t, ev, ht, (e q).mp h1, fun q' hq => h2 q' ((e q').mpr hq)⟩
  · exact .inr ⟨ev, fun q hq => h q ((e q).mpr hq)⟩
theorem best_add {H : Hp} {S N : List Int → Prop} {bv v : V} {D : List Pr} {R : List Int} {x y : Int} (hN : ∀ q, N q ↔ Lst D R x y q) (hb : BestOf H S bv) (hv : (∃ q t, v = V.ref t ∧ H t = some (.tup (q.map V.int)) ∧ Lst D R x y q) ∨ (v = .non ∧ ∀ q, ¬ Pth D R x y q)) :
    (v = .non → BestOf H (fun q => S q ∨ N q) bv) ∧ (v ≠ .non → bv = .non → BestOf H (fun q => S q ∨ N q) v) ∧ (∀ q t qb tb, v = V.ref t → H t = some (.tup (q.map V.int)) → Lst D R x y q → bv = V.ref tb → H tb = some (.tup (qb.map V.int)) → S qb → (∀ q', S q' → sle qb q') → (slt q qb → BestOf H (fun q => S q ∨ N q) v) ∧ (¬ slt q qb → BestOf H (fun q => S q ∨ N q) bv)) := by
  refine ⟨fun e => ?_, fun ne eb => ?_, fun q t qb tb ev ht hl eb htb sb mb => ⟨fun lt => ?_, fun nl => ?_⟩⟩
  · rcases hv with ⟨q, t, ev, _⟩ | ⟨_, no⟩
    · rw [ev] at e; cases e
    · exact hb.congr fun q => ⟨.inl, fun z => z.elim id fun n => absurd ((hN q).mp n).1 (no q)⟩
  · rcases hv with ⟨q, t, ev, ht, hl⟩ | ⟨e, _⟩
    · rcases hb with ⟨qb, tb, e2, _⟩ | ⟨_, nb⟩
      · rw [e2] at eb; cases eb
      · refine .inl ⟨q, t, ev, ht, .inr ((hN q).mpr hl), fun q' hq => ?_⟩
        rcases hq with hq | hq
        · exact absurd hq (nb q')
        · exact .inl (Lst.uniq hl ((hN q').mp hq))
    · exact absurd e ne
  · refine .inl ⟨q, t, ev, ht, .inr ((hN q).mpr hl), fun q' hq => ?_⟩
    rcases hq with hq | hq
    · exact sle_trans (.inr lt) (mb q' hq)
    · exact .inl (Lst.uniq hl ((hN q').mp hq))
  · refine .inl ⟨qb, tb, eb, htb, .inl sb, fun q' hq => ?_⟩
    rcases hq with hq | hq
    · exact mb q' hq
    · rw [← Lst.uniq hl ((hN q').mp hq)]
      rcases slt_tri qb q with e | e | e
      · exact .inl e
      · exact .inr e
      · exact absurd e nl
section
variable {P : Program} {w : World} {K : PySem.W.Frag} {mg : Str → Option Value} {base : Heap}
theorem scPp : FnScope ["house", "first", "second", "room", "best", "x", "y", "inside", "path"] ["house", "first", "second"] (defScope sPp) := ⟨rfl, rfl, rfl, by decide +kernel, rfl, by decide +kernel, by decide +kernel⟩
/-- a first path between the two rooms of a crossed pair, inside its hall -/
def Cnd (A B : List Cl) (r : Nat) (D : List Pr) (d : Pr) (q : List Int) : Prop := Lst D (hallF r A B d.1 d.2) d.1 d.2 q ∨ Lst D (hallF r A B d.1 d.2) d.2 d.1 q
def spPp (C : Addr) : Sp := fun vs H Q _ => ∃ (p a b : Addr) (us ws : List V) (A B : List Cl) (r : Nat) (D : List Pr) (own : List Addr), vs = [.ref p, .ref a, .ref b] ∧ HouseAt C H p r D own ∧ H a = some (.lst us) ∧ LG H us A ∧ A.length ≤ 1000 ∧ InR r A ∧ H b = some (.lst ws) ∧ LG H ws B ∧ B.length ≤ 1000 ∧ InR r B ∧
  (∀ k : Nat, k < r → wordL A k ≠ wordL B k → (∀ j : Nat, j < k → wordL A j = wordL B j) → ∀ t H', Same H H' → H' t = some (.tup [.int k]) → Q (.ref t) H') ∧
  ((∀ k : Nat, k < r → wordL A k = wordL B k) → ∀ (rs : List Int) (v : V) (H' : Hp), rs.Pairwise (· < ·) → (∀ x, x ∈ rs ↔ x ∈ A.map (·.1)) → Same H H' → BestOf H' (fun q => ∃ d ∈ crossF A B rs, Cnd A B r D d q) v → Q v H')
theorem ok_pp {f C g fU fX fH fF : Addr} {fd fdU fdX fdH fdF : FuncData} (F : Fun K "parting_path" "parting_path" sPp f fd) (T : Bi mg) (U : Hs K mg C) (d_unlike_room : Df P w K mg base "unlike_room" ["house", "first", "second"] 2 (spUr C) fU fdU) (d_crossed_pairs : Df P w K mg base "crossed_pairs" ["first", "second"] 2 spCrp fX fdX) (d_hall : Df P w K mg base "hall" ["house", "first", "second", "pair"] 2 (spHall C) fH fdH) (d_first_path : Df P w K mg base "first_path" ["house", "start", "goal", "inside"] 3 (spFst K C) fF fdF) : FnOk P w K mg base CX0 4 f fd ["house", "first", "second"] (spPp C) := by
  refine F.ok scPp (fun vs H Q E h => ?_) (fun cdv A0 outer s H vs Q E hr h => ?_)
  · obtain ⟨p, a, b, us, ws, A, B, r, D, own, rfl, _⟩ := h
    rfl
  · obtain ⟨p, a, b, us, ws, A, B, r, D, own, rfl, hh, ha, la, al, ia, hb, lb, bl, ib, hN, hS⟩ := h
    refine ⟨_, (pss_cons (ps_set (i := 3) scPp.nd rfl (Or.inl rfl) (pe_call d_unlike_room.ok (hr.mono (by decide)) (by rfl) d_unlike_room.at_ d_unlike_room.kp d_unlike_room.b .nil pass0 (pa_cons (pv 0) (pa_cons (pv 1) (pa_cons (pv 2) pa_nil)))))
      (pss_cons (ps_if (pt_cmpR op_notN (pv 3) pe_non (nomark _))
      (pss_one (ps_ret (pe_tup (pa_cons (pv 3) pa_nil))))
      pss_nil)
      (pss_cons (ps_set (i := 4) scPp.nd rfl (Or.inl rfl) pe_non)
      (pss_cons (ps_for PassesOwn.never rfl (pi_list (pe_call d_crossed_pairs.ok (hr.mono (by decide)) (by rfl) d_crossed_pairs.at_ d_crossed_pairs.kp d_crossed_pairs.b .nil pass0 (pa_cons (pv 1) (pa_cons (pv 2) pa_nil)))) (pg_tup rfl (pgs_cons (pg_name (i := 5) scPp.nd rfl (Or.inl rfl)) (pgs_cons (pg_name (i := 6) scPp.nd rfl (Or.inl rfl)) pgs_nil)))
      (pss_cons (ps_set (i := 7) scPp.nd rfl (Or.inl rfl) (pe_call d_hall.ok (hr.mono (by decide)) (by rfl) d_hall.at_ d_hall.kp d_hall.b .nil pass0 (pa_cons (pv 0) (pa_cons (pv 1) (pa_cons (pv 2) (pa_cons (pe_tup (pa_cons (pv 5) (pa_cons (pv 6) pa_nil))) pa_nil))))))
        (pss_one (ps_for PassesOwn.never rfl (pi_tup (pe_tup (pa_cons (pe_call d_first_path.ok (hr.mono (by decide)) (by rfl) d_first_path.at_ d_first_path.kp d_first_path.b .nil pass0 (pa_cons (pv 0) (pa_cons (pv 5) (pa_cons (pv 6) (pa_cons (pv 7) pa_nil))))) (pa_cons (pe_call d_first_path.ok (hr.mono (by decide)) (by rfl) d_first_path.at_ d_first_path.kp d_first_path.b .nil pass0 (pa_cons (pv 0) (pa_cons (pv 6) (pa_cons (pv 5) (pa_cons (pv 7) pa_nil))))) pa_nil)))) (pg_name (i := 8) scPp.nd rfl (Or.inl rfl))
        (pss_one (ps_if (PW.pt (pw_and (pt_cmpR op_notN (pv 8) pe_non (nomark _)) (pw_and1 (PW.pt (pw_or (pt_cmpR op_isN (pv 4) pe_non (nomark _)) (pw_or1 (pt_cmpR (op_ltD (n := 2) (Room.u2 hr)) (pe_tup (pa_cons (pe_callB call_len_seq (by rfl) T.len (by decide +kernel) (pa_cons (pv 8) pa_nil)) (pa_cons (pv 8) pa_nil))) (pe_tup (pa_cons (pe_callB call_len_seq (by rfl) T.len (by decide +kernel) (pa_cons (pv 4) pa_nil)) (pa_cons (pv 4) pa_nil))) (nomark _))))))))
          (pss_one (ps_set (i := 4) scPp.nd rfl (Or.inl rfl) (pv 8)))
          pss_nil))))))
      (pss_one (ps_ret (pv 4))))))), ?_⟩
    walk_at "rd"
    have r12 := hh.r12
    refine ⟨p, a, b, us, ws, A, B, r, D, own, rfl, hh, ha, la, ia, hb, lb, ib, fun k hk ne least H1 s1 => ?_, fun eq H1 s1 => ?_⟩
    · dsimp only
      rw [if_pos (show (!decide (V.int (k : Int) = V.non)) = true by simp)]
      exact ⟨by decide, fun t nt => hN k hk ne least t _ (s1.trans (same_upd nt)) upd_same⟩
    dsimp only
    rw [if_neg (show ¬ (!decide (V.non = V.non)) = true by simp)]
    have calls : ∀ c ∈ A, (placeF B c.1).isSome := fun c hc => by
      have i := ia c hc
      have e := eq c.1.toNat (by omega)
      rw [show ((c.1.toNat : Nat) : Int) = c.1 by omega] at e
      by_cases m : c.1 ∈ B.map (·.1)
      · exact place_in m
      · rw [wordL_none.mpr m] at e
        exact absurd (List.mem_map.mpr ⟨c, hc, rfl⟩) (wordL_none.mp e)
    refine for_iterW ?_
    walk_at "rd"
    refine ⟨a, b, us, ws, A, B, r, rfl, s1 _ _ ha, la.kt (KT.same s1), al, s1 _ _ hb, lb.kt (KT.same s1), bl, ia, r12, calls, fun rs zs tl H2 up memr s2 ntl htl pz => ?_⟩
    have s12 := s1.trans s2
    have hS := hS eq rs
    have mem : ∀ d ∈ crossF A B rs, d.1 ∈ A.map (·.1) ∧ d.2 ∈ A.map (·.1) := fun d hd => by
      obtain ⟨x, hx, hd⟩ := List.mem_flatMap.mp hd
      obtain ⟨y, hy, rfl⟩ := List.mem_map.mp hd
      exact ⟨(memr x).mp hx, (memr y).mp (List.mem_filter.mp hy).1⟩
    have zl : zs.length = (crossF A B rs).length := pz.len
    obtain ⟨Pv, hPv⟩ : ∃ Pv : Nat → L2.St → Hp → Prop, Pv = (fun i σ H' => ∃ (bv : V) (v5 v6 v7 v8 : Option V), σ = [some (.ref p), some (.ref a), some (.ref b), some .non, some bv, v5, v6, v7, v8] ∧ Same H2 H' ∧ BestOf H' (fun q => ∃ d ∈ (crossF A B rs).take i, Cnd A B r D d q) bv) := ⟨_, rfl⟩
    refine ⟨tl, rfl, ⟨_, SqL.of htl⟩, for_list (K := K) (a := tl) (xs := zs) Pv (by rw [hPv]; exact ⟨_, _, _, _, _, rfl, Same.refl _, .inr ⟨rfl, fun q ⟨d, hd, _⟩ => by cases hd⟩⟩) (fun i σ H' _ pv => by rw [hPv] at pv; obtain ⟨_, _, _, _, _, _, sm, _⟩ := pv; exact SqL.of (sm _ _ htl)) (fun i v σ H3 gv pv => ?_) (fun σ H3 pv => ?_)⟩
    · rw [hPv] at pv
      obtain ⟨bv, v5, v6, v7, v8, rfl, sm, bo⟩ := pv
      obtain ⟨d, gd, td, rfl, htd⟩ := pz.get gv
      have md := mem d (List.mem_of_getElem? gd)
      have s13 := s12.trans sm
      walk_at "rd"
      refine ⟨_, SqT.of (sm _ _ htd), rfl, .int d.1, [.int d.2], rfl, .int d.2, [], rfl, rfl, ?_⟩
      walk_at "rd"
      refine ⟨by decide, fun t1 nt1 => ?_⟩
      have s34 := same_upd (o := HO.tup [V.int d.1, V.int d.2]) nt1
      have s14 := s13.trans s34
      have pA := place_in md.1
      have pB : (placeF B d.2).isSome := by
        obtain ⟨c, hc, e⟩ := List.mem_map.mp md.2
        rw [← e]
        exact calls c hc
      refine ⟨p, a, b, t1, d.1, d.2, us, ws, A, B, r, D, own, rfl, hh.same s14, s14 _ _ ha, la.kt (KT.same s14), al, s14 _ _ hb, lb.kt (KT.same s14), bl, upd_same, pA, pB, fun o H5 s45 no ho => ?_⟩
      have s15 := s14.trans s45
      have s35 := s34.trans s45
      have inH : ∀ x ∈ hallF r A B d.1 d.2, 0 ≤ x ∧ x < r := fun x hx => rg_mem (List.mem_filter.mp hx).1
      refine for_iterW ?_
      unfold iTup
      walk_at "rd"
      refine ⟨p, o, d.1, d.2, hallF r A B d.1 d.2, r, D, own, rfl, hh.same s15, .inl (SqL.of ho), inH, fun v1 H6 s56 r1 => ?_⟩
      refine ⟨p, o, d.2, d.1, hallF r A B d.1 d.2, r, D, own, rfl, hh.same (s15.trans s56), .inl (SqL.of (s56 _ _ ho)), inH, fun v2 H7 s67 r2 => ⟨by decide, fun tt ntt => ?_⟩⟩
      have s78 := same_upd (o := HO.tup [v1, v2]) ntt
      have htt := upd_same (H := H7) (a := tt) (o := HO.tup [v1, v2])
      generalize upd H7 tt (HO.tup [v1, v2]) = H8 at s78 htt ⊢
      have s68 := s67.trans s78
      have s38 := s35.trans (s56.trans s68)
      have bo8 := bo.same s38
      obtain ⟨Sj, hSj⟩ : ∃ Sj : Nat → List Int → Prop, Sj = (fun j q => ((∃ e ∈ (crossF A B rs).take i, Cnd A B r D e q) ∨ (1 ≤ j ∧ Lst D (hallF r A B d.1 d.2) d.1 d.2 q)) ∨ (2 ≤ j ∧ Lst D (hallF r A B d.1 d.2) d.2 d.1 q)) := ⟨_, rfl⟩
      have hv1 : ∀ H9, Same H8 H9 → (∃ q t, v1 = V.ref t ∧ H9 t = some (.tup (q.map V.int)) ∧ Lst D (hallF r A B d.1 d.2) d.1 d.2 q) ∨ (v1 = .non ∧ ∀ q, ¬ Pth D (hallF r A B d.1 d.2) d.1 d.2 q) := fun H9 s9 => by
        rcases r1 with ⟨q, t, e, ht, hl⟩ | h
        · exact .inl ⟨q, t, e, s9 _ _ (s68 _ _ ht), hl⟩
        · exact .inr h
      have hv2 : ∀ H9, Same H8 H9 → (∃ q t, v2 = V.ref t ∧ H9 t = some (.tup (q.map V.int)) ∧ Lst D (hallF r A B d.1 d.2) d.2 d.1 q) ∨ (v2 = .non ∧ ∀ q, ¬ Pth D (hallF r A B d.1 d.2) d.2 d.1 q) := fun H9 s9 => by
        rcases r2 with ⟨q, t, e, ht, hl⟩ | h
        · exact .inl ⟨q, t, e, s9 _ _ (s78 _ _ ht), hl⟩
        · exact .inr h
      obtain ⟨Pw, hPw⟩ : ∃ Pw : Nat → L2.St → Hp → Prop, Pw = (fun j σ H' => ∃ (bv : V) (v8 : Option V), σ = [some (.ref p), some (.ref a), some (.ref b), some .non, some bv, some (.int d.1), some (.int d.2), some (.ref o), v8] ∧ Same H8 H' ∧ BestOf H' (Sj j) bv) := ⟨_, rfl⟩
      refine ⟨⟨_, SqT.of htt⟩, for_tup (K := K) (a := tt) (xs := [v1, v2]) Pw (by rw [hPw]; exact ⟨_, _, rfl, Same.refl _, bo8.congr fun q => by rw [hSj]; simp⟩) (fun j σ H' _ pw => by rw [hPw] at pw; obtain ⟨_, _, _, sw, _⟩ := pw; exact SqT.of (sw _ _ htt)) (fun j v σ H9 gv pw => ?_) (fun σ H9 pw => ?_)⟩
      · rw [hPw] at pw
        obtain ⟨bw, v8', rfl, s89, bow⟩ := pw
        have nxt : ∀ (bw : V) (v8 : Option V) H', Same H9 H' → BestOf H' (Sj (j + 1)) bw → Pw (j + 1) [some (.ref p), some (.ref a), some (.ref b), some .non, some bw, some (.int d.1), some (.int d.2), some (.ref o), v8] H' := fun bw v8 H' h1 h2 => by
          rw [hPw]
          exact ⟨bw, v8, rfl, s89.trans h1, h2⟩
        obtain ⟨x, y, hv, hs⟩ : ∃ x y, ((∃ q t, v = V.ref t ∧ H9 t = some (.tup (q.map V.int)) ∧ Lst D (hallF r A B d.1 d.2) x y q) ∨ (v = .non ∧ ∀ q, ¬ Pth D (hallF r A B d.1 d.2) x y q)) ∧ ∀ q, (Sj j q ∨ Lst D (hallF r A B d.1 d.2) x y q) ↔ Sj (j + 1) q := by
          match j, gv with
          | 0, gv =>
            cases gv
            exact ⟨d.1, d.2, hv1 H9 s89, fun q => by rw [hSj]; simp⟩
          | 1, gv =>
            cases gv
            exact ⟨d.2, d.1, hv2 H9 s89, fun q => by rw [hSj]; simp⟩
        obtain ⟨b1, b2, b3⟩ := best_add (N := fun q => Lst D (hallF r A B d.1 d.2) x y q) (fun q => Iff.rfl) bow hv
        walk_at "rd"
        rcases hv with ⟨q, t, rfl, ht, hl⟩ | ⟨rfl, no⟩
        rotate_left
        · rw [if_neg (show ¬ (!decide (V.non = V.non)) = true by simp), if_neg (show ¬ False from id)]
          exact nxt bw _ _ (Same.refl _) ((b1 rfl).congr hs)
        rw [if_pos (show (!decide (V.ref t = V.non)) = true by simp)]
        rcases bow with ⟨qb, tb, rfl, htb, sb, mb⟩ | ⟨rfl, nob⟩
        rotate_left
        · rw [if_pos (show V.non = V.non from rfl), if_pos trivial]
          exact nxt _ _ _ (Same.refl _) ((b2 (fun z => by cases z) rfl).congr hs)
        rw [if_neg (show ¬ V.ref tb = V.non from fun z => by cases z)]
        obtain ⟨c1, c2⟩ := b3 q t qb tb rfl ht hl rfl htb sb mb
        refine ⟨t, rfl, _, .inr (SqT.of ht), by decide, fun u1 nu1 => ?_⟩
        have t1 := same_upd (o := HO.tup [V.int ((q.map V.int).length : Nat), V.ref t]) nu1
        refine ⟨tb, rfl, _, .inr (SqT.of (t1 _ _ htb)), by decide, fun u2 nu2 => ?_⟩
        have t2 := same_upd (o := HO.tup [V.int ((qb.map V.int).length : Nat), V.ref tb]) nu2
        have t12 := t1.trans t2
        have hu1 := t2 _ _ (upd_same (H := H9) (a := u1) (o := HO.tup [V.int ((q.map V.int).length : Nat), V.ref t]))
        have hu2 := upd_same (H := upd H9 u1 (HO.tup [V.int ((q.map V.int).length : Nat), V.ref t])) (a := u2) (o := HO.tup [V.int ((qb.map V.int).length : Nat), V.ref tb])
        generalize upd (upd H9 u1 (HO.tup [V.int ((q.map V.int).length : Nat), V.ref t])) u2 (HO.tup [V.int ((qb.map V.int).length : Nat), V.ref tb]) = Hz at t12 hu1 hu2 ⊢
        rw [List.length_map] at hu1 hu2
        refine ⟨lenD q, lenD qb, dp_len hu1 (t12 _ _ ht), dp_len hu2 (t12 _ _ htb), alike_len _ _, (fun z => by unfold lenD at z; cases z), dep_len _, _, rfl, ?_⟩
        by_cases lt : slt q qb
        · rw [(dataLt_len q qb).mpr lt, if_pos rfl]
          exact nxt _ _ _ t12 (((c1 lt).congr hs).same t12)
        · have e : PySem.W.dataLt (lenD q) (lenD qb) = false := by
            cases h : PySem.W.dataLt (lenD q) (lenD qb) with
            | false => rfl
            | true => exact absurd ((dataLt_len q qb).mp h) lt
          rw [e, if_neg (by decide)]
          exact nxt _ _ _ t12 (((c2 lt).congr hs).same t12)
      · rw [hPw] at pw
        obtain ⟨bw, v8', rfl, s89, bow⟩ := pw
        show Pv (i + 1) _ _
        rw [hPv]
        refine ⟨bw, _, _, _, _, rfl, sm.trans (s38.trans s89), bow.congr fun q => ?_⟩
        rw [List.take_add_one, gd, hSj]
        simp [Cnd, or_assoc]
    · rw [hPv] at pv
      obtain ⟨bv, v5, v6, v7, v8, rfl, sm, bo⟩ := pv
      rw [zl, List.take_length] at bo
      walk_at "rd"
      exact hS bv H3 up memr (s12.trans sm) bo
end

abbrev sIp : Stmt := topS 0
/-- the tuple is a path by the doors D -/
def Chn (D : List Pr) (ps : List Int) : Prop := ∀ i, i + 1 < ps.length → Adj D (ps.getD i 0) (ps.getD (i + 1) 0)
def IsP' (D : List Pr) (ps : List Int) : Prop := ps ≠ [] ∧ ps.Nodup ∧ Chn D ps
def wordP (L : List Cl) (ps : List Int) : Option Str := (lastIn ps L).map (·.2)
def bitsI (D : List Pr) (ps : List Int) (i : Nat) : List Bool := (List.range i).map fun k => decide (ps.getD (k + 1) 0 ∈ nearF (ps.getD k 0) D)
theorem bitsI_all {r : Nat} {D : List Pr} {ps : List Int} (drs : Drs r D) : (bitsI D ps (ps.length - 1)).all id = true ↔ Chn D ps := by
  unfold bitsI Chn
  rw [List.all_map, List.all_eq_true]
  constructor
  · intro h i hi
    have := h i (List.mem_range.mpr (by omega))
    exact (mem_nearF fun d hd => (drs.ok d hd).2.1).mp (of_decide_eq_true this)
  · intro h i hi
    have := List.mem_range.mp hi
    exact decide_eq_true ((mem_nearF fun d hd => (drs.ok d hd).2.1).mpr (h i (by omega)))
theorem optW_S (o : Option Cl) : optW o = optS (o.map (·.2)) := by cases o <;> rfl
section
variable {P : Program} {w : World} {K : PySem.W.Frag} {mg : Str → Option Value} {base : Heap}
end

/-! ### a first path has no room twice, and it parts the logs -/
theorem Pth.pre {D : List Pr} {R : List Int} {s x b : Int} {p : List Int} (h : Pth D R s x p) (m : b ∈ p) : ∃ q, Pth D R s b q ∧ q.Sublist p := by
  induction h with
  | base h =>
    rw [List.mem_singleton.mp m]
    exact ⟨[s], .base h, List.Sublist.refl _⟩
  | step k ab hb ih =>
    rcases List.mem_append.mp m with m | m
    · obtain ⟨q, h1, h2⟩ := ih m
      exact ⟨q, h1, h2.trans (List.sublist_append_left _ _)⟩
    · rw [List.mem_singleton.mp m]
      exact ⟨_, .step k ab hb, List.Sublist.refl _⟩
theorem Pth.short {D : List Pr} {R : List Int} {s x : Int} {p : List Int} (h : Pth D R s x p) : ∃ q, Pth D R s x q ∧ q.Nodup ∧ (q = p ∨ q.length < p.length) := by
  induction h with
  | base h => exact ⟨[s], .base h, by simp, .inl rfl⟩
  | step k ab hb ih =>
    rename_i a b p
    obtain ⟨q, h1, h2, h3⟩ := ih
    by_cases m : b ∈ q
    · obtain ⟨q2, k1, k2⟩ := h1.pre m
      refine ⟨q2, k1, h2.sublist k2, .inr ?_⟩
      have := k2.length_le
      rw [List.length_append, List.length_singleton]
      rcases h3 with e | e
      · rw [e] at this; omega
      · omega
    · refine ⟨q ++ [b], .step h1 ab hb, List.nodup_append.mpr ⟨h2, by simp, fun y hy z hz e => ?_⟩, ?_⟩
      · rw [List.mem_singleton.mp hz] at e
        rw [e] at hy
        exact m hy
      · rcases h3 with e | e
        · exact .inl (by rw [e])
        · refine .inr ?_
          rw [List.length_append, List.length_append]
          exact Nat.add_lt_add_right e _
theorem Lst.nodup {D : List Pr} {R : List Int} {s x : Int} {p : List Int} (h : Lst D R s x p) : p.Nodup := by
  obtain ⟨q, h1, h2, h3⟩ := h.1.short
  rcases h3 with e | e
  · rw [← e]; exact h2
  · have := sle_len (h.2 q h1)
    omega
theorem Pth.ends {D : List Pr} {R : List Int} {s x : Int} {p : List Int} (h : Pth D R s x p) : s ∈ p ∧ x ∈ p ∧ p.getD (p.length - 1) 0 = x := by
  induction h with
  | base h => exact ⟨List.mem_cons_self, List.mem_cons_self, rfl⟩
  | step k ab hb ih =>
    refine ⟨List.mem_append.mpr (.inl ih.1), List.mem_append.mpr (.inr List.mem_cons_self), ?_⟩
    rw [List.length_append, List.length_singleton, Nat.add_sub_cancel, List.getD_eq_getElem?_getD, List.getElem?_append_right (Nat.le_refl _), Nat.sub_self]
    rfl
theorem Pth.chn {D : List Pr} {R : List Int} {s x : Int} {p : List Int} (h : Pth D R s x p) : Chn D p := by
  induction h with
  | base h => intro i hi; exact absurd hi (by show ¬ i + 1 < 1; omega)
  | step k ab hb ih =>
    rename_i a b p
    intro i hi
    rw [List.length_append, List.length_singleton] at hi
    have g : ∀ j, j < p.length → (p ++ [b]).getD j 0 = p.getD j 0 := fun j hj => by
      rw [List.getD_eq_getElem?_getD, List.getElem?_append_left hj, List.getD_eq_getElem?_getD]
    by_cases e : i + 1 = p.length
    · have e2 : (p ++ [b]).getD (i + 1) 0 = b := by
        rw [List.getD_eq_getElem?_getD, e, List.getElem?_append_right (Nat.le_refl _), Nat.sub_self]
        rfl
      have e3 := k.ends.2.2
      rw [show p.length - 1 = i by omega] at e3
      rw [e2, g i (by omega), e3]
      exact ab
    · rw [g i (by omega), g (i + 1) (by omega)]
      exact ih i (by omega)
theorem snoc_ind {α : Type} {M : List α → Prop} (h0 : M []) (hs : ∀ S c, M S → M (S ++ [c])) (L : List α) : M L := by
  have key : ∀ K : List α, M K.reverse := by
    intro K
    induction K with
    | nil => exact h0
    | cons c K ih => rw [List.reverse_cons]; exact hs _ _ ih
  have := key L.reverse
  rw [List.reverse_reverse] at this
  exact this
theorem lastIn_snoc (R : List Int) (S : List Cl) (c : Cl) : lastIn R (S ++ [c]) = if c.1 ∈ R then some c else lastIn R S := by
  unfold lastIn
  rw [List.reverse_append]
  show List.find? _ (c :: S.reverse) = _
  by_cases h : c.1 ∈ R
  · rw [List.find?_cons_of_pos (by simp [h]), if_pos h]
  · rw [List.find?_cons_of_neg (by simp [h]), if_neg h]
theorem place_lt {L : List Cl} {x : Int} {i : Nat} (h : placeF L x = some i) : i < L.length := by
  have := List.mem_of_find?_eq_some h
  simpa using this
theorem placeI_lt (L : List Cl) (x : Int) : placeI L x < L.length := by
  unfold placeI
  cases h : placeF L x with
  | none => show (-1 : Int) < _; omega
  | some i => have := place_lt h; show (i : Int) < _; omega
theorem placeI_snoc (S : List Cl) (c : Cl) (x : Int) : placeI (S ++ [c]) x = if c.1 = x then (S.length : Int) else placeI S x := by
  unfold placeI
  rw [placeF_snoc]
  by_cases h : c.1 = x
  · rw [if_pos h, if_pos h]
  · rw [if_neg h, if_neg h]
theorem last_top {ps : List Int} {x : Int} (hx : x ∈ ps) (L : List Cl) : (∀ z ∈ ps, placeI L z ≤ placeI L x) → lastIn ps L = lastIn [x] L := by
  refine snoc_ind (M := fun L => (∀ z ∈ ps, placeI L z ≤ placeI L x) → lastIn ps L = lastIn [x] L) (fun _ => rfl) (fun S c ih h => ?_) L
  rw [lastIn_snoc, lastIn_snoc]
  by_cases e : c.1 = x
  · rw [if_pos (by rw [e]; exact hx), if_pos (by rw [e]; exact List.mem_cons_self)]
  · rw [if_neg (show ¬ c.1 ∈ [x] from fun z => e (List.mem_singleton.mp z))]
    by_cases m : c.1 ∈ ps
    · have h1 := h c.1 m
      rw [placeI_snoc, placeI_snoc, if_pos rfl, if_neg e] at h1
      have := placeI_lt S x
      omega
    · rw [if_neg m]
      refine ih fun z hz => ?_
      have h1 := h z hz
      rw [placeI_snoc, placeI_snoc, if_neg (show ¬ c.1 = z from fun q => m (by rw [q]; exact hz)), if_neg e] at h1
      exact h1
theorem cross_of {A B : List Cl} {rs : List Int} {d : Pr} (h : d ∈ crossF A B rs) : d.1 ∈ rs ∧ d.2 ∈ rs ∧ crossB A B d.1 d.2 = true := by
  obtain ⟨x, hx, hd⟩ := List.mem_flatMap.mp h
  obtain ⟨y, hy, rfl⟩ := List.mem_map.mp hd
  obtain ⟨h1, h2⟩ := List.mem_filter.mp hy
  exact ⟨hx, h1, h2⟩
theorem part_of {A B : List Cl} {rs : List Int} {r : Nat} {D : List Pr} {d : Pr} {q : List Int} (hd : d ∈ crossF A B rs) (hr : ∀ x ∈ rs, 0 ≤ x ∧ x < r) (eq : ∀ k : Nat, k < r → wordL A k = wordL B k) (hc : Cnd A B r D d q) : IsP' D q ∧ wordP A q ≠ wordP B q := by
  obtain ⟨m1, m2, cb⟩ := cross_of hd
  have core : ∀ s x, Lst D (hallF r A B d.1 d.2) s x q → d.1 ∈ q → d.2 ∈ q → IsP' D q ∧ wordP A q ≠ wordP B q := fun s x hl i1 i2 => by
    have inH : ∀ z ∈ q, placeI A z ≤ placeI A d.1 ∧ placeI B z ≤ placeI B d.2 := fun z hz => by
      have h := (List.mem_filter.mp (hl.1.inR z hz)).2
      rw [Bool.and_eq_true, decide_eq_true_iff, decide_eq_true_iff] at h
      exact h
    refine ⟨⟨?_, hl.nodup, hl.1.chn⟩, ?_⟩
    · intro e
      rw [e] at i1
      cases i1
    · unfold wordP
      rw [last_top i1 A fun z hz => (inH z hz).1, last_top i2 B fun z hz => (inH z hz).2]
      show wordL A d.1 ≠ wordL B d.2
      have b2 := hr d.2 m2
      have e := eq d.2.toNat (by omega)
      rw [show ((d.2.toNat : Nat) : Int) = d.2 by omega] at e
      rw [← e]
      unfold crossB at cb
      rw [Bool.and_eq_true, decide_eq_true_iff] at cb
      exact cb.1
  rcases hc with h | h
  · exact core _ _ h h.1.ends.1 h.1.ends.2.1
  · exact core _ _ h h.1.ends.2.1 h.1.ends.1
section
variable {P : Program} {w : World} {K : PySem.W.Frag} {mg : Str → Option Value} {base : Heap}
end

abbrev sLot : Stmt := topS 36
/-- a call in one of r rooms -/
def ElC (r : Nat) (H : Hp) (v : V) : Prop := ∃ t, ∃ c : Cl, v = V.ref t ∧ H t = some (.tup [.int c.1, .str c.2]) ∧ 0 ≤ c.1 ∧ c.1 < r ∧ wk 16 c.2
theorem ElC.kt {r : Nat} {H H' : Hp} {v : V} (h : ElC r H v) (k : ∀ b xs, H b = some (.tup xs) → H' b = some (.tup xs)) : ElC r H' v := by
  obtain ⟨t, c, e, h1, h2⟩ := h
  exact ⟨t, c, e, k _ _ h1, h2⟩
theorem elc_of {r : Nat} {H : Hp} : ∀ {us : List V} {L : List Cl}, LG H us L → InR r L → (∀ c ∈ L, wk 16 c.2) → ∀ v ∈ us, ElC r H v
  | _, _, Paired.nil, _, _, v, hv => by cases hv
  | _, _, Paired.cons rr t, i, k, v, hv => by
    rcases List.mem_cons.mp hv with e | e
    · rw [e]
      obtain ⟨tc, e1, e2⟩ := rr
      exact ⟨tc, _, e1, e2, (i _ List.mem_cons_self).1, (i _ List.mem_cons_self).2, k _ List.mem_cons_self⟩
    · exact elc_of t (fun c hc => i c (List.mem_cons_of_mem _ hc)) (fun c hc => k c (List.mem_cons_of_mem _ hc)) v e
theorem elc_log {r : Nat} {H : Hp} : ∀ {us : List V}, (∀ v ∈ us, ElC r H v) → ∃ L, LG H us L ∧ InR r L ∧ ∀ c ∈ L, wk 16 c.2
  | [], _ => ⟨[], Paired.nil, (fun c hc => by cases hc), fun c hc => by cases hc⟩
  | v :: us, h => by
    obtain ⟨L, h1, h2, h3⟩ := elc_log fun u hu => h u (List.mem_cons_of_mem _ hu)
    obtain ⟨t, c, e, ht, hc1, hc2, hc3⟩ := h v List.mem_cons_self
    refine ⟨c :: L, Paired.cons ⟨t, e, ht⟩ h1, fun d hd => ?_, fun d hd => ?_⟩
    · rcases List.mem_cons.mp hd with q | q
      · rw [q]; exact ⟨hc1, hc2⟩
      · exact h2 d q
    · rcases List.mem_cons.mp hd with q | q
      · rw [q]; exact hc3
      · exact h3 d q
theorem lastF_sub : ∀ (L : List Cl) (c : Cl), c ∈ lastF L → c ∈ L
  | [], _, h => h
  | d :: S, c, h => by
    have h2 : c ∈ (if d.1 ∈ S.map (·.1) then lastF S else d :: lastF S) := h
    by_cases m : d.1 ∈ S.map (·.1)
    · rw [if_pos m] at h2
      exact List.mem_cons_of_mem _ (lastF_sub S c h2)
    · rw [if_neg m] at h2
      rcases List.mem_cons.mp h2 with e | e
      · rw [e]; exact List.mem_cons_self
      · exact List.mem_cons_of_mem _ (lastF_sub S c e)
theorem mem_cutV {xs : List V} {lo hi : Option Int} {v : V} (h : v ∈ cutV xs lo hi) : v ∈ xs := List.mem_of_mem_drop (List.mem_of_mem_take h)
section
variable {P : Program} {w : World} {K : PySem.W.Frag} {mg : Str → Option Value} {base : Heap}
theorem scLot : FnScope ["numbers", "log", "free", "rooms", "pool", "way", "last", "place", "k", "other", "j"] ["numbers", "log", "free", "rooms", "pool"] (defScope sLot) := ⟨rfl, rfl, rfl, by decide +kernel, rfl, by decide +kernel, by decide +kernel⟩
def spLot (K : PySem.W.Frag) : Sp := fun vs H Q _ => ∃ (a l g b : Addr) (us fs : List V) (L Fr : List Cl) (Z : List Str) (r : Nat) (ns : List Int), vs = [.ref a, .ref l, .ref g, .int r, .ref b] ∧ SqL K H a (ns.map V.int) ∧ ns.length = 20 ∧ H l = some (.lst us) ∧ LG H us L ∧ InR r L ∧ (∀ c ∈ L, wk 16 c.2) ∧ L.length ≤ 59 ∧ H g = some (.lst fs) ∧ LG H fs Fr ∧ InR r Fr ∧ (∀ c ∈ Fr, wk 16 c.2) ∧ Fr.length ≤ 59 ∧ H b = some (.lst (Z.map V.str)) ∧ 1 ≤ Z.length ∧ (∀ z ∈ Z, wk 16 z) ∧ 1 ≤ r ∧ r ≤ 12 ∧
  ∀ (t : Addr) (zs : List V) (H' : Hp), Same H H' → H' t = some (.lst zs) → (∀ v ∈ zs, ElC r H' v) → zs.length ≤ 500 → Q (.ref t) H'
theorem ok_lot {f f1 f2 : Addr} {fd fd1 fd2 : FuncData} (F : Fun K "_law_other" "_law_other" sLot f fd) (T : Bi mg) (d__law_last : Df P w K mg base "_law_last" ["log"] 1 spLast f1 fd1) (d__law_names : Df P w K mg base "_law_names" ["numbers", "at", "rooms"] 1 (spNam K) f2 fd2) : FnOk P w K mg base CX0 2 f fd ["numbers", "log", "free", "rooms", "pool"] (spLot K) := by
  refine F.ok scLot (fun vs H Q E h => ?_) (fun cdv A0 outer s0 H vs Q E hr h => ?_)
  · obtain ⟨a, l, g, b, us, fs, L, Fr, Z, r, ns, rfl, _⟩ := h
    rfl
  · obtain ⟨a, l, g, b, us, fs, L, Fr, Z, r, ns, rfl, hS, hn, hl, lg, il, wl_, ll, hg, lf, ifr, wf_, lfr, hb, zl, wz_, r1, r12, ret⟩ := h
    refine ⟨_, (pss_cons (ps_set (i := 5) scLot.nd rfl (Or.inl rfl) (pe_op op_mod (pe_callTy cr_intI (by rfl) T.int (by decide +kernel) (pa_cons (pe_ix ix_list (pv 0) pe_int (fun _ _ => rfl)) pa_nil)) pe_int))
      (pss_cons (ps_set (i := 6) scLot.nd rfl (Or.inr rfl) (pe_call d__law_last.ok (hr.mono (by decide)) (by rfl) d__law_last.at_ d__law_last.kp d__law_last.b .nil pass0 (pa_cons (pv 1) pa_nil)))
      (pss_cons (ps_if (pt_cmpR op_eqI (pv 5) pe_int (nomark _))
      (pss_one (ps_ret (pv 2)))
      pss_nil)
      (pss_cons (ps_if (pt_cmpR op_eqI (pv 5) pe_int (nomark _))
      (pss_one (ps_ret (pe_revL (pv 6))))
      pss_nil)
      (pss_cons (ps_if (pt_cmpR op_eqI (pv 5) pe_int (nomark _))
      (pss_one (ps_ret (pe_op op_cat (pe_lst (pa_cons (pe_tup (pa_cons (pe_op op_mod (pe_callTy cr_intI (by rfl) T.int (by decide +kernel) (pa_cons (pe_ix ix_list (pv 0) pe_int (fun _ _ => rfl)) pa_nil)) (pv 3)) (pa_cons (pe_ix ix_list (pv 4) (pe_op op_mod (pe_callTy cr_intI (by rfl) T.int (by decide +kernel) (pa_cons (pe_ix ix_list (pv 0) pe_int (fun _ _ => rfl)) pa_nil)) (pe_callB call_len_seq (by rfl) T.len (by decide +kernel) (pa_cons (pv 4) pa_nil))) (fun _ _ => rfl)) pa_nil))) pa_nil)) (pv 1))))
      pss_nil)
      (pss_cons (ps_if (PW.pt (pw_and (pt_cmpR op_eqI (pv 5) pe_int (nomark _)) (pw_and1 (pt_cmpR op_gt (pe_callB call_len_seq (by rfl) T.len (by decide +kernel) (pa_cons (pv 1) pa_nil)) pe_int (nomark _)))))
      (pss_cons (ps_set (i := 7) scLot.nd rfl (Or.inl rfl) (pe_op op_mod (pe_callTy cr_intI (by rfl) T.int (by decide +kernel) (pa_cons (pe_ix ix_list (pv 0) pe_int (fun _ _ => rfl)) pa_nil)) (pe_callB call_len_seq (by rfl) T.len (by decide +kernel) (pa_cons (pv 1) pa_nil))))
        (pss_one (ps_ret (pe_op op_cat (pe_slice sl_list (pv 1) po_none (po_some (pv 7))) (pe_slice sl_list (pv 1) (po_some (pe_op op_add (pv 7) pe_int)) po_none)))))
      pss_nil)
      (pss_cons (ps_if (PW.pt (pw_or (pt_cmpR op_eqI (pv 5) pe_int (nomark _)) (pw_or1 (pt_cmpR op_eqI (pv 5) pe_int (nomark _)))))
      (pss_one (ps_ret (pe_lc (own := [("k", 8)]) (te := tOp (rIxL K) (tVar 6) (tVar 8)) (by rfl) scLot.nd (pi_list (pe_call d__law_names.ok (hr.mono (by decide)) (by rfl) d__law_names.at_ d__law_names.kp d__law_names.b .nil pass0 (pa_cons (pv 0) (pa_cons pe_int (pa_cons (pe_callB call_len_seq (by rfl) T.len (by decide +kernel) (pa_cons (pv 6) pa_nil)) pa_nil))))) (blkOk_by (N := ["numbers", "log", "free", "rooms", "pool", "way", "last", "place", "k", "other", "j"]) (sc := defScope sLot) (by decide +kernel)) (fun _ _ _ _ _ => pg_name (i := 8) scLot.nd rfl (Or.inl rfl)) (fun _ _ _ _ _ => pts_nil) (fun _ _ _ _ _ => (pe_ix ix_list (pv 6) (pv 8) (fun _ _ => rfl))))))
      pss_nil)
      (pss_cons (ps_if (pt_cmpR op_eqI (pv 5) pe_int (nomark _))
      (pss_one (ps_ret (pe_op op_cat (pe_slice sl_list (pv 6) po_none (po_some (pe_un un_neg pe_int))) (pe_revL (pe_slice sl_list (pv 6) (po_some (pe_un un_neg pe_int)) po_none)))))
      pss_nil)
      (pss_cons (ps_set (i := 9) scLot.nd rfl (Or.inl rfl) (pe_callTy call_list_of (by rfl) T.list (by decide +kernel) (pa_cons (pv 1) pa_nil)))
      (pss_cons (ps_for PassesOwn.never rfl (pi_range1 (by rfl) T.range (pa_cons (pe_callB (call_max2 rfl) (by rfl) T.max (by decide +kernel) (pa_cons pe_int (pa_cons (pe_op op_sub (pv 5) pe_int) pa_nil))) pa_nil)) (pg_name (i := 8) scLot.nd rfl (Or.inl rfl))
      (pss_one (ps_if (pt_cmpR op_gt (pe_callB call_len_seq (by rfl) T.len (by decide +kernel) (pa_cons (pv 9) pa_nil)) pe_int (nomark _))
        (pss_cons (ps_set (i := 10) scLot.nd rfl (Or.inl rfl) (pe_op op_mod (pe_callTy cr_intI (by rfl) T.int (by decide +kernel) (pa_cons (pe_ix ix_list (pv 0) (pe_op op_add pe_int (pv 8)) (fun _ _ => rfl)) pa_nil)) (pe_op op_sub (pe_callB call_len_seq (by rfl) T.len (by decide +kernel) (pa_cons (pv 9) pa_nil)) pe_int)))
          (pss_one (ps_set (i := 9) scLot.nd rfl (Or.inl rfl) (pe_op op_cat (pe_op op_cat (pe_slice sl_list (pv 9) po_none (po_some (pv 10))) (pe_lst (pa_cons (pe_ix ix_list (pv 9) (pe_op op_add (pv 10) pe_int) (fun _ _ => rfl)) (pa_cons (pe_ix ix_list (pv 9) (pv 10) (fun _ _ => rfl)) pa_nil)))) (pe_slice sl_list (pv 9) (po_some (pe_op op_add (pv 10) pe_int)) po_none)))))
        pss_nil)))
      (pss_one (ps_ret (pv 9))))))))))))), ?_⟩
    walk_at "rd"
    have gN : ∀ j : Nat, j < 20 → ∃ x, (ns.map V.int)[j]? = some (.int x) := fun j hj => ⟨ns[j]'(by omega), by rw [List.getElem?_map, List.getElem?_eq_getElem (by omega)]; rfl⟩
    obtain ⟨x0, g0⟩ := gN 0 (by decide)
    obtain ⟨x1, g1⟩ := gN 1 (by decide)
    obtain ⟨x2, g2⟩ := gN 2 (by decide)
    have ul : us.length = L.length := lg.len
    refine ⟨_, hS, _, at_of (j := 0) rfl g0, x0, rfl, by decide, ?_⟩
    refine ⟨l, us, L, rfl, hl, lg, by omega, fun ws q H1 s1 nq hq lw => ?_⟩
    have hS1 := s1.seq hS
    have hl1 := s1 _ _ hl
    have el1 : ∀ v ∈ us, ElC r H1 v := fun v hv => (elc_of lg il wl_ v hv).kt fun b xs e => s1 _ _ e
    have ilw : InR r (lastF L) := fun c hc => by
      obtain ⟨c', hc', e⟩ := List.mem_map.mp ((lastF_mem L c.1).mp (List.mem_map.mpr ⟨c, hc, rfl⟩))
      rw [← e]
      exact il c' hc'
    have wlw : ∀ c ∈ lastF L, wk 16 c.2 := fun c hc => wl_ c (lastF_sub L c hc)
    have elw : ∀ v ∈ ws, ElC r H1 v := elc_of lw ilw wlw
    have wl : ws.length ≤ 12 := by
      rw [lw.len]
      have := ints_len (r := r) (lastF_nd L) fun x hx => by
        obtain ⟨c, hc, rfl⟩ := List.mem_map.mp hx
        exact ilw c hc
      rw [List.length_map] at this
      omega
    have kn : ∀ {Ha Hb : Hp} {zs : List V}, Same Ha Hb → (∀ v ∈ zs, ElC r Ha v) → ∀ v ∈ zs, ElC r Hb v := fun s h v hv => (h v hv).kt fun b xs e => s _ _ e
    have y0 := Int.emod_nonneg x0 (show (10 : Int) ≠ 0 by decide)
    have y9 := Int.emod_lt_of_pos x0 (show (0 : Int) < 10 by decide)
    generalize x0 % 10 = y at y0 y9 ⊢
    refine ite2 (fun _ => ret g fs H1 s1 (s1 _ _ hg) (fun v hv => (elc_of lf ifr wf_ v hv).kt fun b xs e => s1 _ _ e) (by rw [lf.len]; omega)) (fun n0 => ite2 (fun _ => ?_) (fun n1 => ite2 (fun _ => ?_) (fun n2 => ?_)))
    · refine ⟨_, rfl, q, _, rfl, SqL.of hq, fun t nt => ?_⟩
      have s2 := same_upd (o := HO.lst ws.reverse) nt
      exact ret t ws.reverse _ (s1.trans s2) upd_same (fun v hv => kn s2 elw v (List.mem_reverse.mp hv)) (by rw [List.length_reverse]; omega)
    · have q0 := Int.emod_nonneg x2 (show (Z.length : Int) ≠ 0 by omega)
      have q1 := Int.emod_lt_of_pos x2 (show (0 : Int) < (Z.length : Int) by omega)
      have hb1 := s1 _ _ hb
      obtain ⟨z, gz, zk⟩ : ∃ z, Z[(x2 % (Z.length : Int)).toNat]? = some z ∧ wk 16 z := ⟨Z[(x2 % (Z.length : Int)).toNat]'(by omega), List.getElem?_eq_getElem (by omega), wz_ _ (List.getElem_mem _)⟩
      refine ⟨_, hS1, _, at_of (j := 1) rfl g1, x1, rfl, by omega, _, hS1, _, at_of (j := 2) rfl g2, x2, rfl, _, .inl (SqL.of hb1), by rw [List.length_map]; omega, _, SqL.of hb1, .str z, at_of (j := (x2 % (Z.length : Int)).toNat) (by rw [List.length_map]; omega) (by rw [List.getElem?_map, gz]; rfl), by decide, fun t nt => ⟨by decide, fun e ne => ?_⟩⟩
      have s2 := same_upd (o := HO.tup [V.int (x1 % (r : Int)), V.str z]) nt
      have s3 := same_upd (o := HO.lst [V.ref t]) ne
      have s23 := s2.trans s3
      have ht := s3 _ _ (upd_same (H := H1) (a := t) (o := HO.tup [V.int (x1 % (r : Int)), V.str z]))
      refine ⟨e, l, _, _, rfl, rfl, upd_same, s23 _ _ hl1, Nat.le_of_lt (len_big (by show 1 + us.length ≤ 100000; omega)), fun p np => ?_⟩
      have s4 := same_upd (o := HO.lst ([V.ref t] ++ us)) np
      refine ret p _ _ (s1.trans (s23.trans s4)) upd_same (fun v hv => ?_) (by rw [List.length_append]; show 1 + us.length ≤ 500; omega)
      rcases List.mem_append.mp hv with h | h
      · rw [List.mem_singleton.mp h]
        exact ⟨t, (x1 % (r : Int), z), rfl, s4 _ _ ht, Int.emod_nonneg _ (by omega), Int.emod_lt_of_pos _ (by omega), zk⟩
      · exact kn (s23.trans s4) el1 v h
    have cat : ∀ {Hx : Hp} {p1 p2 : Addr} {xs ys : List V} {Q' : VK}, Hx p1 = some (.lst xs) → Hx p2 = some (.lst ys) → xs.length + ys.length ≤ 2000 → (∀ p, Hx p = none → Q' (.ref p) (upd Hx p (.lst (xs ++ ys)))) → rCat (.ref p1) (.ref p2) Hx Q' := fun h1 h2 h3 h4 => ⟨_, _, _, _, rfl, rfl, h1, h2, Nat.le_of_lt (len_big (by omega)), h4⟩
    by_cases c3 : y = 3
    · rw [if_pos c3]
      refine ⟨us, .inl (SqL.of hl1), ?_⟩
      by_cases cp : (0 : Int) < (us.length : Int)
      · rw [if_pos cp]
        refine ⟨_, hS1, _, at_of (j := 1) rfl g1, x1, rfl, us, .inl (SqL.of hl1), cp, us, SqL.of hl1, fun p np => ?_⟩
        have s2 := same_upd (o := HO.lst (cutV us none (some (x1 % (us.length : Int))))) np
        refine ⟨us, SqL.of (s2 _ _ hl1), fun p1 np1 => ?_⟩
        have s3 := same_upd (o := HO.lst (cutV us (some (x1 % (us.length : Int) + 1)) none)) np1
        have b1 := cutV_length us none (some (x1 % (us.length : Int)))
        have b2 := cutV_length us (some (x1 % (us.length : Int) + 1)) none
        refine cat (s3 _ _ upd_same) upd_same (by omega) fun p2 np2 => ?_
        have s4 := same_upd (o := HO.lst (cutV us none (some (x1 % (us.length : Int))) ++ cutV us (some (x1 % (us.length : Int) + 1)) none)) np2
        refine ret p2 _ _ (s1.trans (s2.trans (s3.trans s4))) upd_same (fun v hv => ?_) (by rw [List.length_append]; omega)
        exact kn (s2.trans (s3.trans s4)) el1 v ((List.mem_append.mp hv).elim mem_cutV mem_cutV)
      rw [if_neg cp, if_neg (show ¬ y = 4 by omega), if_neg (show ¬ y = 5 by omega), if_neg (show ¬ y = 6 by omega)]
      refine ⟨us, .inl (SqL.of hl1), fun o no => ?_⟩
      have so := same_upd (o := HO.lst us) no
      refine for_iterW ?_
      walk_at "rd"
      obtain ⟨Pv, hPv⟩ : ∃ Pv : Nat → L2.St → Hp → Prop, Pv = (fun i σ Hx => ∃ (t : Addr) (zs : List V) (v8 v10 : Option V), σ = [some (.ref a), some (.ref l), some (.ref g), some (.int r), some (.ref b), some (.int y), some (.ref q), none, v8, some (.ref t), v10] ∧ Same H1 Hx ∧ Hx t = some (.lst zs) ∧ (∀ v ∈ zs, ElC r Hx v) ∧ zs.length + 2 ≤ 61 * 2 ^ i) := ⟨_, rfl⟩
      have wb : 0 ≤ (if y - 6 > 0 then y - 6 else 0) ∧ (if y - 6 > 0 then y - 6 else 0) ≤ 3 := by split <;> omega
      generalize (if y - 6 > 0 then y - 6 else 0) = w at wb ⊢
      refine ⟨by omega, by omega, for_range (lo := 0) (n := w.toNat) Pv (by rw [hPv]; exact ⟨o, us, none, none, rfl, so, upd_same, kn so el1, (by show us.length + 2 ≤ 61 * 1; omega)⟩) (fun i σ Hx hi pv => ?_) (fun σ Hx pv => ?_)⟩
      · rw [hPv] at pv
        obtain ⟨t, zs, v8, v10, rfl, sm, ht, ez, zl⟩ := pv
        have pw : 2 ^ (i + 1) = 2 * 2 ^ i := by rw [Nat.pow_succ]; omega
        have p3 : 2 ^ i ≤ 2 ^ 2 := Nat.pow_le_pow_right (by decide) (by omega)
        obtain ⟨xk, gk⟩ := gN (1 + i) (by omega)
        walk_at "rd"
        refine ⟨_, .inl (SqL.of ht), ite2 (fun lt => ?_) (fun _ => ?_)⟩
        rotate_left
        · rw [hPv]
          exact ⟨t, zs, _, _, rfl, sm, ht, ez, by omega⟩
        refine ⟨_, (s1.trans sm).seq hS, _, at_of (j := 1 + i) (by omega) gk, xk, rfl, _, .inl (SqL.of ht), by omega, ?_⟩
        have q0 := Int.emod_nonneg xk (show ((zs.length : Int) - 1) ≠ 0 by omega)
        have q1 := Int.emod_lt_of_pos xk (show (0 : Int) < (zs.length : Int) - 1 by omega)
        obtain ⟨j, ej⟩ : ∃ j : Nat, xk % ((zs.length : Int) - 1) = j := ⟨(xk % ((zs.length : Int) - 1)).toNat, by omega⟩
        rw [ej] at q0 q1 ⊢
        obtain ⟨va, ga⟩ : ∃ v, zs[j + 1]? = some v := ⟨zs[j + 1]'(by omega), List.getElem?_eq_getElem (by omega)⟩
        obtain ⟨vb, gb⟩ : ∃ v, zs[j]? = some v := ⟨zs[j]'(by omega), List.getElem?_eq_getElem (by omega)⟩
        refine ⟨zs, SqL.of ht, fun p np => ?_⟩
        have t1 := same_upd (o := HO.lst (cutV zs none (some (j : Int)))) np
        refine ⟨zs, SqL.of (t1 _ _ ht), va, at_of (j := j + 1) (by omega) ga, zs, SqL.of (t1 _ _ ht), vb, at_of (j := j) rfl gb, by decide, fun p1 np1 => ?_⟩
        have t2 := same_upd (o := HO.lst [va, vb]) np1
        have b1 := cutV_length zs none (some (j : Int))
        have b2 := cutV_length zs (some ((j : Int) + 2)) none
        refine cat (t2 _ _ upd_same) upd_same (by show (cutV zs none (some (j : Int))).length + 2 ≤ 2000; omega) fun p2 np2 => ?_
        have t3 := same_upd (o := HO.lst (cutV zs none (some (j : Int)) ++ [va, vb])) np2
        refine ⟨zs, SqL.of ((t1.trans (t2.trans t3)) _ _ ht), fun p4 np4 => ?_⟩
        have t4 := same_upd (o := HO.lst (cutV zs (some ((j : Int) + 2)) none)) np4
        refine cat (t4 _ _ upd_same) upd_same (by rw [List.length_append]; show (cutV zs none (some (j : Int))).length + 2 + _ ≤ 2000; omega) fun p5 np5 => ?_
        have t5 := same_upd (o := HO.lst (cutV zs none (some (j : Int)) ++ [va, vb] ++ cutV zs (some ((j : Int) + 2)) none)) np5
        have tt := t1.trans (t2.trans (t3.trans (t4.trans t5)))
        rw [hPv]
        refine ⟨p5, _, _, _, rfl, sm.trans tt, upd_same, fun v hv => kn tt ez v ?_, by rw [List.length_append, List.length_append]; show (cutV zs none (some (j : Int))).length + 2 + _ + 2 ≤ _; omega⟩
        rcases List.mem_append.mp hv with h | h
        · rcases List.mem_append.mp h with h | h
          · exact mem_cutV h
          · rcases List.mem_cons.mp h with e | e
            · rw [e]; exact List.mem_of_getElem? ga
            · rw [List.mem_singleton.mp e]; exact List.mem_of_getElem? gb
        · exact mem_cutV h
      · rw [hPv] at pv
        obtain ⟨t, zs, v8, v10, rfl, sm, ht, ez, zl⟩ := pv
        have p3 : 2 ^ w.toNat ≤ 2 ^ 3 := Nat.pow_le_pow_right (by decide) (by omega)
        walk_at "rd"
        exact ret t zs Hx (s1.trans sm) ht ez (by omega)
    rw [if_neg c3, if_neg (show ¬ False from id)]
    by_cases c4 : y = 4
    · rw [if_pos c4, if_pos trivial]
      refine lcW ?_
      walk_at "rd"
      refine ⟨ws, .inl (SqL.of hq), a, ns, 8, ws.length, rfl, hS1, by omega, by omega, fun xs pn H2 pm s2 nn hN => ?_⟩
      refine ⟨pn, rfl, ⟨_, SqL.of hN⟩, fun c nc => ?_⟩
      obtain ⟨Pc, hPc⟩ : ∃ Pc : Nat → Hp → Prop, Pc = (fun j Hx => Same H2 Hx ∧ ∃ zs : List V, Hx c = some (.lst zs) ∧ (∀ v ∈ zs, ElC r H1 v) ∧ zs.length = j) := ⟨_, rfl⟩
      have xsl : xs.length ≤ 12 := by rw [pm.length_eq, rg_len]; exact wl
      refine lc_list (K := K) (a := pn) (xs := xs.map V.int) Pc (by rw [hPc]; exact ⟨same_upd nc, [], upd_same, (fun v hv => by cases hv), rfl⟩) (fun j Hx _ pv => by rw [hPc] at pv; exact SqL.of (pv.1 _ _ hN)) (fun j v Hx gv pv => ?_) (fun Hx pv => ?_)
      · rw [hPc] at pv
        obtain ⟨sx, zs, hc, ez, zl⟩ := pv
        rw [List.getElem?_map] at gv
        obtain ⟨x, gx, rfl⟩ : ∃ x, xs[j]? = some x ∧ v = V.int x := by
          cases ev : xs[j]? with
          | none => rw [ev] at gv; cases gv
          | some x => rw [ev] at gv; exact ⟨x, rfl, (Option.some.inj gv).symm⟩
        have jl := (List.getElem?_eq_some_iff.mp gx).1
        have bx := rg_mem (pm.mem_iff.mp (List.mem_of_getElem? gx))
        obtain ⟨u, gu⟩ : ∃ u, ws[x.toNat]? = some u := ⟨ws[x.toNat]'(by omega), List.getElem?_eq_getElem (by omega)⟩
        simp only [wipe]
        walk_at "rd"
        refine ⟨_, SqL.of (sx _ _ (s2 _ _ hq)), u, at_of (j := x.toNat) (by omega) gu, _, hc, len_big (by omega), ?_⟩
        rw [hPc]
        refine ⟨same_ch sx nc, zs ++ [u], upd_same, fun v hv => ?_, by rw [List.length_append, zl]; rfl⟩
        rcases List.mem_append.mp hv with h | h
        · exact ez v h
        · rw [List.mem_singleton.mp h]
          exact elw u (List.mem_of_getElem? gu)
      · rw [hPc] at pv
        obtain ⟨sx, zs, hc, ez, zl⟩ := pv
        rw [List.length_map] at zl
        exact ret c zs Hx (s1.trans (s2.trans sx)) hc (kn (s2.trans sx) ez) (by omega)
    rw [if_neg c4]
    by_cases c5 : y = 5
    · rw [if_pos c5]
      refine lcW ?_
      walk_at "rd"
      refine ⟨ws, .inl (SqL.of hq), a, ns, 8, ws.length, rfl, hS1, by omega, by omega, fun xs pn H2 pm s2 nn hN => ?_⟩
      refine ⟨pn, rfl, ⟨_, SqL.of hN⟩, fun c nc => ?_⟩
      obtain ⟨Pc, hPc⟩ : ∃ Pc : Nat → Hp → Prop, Pc = (fun j Hx => Same H2 Hx ∧ ∃ zs : List V, Hx c = some (.lst zs) ∧ (∀ v ∈ zs, ElC r H1 v) ∧ zs.length = j) := ⟨_, rfl⟩
      have xsl : xs.length ≤ 12 := by rw [pm.length_eq, rg_len]; exact wl
      refine lc_list (K := K) (a := pn) (xs := xs.map V.int) Pc (by rw [hPc]; exact ⟨same_upd nc, [], upd_same, (fun v hv => by cases hv), rfl⟩) (fun j Hx _ pv => by rw [hPc] at pv; exact SqL.of (pv.1 _ _ hN)) (fun j v Hx gv pv => ?_) (fun Hx pv => ?_)
      · rw [hPc] at pv
        obtain ⟨sx, zs, hc, ez, zl⟩ := pv
        rw [List.getElem?_map] at gv
        obtain ⟨x, gx, rfl⟩ : ∃ x, xs[j]? = some x ∧ v = V.int x := by
          cases ev : xs[j]? with
          | none => rw [ev] at gv; cases gv
          | some x => rw [ev] at gv; exact ⟨x, rfl, (Option.some.inj gv).symm⟩
        have jl := (List.getElem?_eq_some_iff.mp gx).1
        have bx := rg_mem (pm.mem_iff.mp (List.mem_of_getElem? gx))
        obtain ⟨u, gu⟩ : ∃ u, ws[x.toNat]? = some u := ⟨ws[x.toNat]'(by omega), List.getElem?_eq_getElem (by omega)⟩
        simp only [wipe]
        walk_at "rd"
        refine ⟨_, SqL.of (sx _ _ (s2 _ _ hq)), u, at_of (j := x.toNat) (by omega) gu, _, hc, len_big (by omega), ?_⟩
        rw [hPc]
        refine ⟨same_ch sx nc, zs ++ [u], upd_same, fun v hv => ?_, by rw [List.length_append, zl]; rfl⟩
        rcases List.mem_append.mp hv with h | h
        · exact ez v h
        · rw [List.mem_singleton.mp h]
          exact elw u (List.mem_of_getElem? gu)
      · rw [hPc] at pv
        obtain ⟨sx, zs, hc, ez, zl⟩ := pv
        rw [List.length_map] at zl
        exact ret c zs Hx (s1.trans (s2.trans sx)) hc (kn (s2.trans sx) ez) (by omega)
    rw [if_neg c5]
    by_cases c6 : y = 6
    · rw [if_pos c6]
      refine ⟨q, rfl, ws, SqL.of hq, fun p np => ?_⟩
      have s2 := same_upd (o := HO.lst (cutV ws none (some (-2)))) np
      unfold tRevL
      walk_at "rd"
      refine ⟨ws, SqL.of (s2 _ _ hq), fun p1 np1 => ⟨_, SqL.of upd_same, fun p2 np2 => ?_⟩⟩
      have s3 := same_upd (o := HO.lst (cutV ws (some (-2)) none)) np1
      have s4 := same_upd (o := HO.lst (cutV ws (some (-2)) none).reverse) np2
      have b1 := cutV_length ws none (some (-2))
      have b2 := cutV_length ws (some (-2)) none
      refine cat (s4 _ _ (s3 _ _ upd_same)) upd_same (by rw [List.length_reverse]; omega) fun p3 np3 => ?_
      have s5 := same_upd (o := HO.lst (cutV ws none (some (-2)) ++ (cutV ws (some (-2)) none).reverse)) np3
      refine ret p3 _ _ (s1.trans (s2.trans (s3.trans (s4.trans s5)))) upd_same (fun v hv => ?_) (by rw [List.length_append, List.length_reverse]; omega)
      exact kn (s2.trans (s3.trans (s4.trans s5))) elw v ((List.mem_append.mp hv).elim mem_cutV fun h => mem_cutV (List.mem_reverse.mp h))
    rw [if_neg c6]
    refine ⟨us, .inl (SqL.of hl1), fun o no => ?_⟩
    have so := same_upd (o := HO.lst us) no
    refine for_iterW ?_
    walk_at "rd"
    obtain ⟨Pv, hPv⟩ : ∃ Pv : Nat → L2.St → Hp → Prop, Pv = (fun i σ Hx => ∃ (t : Addr) (zs : List V) (v8 v10 : Option V), σ = [some (.ref a), some (.ref l), some (.ref g), some (.int r), some (.ref b), some (.int y), some (.ref q), none, v8, some (.ref t), v10] ∧ Same H1 Hx ∧ Hx t = some (.lst zs) ∧ (∀ v ∈ zs, ElC r Hx v) ∧ zs.length + 2 ≤ 61 * 2 ^ i) := ⟨_, rfl⟩
    have wb : 0 ≤ (if y - 6 > 0 then y - 6 else 0) ∧ (if y - 6 > 0 then y - 6 else 0) ≤ 3 := by split <;> omega
    generalize (if y - 6 > 0 then y - 6 else 0) = w at wb ⊢
    refine ⟨by omega, by omega, for_range (lo := 0) (n := w.toNat) Pv (by rw [hPv]; exact ⟨o, us, none, none, rfl, so, upd_same, kn so el1, (by show us.length + 2 ≤ 61 * 1; omega)⟩) (fun i σ Hx hi pv => ?_) (fun σ Hx pv => ?_)⟩
    · rw [hPv] at pv
      obtain ⟨t, zs, v8, v10, rfl, sm, ht, ez, zl⟩ := pv
      have pw : 2 ^ (i + 1) = 2 * 2 ^ i := by rw [Nat.pow_succ]; omega
      have p3 : 2 ^ i ≤ 2 ^ 2 := Nat.pow_le_pow_right (by decide) (by omega)
      obtain ⟨xk, gk⟩ := gN (1 + i) (by omega)
      walk_at "rd"
      refine ⟨_, .inl (SqL.of ht), ite2 (fun lt => ?_) (fun _ => ?_)⟩
      rotate_left
      · rw [hPv]
        exact ⟨t, zs, _, _, rfl, sm, ht, ez, by omega⟩
      refine ⟨_, (s1.trans sm).seq hS, _, at_of (j := 1 + i) (by omega) gk, xk, rfl, _, .inl (SqL.of ht), by omega, ?_⟩
      have q0 := Int.emod_nonneg xk (show ((zs.length : Int) - 1) ≠ 0 by omega)
      have q1 := Int.emod_lt_of_pos xk (show (0 : Int) < (zs.length : Int) - 1 by omega)
      obtain ⟨j, ej⟩ : ∃ j : Nat, xk % ((zs.length : Int) - 1) = j := ⟨(xk % ((zs.length : Int) - 1)).toNat, by omega⟩
      rw [ej] at q0 q1 ⊢
      obtain ⟨va, ga⟩ : ∃ v, zs[j + 1]? = some v := ⟨zs[j + 1]'(by omega), List.getElem?_eq_getElem (by omega)⟩
      obtain ⟨vb, gb⟩ : ∃ v, zs[j]? = some v := ⟨zs[j]'(by omega), List.getElem?_eq_getElem (by omega)⟩
      refine ⟨zs, SqL.of ht, fun p np => ?_⟩
      have t1 := same_upd (o := HO.lst (cutV zs none (some (j : Int)))) np
      refine ⟨zs, SqL.of (t1 _ _ ht), va, at_of (j := j + 1) (by omega) ga, zs, SqL.of (t1 _ _ ht), vb, at_of (j := j) rfl gb, by decide, fun p1 np1 => ?_⟩
      have t2 := same_upd (o := HO.lst [va, vb]) np1
      have b1 := cutV_length zs none (some (j : Int))
      have b2 := cutV_length zs (some ((j : Int) + 2)) none
      refine cat (t2 _ _ upd_same) upd_same (by show (cutV zs none (some (j : Int))).length + 2 ≤ 2000; omega) fun p2 np2 => ?_
      have t3 := same_upd (o := HO.lst (cutV zs none (some (j : Int)) ++ [va, vb])) np2
      refine ⟨zs, SqL.of ((t1.trans (t2.trans t3)) _ _ ht), fun p4 np4 => ?_⟩
      have t4 := same_upd (o := HO.lst (cutV zs (some ((j : Int) + 2)) none)) np4
      refine cat (t4 _ _ upd_same) upd_same (by rw [List.length_append]; show (cutV zs none (some (j : Int))).length + 2 + _ ≤ 2000; omega) fun p5 np5 => ?_
      have t5 := same_upd (o := HO.lst (cutV zs none (some (j : Int)) ++ [va, vb] ++ cutV zs (some ((j : Int) + 2)) none)) np5
      have tt := t1.trans (t2.trans (t3.trans (t4.trans t5)))
      rw [hPv]
      refine ⟨p5, _, _, _, rfl, sm.trans tt, upd_same, fun v hv => kn tt ez v ?_, by rw [List.length_append, List.length_append]; show (cutV zs none (some (j : Int))).length + 2 + _ + 2 ≤ _; omega⟩
      rcases List.mem_append.mp hv with h | h
      · rcases List.mem_append.mp h with h | h
        · exact mem_cutV h
        · rcases List.mem_cons.mp h with e | e
          · rw [e]; exact List.mem_of_getElem? ga
          · rw [List.mem_singleton.mp e]; exact List.mem_of_getElem? gb
      · exact mem_cutV h
    · rw [hPv] at pv
      obtain ⟨t, zs, v8, v10, rfl, sm, ht, ez, zl⟩ := pv
      have p3 : 2 ^ w.toNat ≤ 2 ^ 3 := Nat.pow_le_pow_right (by decide) (by omega)
      walk_at "rd"
      exact ret t zs Hx (s1.trans sm) ht ez (by omega)
end

/-! ### what the law needs of tuples turned round and of last calls -/
theorem lastIn_congr {R S : List Int} (h : ∀ x, x ∈ R ↔ x ∈ S) (L : List Cl) : lastIn R L = lastIn S L := by
  unfold lastIn
  refine find_ext _ fun c _ => ?_
  by_cases m : c.1 ∈ R
  · rw [decide_eq_true m, decide_eq_true ((h _).mp m)]
  · rw [decide_eq_false m, decide_eq_false fun z => m ((h _).mpr z)]
theorem wordP_rev (L : List Cl) (ps : List Int) : wordP L ps.reverse = wordP L ps := by
  unfold wordP
  rw [lastIn_congr fun x => List.mem_reverse]
theorem lastIn_none {R : List Int} {L : List Cl} : lastIn R L = none ↔ ∀ c ∈ L, c.1 ∉ R := by
  unfold lastIn
  rw [List.find?_eq_none]
  constructor
  · intro h c hc z
    exact h c (List.mem_reverse.mpr hc) (decide_eq_true z)
  · intro h c hc z
    exact h c (List.mem_reverse.mp hc) (of_decide_eq_true z)
theorem lastIn_cons (R : List Int) (c : Cl) (S : List Cl) : lastIn R (c :: S) = match lastIn R S with
    | some d => some d
    | none => if c.1 ∈ R then some c else none := by
  unfold lastIn
  rw [List.reverse_cons, List.find?_append]
  cases e : S.reverse.find? (fun c => decide (c.1 ∈ R)) with
  | some d => rfl
  | none =>
    show List.find? (fun c : Cl => decide (c.1 ∈ R)) [c] = if c.1 ∈ R then some c else none
    by_cases h : c.1 ∈ R
    · rw [List.find?_cons_of_pos (by simp [h]), if_pos h]
    · rw [List.find?_cons_of_neg (by simp [h]), if_neg h]
      rfl
theorem lastIn_lastF (R : List Int) : ∀ S : List Cl, lastIn R (lastF S) = lastIn R S
  | [] => rfl
  | c :: S => by
    have ih := lastIn_lastF R S
    show lastIn R (if c.1 ∈ S.map (·.1) then lastF S else c :: lastF S) = _
    by_cases h : c.1 ∈ S.map (·.1)
    · rw [if_pos h, ih, lastIn_cons]
      cases e : lastIn R S with
      | some d => rfl
      | none =>
        obtain ⟨d, hd, ed⟩ := List.mem_map.mp h
        have n := lastIn_none.mp e d hd
        rw [ed] at n
        simp only [if_neg n]
    · rw [if_neg h, lastIn_cons, lastIn_cons, ih]
theorem wordP_last (L : List Cl) (ps : List Int) : wordP (lastF L) ps = wordP L ps := by
  unfold wordP
  rw [lastIn_lastF]
theorem adj_symm {D : List Pr} {a b : Int} (h : Adj D a b) : Adj D b a := h.elim .inr .inl
theorem isP_rev {D : List Pr} {ps : List Int} (h : IsP' D ps) : IsP' D ps.reverse := by
  obtain ⟨h1, h2, h3⟩ := h
  refine ⟨fun e => h1 (List.reverse_eq_nil_iff.mp e), (List.Perm.nodup_iff (List.reverse_perm ps)).mpr h2, fun i hi => ?_⟩
  rw [List.length_reverse] at hi
  have g : ∀ j, j < ps.length → ps.reverse.getD j 0 = ps.getD (ps.length - 1 - j) 0 := fun j hj => by
    rw [List.getD_eq_getElem?_getD, List.getElem?_reverse hj, ← List.getD_eq_getElem?_getD]
  rw [g i (by omega), g (i + 1) hi]
  have h := h3 (ps.length - 1 - (i + 1)) (by omega)
  rw [show ps.length - 1 - (i + 1) + 1 = ps.length - 1 - i by omega] at h
  exact adj_symm h
theorem isP_rev_iff {D : List Pr} {ps : List Int} : IsP' D ps.reverse ↔ IsP' D ps := ⟨fun h => by
  have := isP_rev h
  rw [List.reverse_reverse] at this
  exact this, isP_rev⟩
/-- in a house without doors only a single room is a path -/
theorem isP_nil {ps : List Int} : IsP' [] ps ↔ ps.length = 1 := by
  constructor
  · rintro ⟨h1, _, h3⟩
    have l := List.length_pos_iff.mpr h1
    by_cases e : ps.length = 1
    · exact e
    · have := h3 0 (by omega)
      rcases this with h | h <;> cases h
  · intro e
    obtain ⟨x, rfl⟩ : ∃ x, ps = [x] := by
      cases ps with
      | nil => cases e
      | cons x l =>
        cases l with
        | nil => exact ⟨x, rfl⟩
        | cons y l => exact absurd e (by simp)
    exact ⟨by simp, by simp, fun i hi => absurd hi (by show ¬ i + 1 < 1; omega)⟩

/-! ### what many laws need: the same data, a house made -/
theorem same_ok {n : Nat} {H : Hp} {x y : V} {Q : VK} {E : XK} (h : Sm H n x y) (q : Q (.bl true) H) : spSame n [x, y] H Q E := ⟨x, y, rfl, h, q⟩
theorem paired_flat {H : Hp} {n : Nat} {us : List V} (h : ∀ x ∈ us, flat4 x = true) : Paired (Sm H n) us us := by
  induction us with
  | nil => exact Paired.nil
  | cons a l ih => exact Paired.cons (Sm.flat (h a List.mem_cons_self)) (ih fun x hx => h x (List.mem_cons_of_mem _ hx))
theorem sm_flats {H : Hp} {x y : Addr} {us : List V} (hx : H x = some (.lst us)) (hy : H y = some (.lst us)) (h : ∀ x ∈ us, flat4 x = true) (hl : us.length ≤ 100000) (n : Nat) : Sm H (n + 1) (.ref x) (.ref y) :=
  .inr ⟨x, y, _, _, rfl, rfl, .inl ⟨hx, hy⟩, paired_flat h, hl⟩
theorem sm_flatsT {H : Hp} {x y : Addr} {us : List V} (hx : H x = some (.tup us)) (hy : H y = some (.tup us)) (h : ∀ x ∈ us, flat4 x = true) (hl : us.length ≤ 100000) (n : Nat) : Sm H (n + 1) (.ref x) (.ref y) :=
  .inr ⟨x, y, _, _, rfl, rfl, .inr ⟨hx, hy⟩, paired_flat h, hl⟩
theorem flat_intsV (l : List Int) : ∀ x ∈ l.map V.int, flat4 x = true := fun x hx => by
  obtain ⟨i, _, rfl⟩ := List.mem_map.mp hx
  rfl
theorem sm_call {H : Hp} {u v : V} {d : Cl} (hu : IsC H u d) (hv : IsC H v d) (n : Nat) : Sm H (n + 1) u v := by
  obtain ⟨t, rfl, e1⟩ := hu
  obtain ⟨t', rfl, e2⟩ := hv
  exact .inr ⟨t, t', _, _, rfl, rfl, .inr ⟨e1, e2⟩, Paired.cons (Sm.flat rfl) (Paired.cons (Sm.flat rfl) Paired.nil), by show 2 ≤ 100000; decide⟩
theorem sm_logs {H : Hp} {x y : Addr} {us vs : List V} {D : List Cl} (hx : H x = some (.lst us)) (hy : H y = some (.lst vs)) (pu : LG H us D) (pv : LG H vs D) (hl : D.length ≤ 100000) (n : Nat) : Sm H (n + 2) (.ref x) (.ref y) := by
  refine .inr ⟨x, y, _, _, rfl, rfl, .inl ⟨hx, hy⟩, ?_, by rw [pu.len]; exact hl⟩
  clear hx hy hl
  induction pu generalizing vs with
  | nil => cases pv; exact Paired.nil
  | cons r _ ih => cases pv with | cons r2 t2 => exact Paired.cons (sm_call r r2 n) (ih t2)
theorem sm_pair {H : Hp} {u v : V} {d : Pr} (hu : IsP H u d) (hv : IsP H v d) (n : Nat) : Sm H (n + 1) u v := by
  obtain ⟨t, rfl, e1⟩ := hu
  obtain ⟨t', rfl, e2⟩ := hv
  exact .inr ⟨t, t', _, _, rfl, rfl, .inr ⟨e1, e2⟩, Paired.cons (Sm.flat rfl) (Paired.cons (Sm.flat rfl) Paired.nil), by show 2 ≤ 100000; decide⟩
theorem sm_pairs {H : Hp} {x y : Addr} {us vs : List V} {D : List Pr} (hx : H x = some (.lst us)) (hy : H y = some (.lst vs)) (pu : PL H us D) (pv : PL H vs D) (hl : us.length ≤ 100000) (n : Nat) : Sm H (n + 2) (.ref x) (.ref y) := by
  refine .inr ⟨x, y, _, _, rfl, rfl, .inl ⟨hx, hy⟩, ?_, hl⟩
  clear hx hy hl
  induction pu generalizing vs with
  | nil => cases pv; exact Paired.nil
  | cons r _ ih => cases pv with | cons r2 t2 => exact Paired.cons (sm_pair r r2 n) (ih t2)
theorem mm2_same {r : Nat} {D : List Pr} (h : Drs r D) : D.map mm2 = D := by
  refine (List.map_congr_left fun d hd => ?_).trans (List.map_id _)
  have := (h.ok d hd).2.1
  unfold mm2
  rw [if_neg (by omega), if_pos (by omega)]
  rfl
theorem use_init {C x dx l : Addr} {r : Nat} {us : List V} {D G : List Pr} {H : Hp} {Q : VK} {E : XK} (nx : H x = none) (ndx : H dx = none) (hl : H l = some (.lst us)) (pl : PL H us D) (pm : (D.map mm2).Perm G) (drs : Drs r G) (r1 : 1 ≤ r) (r12 : r ≤ 12)
    (q : ∀ own H2, HouseAt C H2 x r G own → Same H H2 → (∀ b ∈ own, H b = none) → Q .non H2) : spHinit C [.ref x, .int r, .ref l] (upd (upd H dx (.own x)) x (.ins C dx [])) Q E := by
  have s0 : Same H (upd (upd H dx (.own x)) x (.ins C dx [])) := fun b o e => by
    rw [upd_ne (ne_of_none e nx), upd_ne (ne_of_none e ndx)]
    exact e
  refine ⟨x, dx, l, r, us, D, D.map mm2, rfl, upd_same, s0 _ _ hl, pl.kt (KT.same s0), rfl, pm.nodup_iff.mpr drs.asc.nodup, fun d hd => drs.ok d (pm.mem_iff.mp hd), r1, r12, fun D' own H' mem hh keep free => ?_⟩
  have e : D' = G := asc_uniq hh.ok.asc drs.asc fun d => (mem d).trans pm.mem_iff
  subst e
  refine q own H' hh (fun b o e => keep b o (s0 b o e) (ne_of_none e nx)) fun b hb => ?_
  by_cases e : b = x
  · rw [e]
    exact nx
  · exact s0.free (free b hb e)
/-- a method of the class at C that keeps a promise -/
structure Md (P : Program) (w : World) (K : PySem.W.Frag) (mg : Str → Option Value) (base : Heap) (C : Addr) (x : Str) (ps : List Str) (k : Nat) (sp : Sp) (f : Addr) (fd : FuncData) : Prop where
  m : Meth K C x f
  b : Binds K fd ps []
  ok : FnOk P w K mg base CX0 k f fd ps sp
theorem atI_neg {xs : List V} {j : Nat} {v : V} {z : Int} (e : z = -(1 + (j : Int))) (hj : j < xs.length) (g : xs[xs.length - 1 - j]? = some v) : atI xs z = some v := by
  unfold atI
  have e2 : ixN xs.length z = some (xs.length - 1 - j) := by
    unfold ixN
    rw [if_neg (by omega), if_pos (by omega)]
    congr 1
    omega
  rw [e2]
  exact g
theorem paired_append {α β : Type} {F : α → β → Prop} {a c : List α} {b d : List β} (h : Paired F a b) (k : Paired F c d) : Paired F (a ++ c) (b ++ d) := by
  induction h with
  | nil => exact k
  | cons r _ ih => exact Paired.cons r ih

/-! ### completeness: each parting path has a first path of a crossed pair that is no longer -/
theorem nat_least {P : Nat → Prop} (h : ∃ n, P n) : ∃ n, P n ∧ ∀ m, m < n → ¬ P m := by
  obtain ⟨n, hn⟩ := h
  induction n using Nat.strongRecOn with
  | _ n ih =>
    by_cases c : ∃ m, m < n ∧ P m
    · obtain ⟨m, hm, pm⟩ := c
      exact ih m hm pm
    · exact ⟨n, hn, fun m hm pm => c ⟨m, hm, pm⟩⟩
theorem lex_min : ∀ (n : Nat) (S : List Int → Prop), (∀ q, S q → q.length = n ∧ ∀ x ∈ q, 0 ≤ x) → (∃ q, S q) → ∃ q, S q ∧ ∀ q', S q' → q = q' ∨ ltL q q'
  | 0, S, h, ⟨q, hq⟩ => ⟨q, hq, fun q' hq' => .inl (by rw [List.length_eq_zero_iff.mp (h q hq).1, List.length_eq_zero_iff.mp (h q' hq').1])⟩
  | n + 1, S, h, ⟨q, hq⟩ => by
    have sp : ∀ q, S q → ∃ a t, q = a :: t ∧ 0 ≤ a := fun q hq => by
      obtain ⟨l, nn⟩ := h q hq
      cases q with
      | nil => cases l
      | cons a t => exact ⟨a, t, rfl, nn a List.mem_cons_self⟩
    obtain ⟨a0, t0, e0, _⟩ := sp q hq
    obtain ⟨m, ⟨a, t, hat, em⟩, mm⟩ := nat_least (P := fun m => ∃ (a : Int) (t : List Int), S (a :: t) ∧ a.toNat = m) ⟨a0.toNat, a0, t0, by rw [← e0]; exact hq, rfl⟩
    obtain ⟨t', ht', mt⟩ := lex_min n (fun t => S (a :: t)) (fun t ht => ⟨Nat.succ.inj (h _ ht).1, fun x hx => (h _ ht).2 x (List.mem_cons_of_mem _ hx)⟩) ⟨t, hat⟩
    refine ⟨a :: t', ht', fun q' hq' => ?_⟩
    obtain ⟨b, u, rfl, hb⟩ := sp q' hq'
    have ha : 0 ≤ a := (h _ hat).2 a List.mem_cons_self
    have nl : ¬ b.toNat < m := fun z => mm _ z ⟨b, u, hq', rfl⟩
    by_cases e : a = b
    · subst e
      rcases mt u hq' with e | e
      · exact .inl (by rw [e])
      · exact .inr (.inr ⟨rfl, e⟩)
    · exact .inr (.inl (by omega))
theorem slt_min (S : List Int → Prop) (nn : ∀ q, S q → ∀ x ∈ q, 0 ≤ x) (ex : ∃ q, S q) : ∃ q, S q ∧ ∀ q', S q' → sle q q' := by
  obtain ⟨q0, h0⟩ := ex
  obtain ⟨n, ⟨q1, h1, e1⟩, mn⟩ := nat_least (P := fun n => ∃ q, S q ∧ q.length = n) ⟨_, q0, h0, rfl⟩
  obtain ⟨q, ⟨hq, lq⟩, mq⟩ := lex_min n (fun q => S q ∧ q.length = n) (fun q h => ⟨h.2, nn q h.1⟩) ⟨q1, h1, e1⟩
  refine ⟨q, hq, fun q' hq' => ?_⟩
  have nl : ¬ q'.length < n := fun z => mn _ z ⟨q', hq', rfl⟩
  by_cases e : q'.length = n
  · rcases mq q' ⟨hq', e⟩ with z | z
    · exact .inl z
    · exact .inr (.inr ⟨by omega, z⟩)
  · exact .inr (.inl (by omega))
theorem Lst.ex {D : List Pr} {R : List Int} {s x : Int} {p : List Int} (nn : ∀ y ∈ R, 0 ≤ y) (h : Pth D R s x p) : ∃ q, Lst D R s x q ∧ sle q p := by
  obtain ⟨q, hq, mq⟩ := slt_min (Pth D R s x) (fun q hq y hy => nn y (hq.inR y hy)) ⟨p, h⟩
  exact ⟨q, ⟨hq, mq⟩, mq p h⟩
/-- a stretch of a walk is a path -/
theorem pth_cut {D : List Pr} {R ps : List Int} (ch : Chn D ps) (inR : ∀ x ∈ ps, x ∈ R) {i : Nat} : ∀ k, i + k < ps.length → Pth D R (ps.getD i 0) (ps.getD (i + k) 0) ((ps.drop i).take (k + 1))
  | 0, h => by
    have g : ps[i]? = some (ps.getD i 0) := by rw [List.getElem?_eq_getElem (by omega), List.getD_eq_getElem?_getD, List.getElem?_eq_getElem (by omega)]; rfl
    have e : (ps.drop i).take 1 = [ps.getD i 0] := by
      rw [List.take_add_one, List.take_zero, List.getElem?_drop, Nat.add_zero, g]
      rfl
    rw [Nat.add_zero, e]
    exact .base (inR _ (List.mem_of_getElem? g))
  | k + 1, h => by
    have ih := pth_cut ch inR (i := i) k (by omega)
    have g : ps[i + (k + 1)]? = some (ps.getD (i + (k + 1)) 0) := by rw [List.getElem?_eq_getElem (by omega), List.getD_eq_getElem?_getD, List.getElem?_eq_getElem (by omega)]; rfl
    rw [List.take_add_one, List.getElem?_drop, g]
    exact .step ih (ch (i + k) (by omega)) (inR _ (List.mem_of_getElem? g))
theorem cut_sle {ps : List Int} {i k : Nat} (h : i + k < ps.length) : sle ((ps.drop i).take (k + 1)) ps := by
  have l : ((ps.drop i).take (k + 1)).length = k + 1 := by rw [List.length_take, List.length_drop]; omega
  by_cases e : k + 1 = ps.length
  · left
    have : i = 0 := by omega
    rw [this, List.drop_zero, e, List.take_length]
  · exact .inr (.inl (by omega))
theorem mem_at {ps : List Int} {x : Int} (h : x ∈ ps) : ∃ i, i < ps.length ∧ ps.getD i 0 = x := by
  obtain ⟨i, hi, e⟩ := List.mem_iff_getElem.mp h
  exact ⟨i, hi, by rw [List.getD_eq_getElem?_getD, List.getElem?_eq_getElem hi]; exact e⟩
/-- the latest call of some rooms -/
theorem lastIn_top {ps : List Int} {c : Cl} (L : List Cl) : lastIn ps L = some c → c.1 ∈ ps ∧ c.1 ∈ L.map (·.1) ∧ lastIn [c.1] L = some c ∧ ∀ z ∈ ps, placeI L z ≤ placeI L c.1 := by
  refine snoc_ind (M := fun L => lastIn ps L = some c → c.1 ∈ ps ∧ c.1 ∈ L.map (·.1) ∧ lastIn [c.1] L = some c ∧ ∀ z ∈ ps, placeI L z ≤ placeI L c.1) (fun z => by cases z) (fun S d ih h => ?_) L
  rw [lastIn_snoc] at h
  by_cases m : d.1 ∈ ps
  · rw [if_pos m] at h
    cases h
    refine ⟨m, by simp, by rw [lastIn_snoc, if_pos List.mem_cons_self], fun z hz => ?_⟩
    rw [placeI_snoc, placeI_snoc, if_pos rfl]
    split
    · exact Int.le_refl _
    · have := placeI_lt S z
      omega
  · rw [if_neg m] at h
    obtain ⟨h1, h2, h3, h4⟩ := ih h
    have ne : ¬ d.1 = c.1 := fun e => m (by rw [e]; exact h1)
    refine ⟨h1, by rw [List.map_append]; exact List.mem_append_left _ h2, by rw [lastIn_snoc, if_neg (fun z => ne (List.mem_singleton.mp z))]; exact h3, fun z hz => ?_⟩
    rw [placeI_snoc, placeI_snoc, if_neg (fun e => m (by rw [e]; exact hz)), if_neg ne]
    exact h4 z hz
theorem placeI_inj {L : List Cl} {x y : Int} : x ∈ L.map (·.1) → placeI L x = placeI L y → x = y := by
  refine snoc_ind (M := fun L => x ∈ L.map (·.1) → placeI L x = placeI L y → x = y) (fun z => by cases z) (fun S d ih h e => ?_) L
  rw [placeI_snoc, placeI_snoc] at e
  have l1 := placeI_lt S x
  have l2 := placeI_lt S y
  by_cases c1 : d.1 = x
  · rw [if_pos c1] at e
    by_cases c2 : d.1 = y
    · rw [← c1, ← c2]
    · rw [if_neg c2] at e
      omega
  · rw [if_neg c1] at e
    by_cases c2 : d.1 = y
    · rw [if_pos c2] at e
      omega
    · rw [if_neg c2] at e
      refine ih ?_ e
      rw [List.map_append] at h
      rcases List.mem_append.mp h with h | h
      · exact h
      · exact absurd (List.mem_singleton.mp h).symm c1
/-- a parting path -/
def Prt (D : List Pr) (A B : List Cl) (q : List Int) : Prop := IsP' D q ∧ wordP A q ≠ wordP B q
theorem cross_in {A B : List Cl} {rs : List Int} {x y : Int} (hx : x ∈ rs) (hy : y ∈ rs) (h : crossB A B x y = true) : (x, y) ∈ crossF A B rs :=
  List.mem_flatMap.mpr ⟨x, hx, List.mem_map.mpr ⟨y, List.mem_filter.mpr ⟨hy, h⟩, rfl⟩⟩
theorem mem_rg {n : Nat} {x : Int} (h0 : 0 ≤ x) (h1 : x < n) : x ∈ rg n := List.mem_map.mpr ⟨x.toNat, List.mem_range.mpr (by omega), by show ((x.toNat : Nat) : Int) = x; omega⟩
theorem comp_cross {A B : List Cl} {rs : List Int} {r : Nat} {ps : List Int} (iA : InR r A) (iB : InR r B) (hrs : ∀ x, x ∈ rs ↔ x ∈ A.map (·.1)) (eq : ∀ k : Nat, k < r → wordL A k = wordL B k) (ne : wordP A ps ≠ wordP B ps) :
    ∃ x y, (x, y) ∈ crossF A B rs ∧ x ∈ ps ∧ y ∈ ps ∧ ∀ z ∈ ps, placeI A z ≤ placeI A x ∧ placeI B z ≤ placeI B y := by
  have eqz : ∀ z : Int, wordL A z = wordL B z := fun z => by
    by_cases c : 0 ≤ z ∧ z < r
    · have := eq z.toNat (by omega)
      rw [show ((z.toNat : Nat) : Int) = z by omega] at this
      exact this
    · rw [wordL_none.mpr fun m => ?_, wordL_none.mpr fun m => ?_]
      · obtain ⟨c', hc, e⟩ := List.mem_map.mp m
        have := iB c' hc
        rw [e] at this
        exact c this
      · obtain ⟨c', hc, e⟩ := List.mem_map.mp m
        have := iA c' hc
        rw [e] at this
        exact c this
  have memAB : ∀ z, z ∈ A.map (·.1) ↔ z ∈ B.map (·.1) := fun z => by
    have h1 := wordL_none (L := A) (x := z)
    have h2 := wordL_none (L := B) (x := z)
    rw [eqz z] at h1
    have h3 := h1.symm.trans h2
    exact ⟨fun m => Classical.byContradiction fun n => h3.mpr n m, fun m => Classical.byContradiction fun n => h3.mp n m⟩
  have nn : ∀ {L M : List Cl}, (∀ z, z ∈ L.map (·.1) ↔ z ∈ M.map (·.1)) → lastIn ps L = none → lastIn ps M = none := fun {L M} h e => by
    rw [lastIn_none] at e ⊢
    intro c hc m
    obtain ⟨d, hd, e2⟩ := List.mem_map.mp ((h c.1).mpr (List.mem_map.mpr ⟨c, hc, rfl⟩))
    exact e d hd (by rw [e2]; exact m)
  cases ea : lastIn ps A with
  | none => exact absurd (by unfold wordP; rw [ea, nn memAB ea]) ne
  | some cx =>
    cases eb : lastIn ps B with
    | none => exact absurd (by unfold wordP; rw [eb, nn (fun z => (memAB z).symm) eb]) ne
    | some cy =>
      obtain ⟨x1, x2, x3, x4⟩ := lastIn_top A ea
      obtain ⟨y1, y2, y3, y4⟩ := lastIn_top B eb
      have wa : wordP A ps = wordL A cx.1 := by unfold wordP wordL; rw [ea, x3]
      have wb : wordP B ps = wordL A cy.1 := by rw [eqz]; unfold wordP wordL; rw [eb, y3]
      rw [wa, wb] at ne
      have nxy : cx.1 ≠ cy.1 := fun e => ne (by rw [e])
      refine ⟨cx.1, cy.1, cross_in ((hrs _).mpr x2) ((hrs _).mpr ((memAB _).mpr y2)) ?_, x1, y1, fun z hz => ⟨x4 z hz, y4 z hz⟩⟩
      have a1 := x4 _ y1
      have b1 := y4 _ x1
      have a2 : placeI A cy.1 ≠ placeI A cx.1 := fun e => nxy (placeI_inj x2 e.symm)
      have b2 : placeI B cx.1 ≠ placeI B cy.1 := fun e => nxy (placeI_inj y2 e.symm).symm
      unfold crossB
      rw [Bool.and_eq_true, Bool.and_eq_true, decide_eq_true_iff, decide_eq_true_iff, decide_eq_true_iff]
      exact ⟨ne, by omega, by omega⟩
theorem comp_path {A B : List Cl} {rs : List Int} {r : Nat} {D : List Pr} {ps : List Int} (iA : InR r A) (iB : InR r B) (hrs : ∀ x, x ∈ rs ↔ x ∈ A.map (·.1)) (eq : ∀ k : Nat, k < r → wordL A k = wordL B k) (inr : ∀ x ∈ ps, 0 ≤ x ∧ x < r) (h : Prt D A B ps) :
    ∃ q, (∃ d ∈ crossF A B rs, Cnd A B r D d q) ∧ sle q ps := by
  obtain ⟨x, y, hc, hx, hy, top⟩ := comp_cross iA iB hrs eq h.2
  have inH : ∀ z ∈ ps, z ∈ hallF r A B x y := fun z hz => List.mem_filter.mpr ⟨mem_rg (inr z hz).1 (inr z hz).2, by
    rw [Bool.and_eq_true, decide_eq_true_iff, decide_eq_true_iff]
    exact top z hz⟩
  have nnH : ∀ z ∈ hallF r A B x y, 0 ≤ z := fun z hz => (rg_mem (List.mem_filter.mp hz).1).1
  obtain ⟨i, hi, ei⟩ := mem_at hx
  obtain ⟨j, hj, ej⟩ := mem_at hy
  rcases Nat.le_total i j with l | l
  · have p := pth_cut h.1.2.2 inH (i := i) (j - i) (by omega)
    rw [show i + (j - i) = j by omega, ei, ej] at p
    obtain ⟨q, hq, sq⟩ := Lst.ex nnH p
    exact ⟨q, ⟨(x, y), hc, .inl hq⟩, sle_trans sq (cut_sle (by omega))⟩
  · have p := pth_cut h.1.2.2 inH (i := j) (i - j) (by omega)
    rw [show j + (i - j) = i by omega, ei, ej] at p
    obtain ⟨q, hq, sq⟩ := Lst.ex nnH p
    exact ⟨q, ⟨(x, y), hc, .inr hq⟩, sle_trans sq (cut_sle (by omega))⟩
/-- what parting_path tells: the least parting path in the house, or None -/
theorem best_part {A B : List Cl} {rs : List Int} {r : Nat} {D : List Pr} {H : Hp} {v : V} (iA : InR r A) (iB : InR r B) (hrs : ∀ x, x ∈ rs ↔ x ∈ A.map (·.1)) (eq : ∀ k : Nat, k < r → wordL A k = wordL B k) (h : BestOf H (fun q => ∃ d ∈ crossF A B rs, Cnd A B r D d q) v) :
    BestOf H (fun q => Prt D A B q ∧ ∀ x ∈ q, 0 ≤ x ∧ x < r) v := by
  have hr2 : ∀ x ∈ rs, 0 ≤ x ∧ x < (r : Int) := fun x hx => by
    obtain ⟨c, hc, rfl⟩ := List.mem_map.mp ((hrs x).mp hx)
    exact iA c hc
  have snd : ∀ q, (∃ d ∈ crossF A B rs, Cnd A B r D d q) → Prt D A B q ∧ ∀ x ∈ q, 0 ≤ x ∧ x < r := fun q ⟨d, hd, hc⟩ => by
    refine ⟨part_of hd hr2 eq hc, fun x hx => ?_⟩
    have hm : x ∈ hallF r A B d.1 d.2 := by
      rcases hc with h | h
      · exact h.1.inR x hx
      · exact h.1.inR x hx
    exact rg_mem (List.mem_filter.mp hm).1
  rcases h with ⟨q, t, ev, ht, hq, mq⟩ | ⟨ev, no⟩
  · refine .inl ⟨q, t, ev, ht, snd q hq, fun q' ⟨hp, hi⟩ => ?_⟩
    obtain ⟨q2, h2, s2⟩ := comp_path iA iB hrs eq hi hp
    exact sle_trans (mq q2 h2) s2
  · refine .inr ⟨ev, fun q' ⟨hp, hi⟩ => ?_⟩
    obtain ⟨q2, h2, _⟩ := comp_path iA iB hrs eq hi hp
    exact no q2 h2
theorem one_part {A B : List Cl} {r k : Nat} {D : List Pr} {H : Hp} {t : Addr} (kr : k < r) (ne : wordL A k ≠ wordL B k) (least : ∀ j : Nat, j < k → wordL A j = wordL B j) (ht : H t = some (.tup [.int k])) : BestOf H (fun q => Prt D A B q ∧ ∀ x ∈ q, 0 ≤ x ∧ x < r) (.ref t) := by
  refine .inl ⟨[(k : Int)], t, rfl, ht, ⟨⟨⟨by simp, by simp, fun i hi => absurd hi (by show ¬ i + 1 < 1; omega)⟩, ne⟩, fun x hx => by rw [List.mem_singleton.mp hx]; exact ⟨by omega, by omega⟩⟩, fun q' ⟨⟨hp, hw⟩, hi⟩ => ?_⟩
  cases q' with
  | nil => exact absurd rfl hp.1
  | cons x l =>
    cases l with
    | cons y l => exact .inr (.inl (by simp))
    | nil =>
      have hx := hi x List.mem_cons_self
      by_cases e : x = (k : Int)
      · exact .inl (by rw [e])
      · refine .inr (.inr ⟨rfl, .inl ?_⟩)
        have : ¬ x < (k : Int) := fun z => by
          have := least x.toNat (by omega)
          rw [show ((x.toNat : Nat) : Int) = x by omega] at this
          exact hw this
        omega
/-- parting_path's promise, with the least of all parting paths -/
def spPpB (C : Addr) : Sp := fun vs H Q _ => ∃ (p a b : Addr) (us ws : List V) (A B : List Cl) (r : Nat) (D : List Pr) (own : List Addr), vs = [.ref p, .ref a, .ref b] ∧ HouseAt C H p r D own ∧ H a = some (.lst us) ∧ LG H us A ∧ A.length ≤ 1000 ∧ InR r A ∧ H b = some (.lst ws) ∧ LG H ws B ∧ B.length ≤ 1000 ∧ InR r B ∧
  ∀ (v : V) (H' : Hp), Same H H' → BestOf H' (fun q => Prt D A B q ∧ ∀ x ∈ q, 0 ≤ x ∧ x < r) v → Q v H'
theorem pp_of {C : Addr} {vs : List V} {H : Hp} {Q : VK} {E : XK} (h : spPpB C vs H Q E) : spPp C vs H Q E := by
  obtain ⟨p, a, b, us, ws, A, B, r, D, own, e, hh, ha, la, al, ia, hb, lb, bl, ib, k⟩ := h
  exact ⟨p, a, b, us, ws, A, B, r, D, own, e, hh, ha, la, al, ia, hb, lb, bl, ib, fun j hj ne least t H' s ht => k _ H' s (one_part hj ne least ht), fun eq rs v H' _ mem s best => k v H' s (best_part ia ib mem eq best)⟩
/-- what it tells, by the last calls alone and with the logs exchanged -/
theorem prt_swap {D : List Pr} {A B : List Cl} {q : List Int} : Prt D A B q ↔ Prt D B A q := ⟨fun h => ⟨h.1, fun e => h.2 e.symm⟩, fun h => ⟨h.1, fun e => h.2 e.symm⟩⟩
theorem prt_last {D : List Pr} {A B : List Cl} {q : List Int} : Prt D (lastF A) B q ↔ Prt D A B q := by
  unfold Prt
  rw [wordP_last]
theorem prt_same {D : List Pr} {A : List Cl} {q : List Int} : ¬ Prt D A A q := fun h => h.2 rfl

abbrev sFew : Stmt := topS 28
theorem cut_dropW (xs : List V) (k : Nat) : cutV xs (some ((k : Nat) : Int)) none = xs.drop k := by
  unfold cutV
  rw [show HT.sIx xs.length 0 (some ((k : Nat) : Int)) = min k xs.length from HT.sIx_nat xs.length 0 k, HT.sIx_none]
  by_cases h : k ≤ xs.length
  · rw [Nat.min_eq_left h]
    refine List.take_of_length_le ?_
    rw [List.length_drop]
    exact Nat.le_refl _
  · rw [Nat.min_eq_right (by omega), List.drop_length, List.drop_eq_nil_of_le (by omega)]
    exact List.take_nil
theorem cut_takeW (xs : List V) (k : Nat) : cutV xs none (some ((k : Nat) : Int)) = xs.take k := by
  unfold cutV
  rw [show HT.sIx xs.length xs.length (some ((k : Nat) : Int)) = min k xs.length from HT.sIx_nat xs.length xs.length k, HT.sIx_none, List.drop_zero, Nat.sub_zero]
  by_cases h : k ≤ xs.length
  · rw [Nat.min_eq_left h]
  · rw [Nat.min_eq_right (by omega), List.take_length, List.take_of_length_le (by omega)]
section
variable {P : Program} {w : World} {K : PySem.W.Frag} {mg : Str → Option Value} {base : Heap}
theorem scFew : FnScope ["doors", "most", "number", "turn"] ["doors", "most", "number"] (defScope sFew) := ⟨rfl, rfl, rfl, by decide +kernel, rfl, by decide +kernel, by decide +kernel⟩
def spFew (K : PySem.W.Frag) : Sp := fun vs H Q _ => ∃ (l : Addr) (us : List V) (D : List Pr) (m x : Int) (r : Nat), vs = [.ref l, .int m, .int x] ∧ H l = some (.lst us) ∧ PL H us D ∧ Drs r D ∧ r ≤ 12 ∧ 0 ≤ m ∧ m ≤ 100 ∧
  ∀ (E : List Pr) (ws : List V) (t : Addr) (H' : Hp), Drs r E → (E.length : Int) ≤ m → Same H H' → H t = none → H' t = some (.lst ws) → PL H' ws E → Q (.ref t) H'
theorem ok_few {f : Addr} {fd : FuncData} (F : Fun K "_law_fewer" "_law_fewer" sFew f fd) (T : Bi mg) : FnOk P w K mg base CX0 1 f fd ["doors", "most", "number"] (spFew K) := by
  refine F.ok scFew (fun vs H Q E h => ?_) (fun cdv A outer s H vs Q E hr h => ?_)
  · obtain ⟨l, us, D, m, x, r, rfl, _⟩ := h
    rfl
  · obtain ⟨l, us, D, m, x, r, rfl, hl, pl, drs, r12, m0, m100, ret⟩ := h
    refine ⟨_, (pss_cons (ps_set (i := 3) scFew.nd rfl (Or.inl rfl) pe_int)
      (pss_cons (ps_if (pt_cmpR op_gt (pe_callB call_len_seq (by rfl) T.len (by decide +kernel) (pa_cons (pv 0) pa_nil)) pe_int (nomark _))
      (pss_one (ps_set (i := 3) scFew.nd rfl (Or.inl rfl) (pe_op op_mod (pe_callTy cr_intI (by rfl) T.int (by decide +kernel) (pa_cons (pv 2) pa_nil)) (pe_callB call_len_seq (by rfl) T.len (by decide +kernel) (pa_cons (pv 0) pa_nil)))))
      pss_nil)
      (pss_one (ps_ret (pe_callB cr_sortedPO (by rfl) T.sorted (by decide +kernel) (pa_cons (pe_slice sl_list (pe_op op_cat (pe_slice sl_list (pv 0) (po_some (pv 3)) po_none) (pe_slice sl_list (pv 0) po_none (po_some (pv 3)))) po_none (po_some (pv 1))) pa_nil)))))), ?_⟩
    walk_at "rd"
    obtain ⟨kD, kI⟩ := pl.toK
    have ul : us.length = D.length := pl.len
    have dl := drs.len r12
    obtain ⟨mm, rfl⟩ : ∃ mm : Nat, m = mm := ⟨m.toNat, (Int.toNat_of_nonneg m0).symm⟩
    have fin : ∀ (tn : Nat) (H' : Hp) (a : Addr), Same H H' → H' a = some (.lst (us.drop tn ++ us.take tn)) → ∀ p, H' p = none → rSortedPO K [V.ref p] (upd H' p (HO.lst ((us.drop tn ++ us.take tn).take mm))) Q := fun tn H' a s1 ha p np => by
      have pmz : (us.drop tn ++ us.take tn).Perm us := by
        have := List.perm_append_comm (l₁ := us.drop tn) (l₂ := us.take tn)
        rw [List.take_append_drop] at this
        exact this
      have sub : ((us.drop tn ++ us.take tn).take mm).Sublist (us.drop tn ++ us.take tn) := List.take_sublist _ _
      have s2 := s1.trans (same_upd (o := HO.lst ((us.drop tn ++ us.take tn).take mm)) np)
      have hz : upd H' p (HO.lst ((us.drop tn ++ us.take tn).take mm)) p = some (.lst ((us.drop tn ++ us.take tn).take mm)) := upd_same
      generalize upd H' p (HO.lst ((us.drop tn ++ us.take tn).take mm)) = H2 at s2 hz ⊢
      have inU : ∀ v ∈ (us.drop tn ++ us.take tn).take mm, v ∈ us := fun v hv => pmz.mem_iff.mp (sub.subset hv)
      have isP : ∀ v ∈ (us.drop tn ++ us.take tn).take mm, IsP H2 v (kH H v) := fun v hv => (kI v (inU v hv)).kt (KT.same s2)
      refine ⟨p, _, kH H, rfl, SqL.of hz, isP, fun ys t so st nt => ?_⟩
      have pmy := st.perm
      have hy : ∀ v ∈ ys, IsP H2 v (kH H v) := fun v hv => isP v (pmy.mem_iff.mp hv)
      have nd : (ys.map (kH H)).Nodup := by
        refine (pmy.map _).nodup_iff.mpr ?_
        refine List.Pairwise.sublist (sub.map _) ?_
        refine (pmz.map (kH H)).nodup_iff.mpr ?_
        rw [← kD]
        exact drs.asc.nodup
      have hyP : PL H2 ys (ys.map (kH H)) := by
        have e : ∀ v ∈ ys, kH H2 v = kH H v := fun v hv => (hy v hv).k
        have := PL.ofK (H := H2) (vs := ys) fun v hv => by rw [e v hv]; exact hy v hv
        rw [List.map_congr_left e] at this
        exact this
      refine ret (ys.map (kH H)) ys t _ ⟨srtd_asc nd so, fun d hd => ?_⟩ (by rw [List.length_map, pmy.length_eq, List.length_take]; omega) (s2.trans (same_upd nt)) (s2.free nt) upd_same (hyP.kt (KT.new nt))
      refine drs.ok d ?_
      rw [kD]
      obtain ⟨v, hv, rfl⟩ := List.mem_map.mp hd
      exact List.mem_map.mpr ⟨v, inU v (pmy.mem_iff.mp hv), rfl⟩
    have cat : ∀ (tn : Nat), ∀ (p : Addr), H p = none → ∀ p1, upd H p (HO.lst (us.drop tn)) p1 = none → rCat (V.ref p) (V.ref p1) (upd (upd H p (HO.lst (us.drop tn))) p1 (HO.lst (us.take tn))) fun x H1 => ∃ a, x = V.ref a ∧ ∃ x, SqL K H1 a x ∧ ∀ (p : Addr), H1 p = none → rSortedPO K [V.ref p] (upd H1 p (HO.lst (cutV x none (some (mm : Int))))) Q := fun tn p np p1 np1 => by
      have s1 := (same_upd (o := HO.lst (us.drop tn)) np).trans (same_upd (o := HO.lst (us.take tn)) np1)
      refine ⟨p, p1, _, _, rfl, rfl, same_upd np1 _ _ upd_same, upd_same, Nat.le_of_lt (len_big (by rw [List.length_drop, List.length_take]; omega)), fun c nc => ⟨c, rfl, _, SqL.of upd_same, fun z nz => ?_⟩⟩
      rw [cut_takeW]
      exact fin tn _ c (s1.trans (same_upd nc)) upd_same z nz
    refine ⟨us, .inl (SqL.of hl), ?_⟩
    by_cases z : us = []
    · rw [if_neg (show ¬ (0 : Int) < (us.length : Int) by rw [z]; decide)]
      refine ⟨us, SqL.of hl, fun p np => ?_⟩
      rw [show (some (0 : Int)) = some ((0 : Nat) : Int) from rfl, cut_dropW]
      refine ⟨us, SqL.of (same_upd np _ _ hl), fun p1 np1 => ?_⟩
      rw [cut_takeW]
      exact cat 0 p np p1 np1
    · have up := List.length_pos_iff.mpr z
      rw [if_pos (show (0 : Int) < (us.length : Int) by omega)]
      have q0 := Int.emod_nonneg x (show (us.length : Int) ≠ 0 by omega)
      obtain ⟨tn, et⟩ : ∃ tn : Nat, x % (us.length : Int) = tn := ⟨(x % (us.length : Int)).toNat, (Int.toNat_of_nonneg q0).symm⟩
      refine ⟨us, .inl (SqL.of hl), by omega, us, SqL.of hl, fun p np => ?_⟩
      rw [et, cut_dropW]
      refine ⟨us, SqL.of (same_upd np _ _ hl), fun p1 np1 => ?_⟩
      rw [cut_takeW]
      exact cat tn p np p1 np1
end

abbrev sAlk : Stmt := topS 21
/-- no path of the house parts the logs -/
def NoP (r : Nat) (D : List Pr) (A B : List Cl) : Prop := ∀ q, (∀ x ∈ q, 0 ≤ x ∧ x < (r : Int)) → ¬ Prt D A B q
section
variable {P : Program} {w : World} {K : PySem.W.Frag} {mg : Str → Option Value} {base : Heap}
theorem scAlk : FnScope ["house", "first", "second"] ["house", "first", "second"] (defScope sAlk) := ⟨rfl, rfl, rfl, by decide +kernel, rfl, by decide +kernel, by decide +kernel⟩
def spAlk (C : Addr) : Sp := fun vs H Q _ => ∃ (p a b : Addr) (us ws : List V) (A B : List Cl) (r : Nat) (D : List Pr) (own : List Addr), vs = [.ref p, .ref a, .ref b] ∧ HouseAt C H p r D own ∧ H a = some (.lst us) ∧ LG H us A ∧ A.length ≤ 1000 ∧ InR r A ∧ H b = some (.lst ws) ∧ LG H ws B ∧ B.length ≤ 1000 ∧ InR r B ∧
  ∀ (k : Bool) (H' : Hp), Same H H' → (k = true ↔ NoP r D A B) → Q (.bl k) H'
theorem ok_alk {f C fP : Addr} {fd fdP : FuncData} (F : Fun K "alike" "alike" sAlk f fd) (d_parting_path : Df P w K mg base "parting_path" ["house", "first", "second"] 4 (spPp C) fP fdP) : FnOk P w K mg base CX0 5 f fd ["house", "first", "second"] (spAlk C) := by
  refine F.ok scAlk (fun vs H Q E h => ?_) (fun cdv A0 outer s H vs Q E hr h => ?_)
  · obtain ⟨p, a, b, us, ws, A, B, r, D, own, rfl, _⟩ := h
    rfl
  · obtain ⟨p, a, b, us, ws, A, B, r, D, own, rfl, hh, ha, la, al, ia, hb, lb, bl, ib, ret⟩ := h
    refine ⟨_, (pss_one (ps_ret (pe_cmpR op_isN (pe_call d_parting_path.ok (hr.mono (by decide)) (by rfl) d_parting_path.at_ d_parting_path.kp d_parting_path.b .nil pass0 (pa_cons (pv 0) (pa_cons (pv 1) (pa_cons (pv 2) pa_nil)))) pe_non (nomark _)))), ?_⟩
    walk_at "rd"
    refine pp_of ⟨p, a, b, us, ws, A, B, r, D, own, rfl, hh, ha, la, al, ia, hb, lb, bl, ib, fun v H' s best => ?_⟩
    dsimp only
    refine ret _ H' s ?_
    rcases best with ⟨q, t, rfl, ht, ⟨hq, hi⟩, _⟩ | ⟨rfl, no⟩
    · constructor
      · intro z
        simp at z
      · intro z
        exact absurd hq (z q hi)
    · constructor
      · intro _ q hi hq
        exact no q ⟨hq, hi⟩
      · intro _
        simp
end

abbrev sOps : Stmt := topS 29
/-- all openings: the lists of some of the doors -/
def subsF (D : List Pr) : List (List Pr) := D.foldl (fun S d => S.flatMap fun o => [o, o ++ [d]]) [[]]
theorem subsF_snoc (D : List Pr) (d : Pr) : subsF (D ++ [d]) = (subsF D).flatMap fun o => [o, o ++ [d]] := by
  unfold subsF
  rw [List.foldl_append]
  rfl
theorem flat2_len {α : Type} (f g : α → α) (l : List α) : (l.flatMap fun o => [f o, g o]).length = 2 * l.length := by
  induction l with
  | nil => rfl
  | cons a l ih =>
    rw [List.flatMap_cons, List.length_append, ih]
    show 2 + 2 * l.length = 2 * (l.length + 1)
    omega
theorem subsF_len (D : List Pr) : (subsF D).length = 2 ^ D.length := by
  refine snoc_ind (M := fun D => (subsF D).length = 2 ^ D.length) rfl (fun S d ih => ?_) D
  rw [subsF_snoc, flat2_len (fun o => o) (fun o => o ++ [d]), ih, List.length_append]
  show _ = 2 ^ (S.length + 1)
  rw [Nat.pow_succ]
  omega
theorem subsF_sub (D : List Pr) : ∀ O ∈ subsF D, ∀ d ∈ O, d ∈ D := by
  refine snoc_ind (M := fun D => ∀ O ∈ subsF D, ∀ d ∈ O, d ∈ D) (fun O hO d hd => ?_) (fun S e ih O hO d hd => ?_) D
  · rw [List.mem_singleton.mp hO] at hd
    cases hd
  · rw [subsF_snoc] at hO
    obtain ⟨o, ho, h⟩ := List.mem_flatMap.mp hO
    rcases List.mem_cons.mp h with h | h
    · rw [h] at hd
      exact List.mem_append_left _ (ih o ho d hd)
    · rw [List.mem_singleton.mp h] at hd
      rcases List.mem_append.mp hd with hd | hd
      · exact List.mem_append_left _ (ih o ho d hd)
      · exact List.mem_append_right _ hd
theorem subsF_olen (D : List Pr) : ∀ O ∈ subsF D, O.length ≤ D.length := by
  refine snoc_ind (M := fun D => ∀ O ∈ subsF D, O.length ≤ D.length) (fun O hO => ?_) (fun S e ih O hO => ?_) D
  · rw [List.mem_singleton.mp hO]
    exact Nat.le_refl _
  · rw [subsF_snoc] at hO
    obtain ⟨o, ho, h⟩ := List.mem_flatMap.mp hO
    have := ih o ho
    rw [List.length_append]
    rcases List.mem_cons.mp h with h | h
    · rw [h]
      omega
    · rw [List.mem_singleton.mp h, List.length_append]
      show o.length + 1 ≤ S.length + 1
      omega
theorem subsF_filter (D : List Pr) (p : Pr → Bool) : D.filter p ∈ subsF D := by
  refine snoc_ind (M := fun D => D.filter p ∈ subsF D) List.mem_cons_self (fun S e ih => ?_) D
  rw [subsF_snoc, List.filter_append]
  refine List.mem_flatMap.mpr ⟨S.filter p, ih, ?_⟩
  cases h : p e with
  | true =>
    rw [List.filter_cons_of_pos h, List.filter_nil]
    exact List.mem_cons_of_mem _ List.mem_cons_self
  | false =>
    rw [List.filter_cons_of_neg (by rw [h]; decide), List.filter_nil, List.append_nil]
    exact List.mem_cons_self
def OpL (H : Hp) (v : V) (O : List Pr) : Prop := ∃ t ws, v = .ref t ∧ H t = some (.lst ws) ∧ PL H ws O
theorem OpL.same {H H' : Hp} {v : V} {O : List Pr} (h : OpL H v O) (s : Same H H') : OpL H' v O := by
  obtain ⟨t, ws, e, h1, h2⟩ := h
  exact ⟨t, ws, e, s _ _ h1, h2.kt (KT.same s)⟩
def OL (H : Hp) (vs : List V) (Os : List (List Pr)) : Prop := Paired (OpL H) vs Os
theorem OL.same {H H' : Hp} {vs : List V} {Os : List (List Pr)} (h : OL H vs Os) (s : Same H H') : OL H' vs Os := Paired.mapP h fun _ _ q => q.same s
/-- only the list at g may change -/
def But (g : Addr) (H H' : Hp) : Prop := ∀ b o, H b = some o → b ≠ g → H' b = some o
theorem But.trans {g : Addr} {H H1 H2 : Hp} (a : But g H H1) (b : But g H1 H2) : But g H H2 := fun c o e n => b c o (a c o e n) n
theorem But.same {g : Addr} {H H' : Hp} (s : Same H H') : But g H H' := fun b o e _ => s b o e
theorem But.ch {g : Addr} {H : Hp} {o : HO} : But g H (upd H g o) := fun b x e n => by rw [upd_ne n]; exact e
theorem OpL.but {g : Addr} {H H' : Hp} {v : V} {O : List Pr} {us : List V} (h : OpL H v O) (s : But g H H') (hg : H g = some (.lst us)) (ne : v ≠ .ref g) : OpL H' v O := by
  obtain ⟨t, ws, e, h1, h2⟩ := h
  refine ⟨t, ws, e, s _ _ h1 fun z => ne (by rw [e, z]), h2.kt fun b xs hb => s _ _ hb fun z => ?_⟩
  rw [z, hg] at hb
  cases hb
theorem OL.but {g : Addr} {H H' : Hp} {us : List V} (s : But g H H') (hg : H g = some (.lst us)) : ∀ {vs : List V} {Os : List (List Pr)}, OL H vs Os → (∀ v ∈ vs, v ≠ .ref g) → OL H' vs Os
  | _, _, Paired.nil, _ => Paired.nil
  | _, _, Paired.cons r t, n => Paired.cons (r.but s hg (n _ List.mem_cons_self)) (OL.but s hg t fun v hv => n v (List.mem_cons_of_mem _ hv))
section
variable {P : Program} {w : World} {K : PySem.W.Frag} {mg : Str → Option Value} {base : Heap}
theorem scOps : FnScope ["doors", "found", "door", "longer", "opening"] ["doors"] (defScope sOps) := ⟨rfl, rfl, rfl, by decide +kernel, rfl, by decide +kernel, by decide +kernel⟩
def spOps : Sp := fun vs H Q _ => ∃ (l : Addr) (us : List V) (D : List Pr), vs = [.ref l] ∧ H l = some (.lst us) ∧ PL H us D ∧ D.length ≤ 10 ∧
  ∀ (t : Addr) (zs : List V) (H' : Hp), Same H H' → H' t = some (.lst zs) → OL H' zs (subsF D) → Q (.ref t) H'
theorem ok_ops {f : Addr} {fd : FuncData} (F : Fun K "_law_openings" "_law_openings" sOps f fd) (T : Bi mg) : FnOk P w K mg base CX0 1 f fd ["doors"] spOps := by
  refine F.ok scOps (fun vs H Q E h => ?_) (fun cdv A0 outer s0 H vs Q E hr h => ?_)
  · obtain ⟨l, us, D, rfl, _⟩ := h
    rfl
  · obtain ⟨l, us, D, rfl, hl, pl, d10, ret⟩ := h
    refine ⟨_, (pss_cons (ps_set (i := 1) scOps.nd rfl (Or.inl rfl) (pe_lst (pa_cons (pe_lst pa_nil) pa_nil)))
      (pss_cons (ps_for PassesOwn.never rfl (pi_list (pv 0)) (pg_name (i := 2) scOps.nd rfl (Or.inl rfl))
      (pss_cons (ps_set (i := 3) scOps.nd rfl (Or.inl rfl) (pe_lst pa_nil))
        (pss_cons (ps_for PassesOwn.never rfl (pi_list (pe_callTy call_list_of (by rfl) T.list (by decide +kernel) (pa_cons (pv 1) pa_nil))) (pg_name (i := 4) scOps.nd rfl (Or.inl rfl))
        (pss_cons (ps_expr (pe_bm PySem.F.plainAttrs_list PySem.F.slot_list_append PySem.F.type_list_append mt_append (pv 3) (pa_cons (pv 4) pa_nil)))
          (pss_one (ps_expr (pe_bm PySem.F.plainAttrs_list PySem.F.slot_list_append PySem.F.type_list_append mt_append (pv 3) (pa_cons (pe_op op_cat (pv 4) (pe_lst (pa_cons (pv 2) pa_nil))) pa_nil))))))
        (pss_one (ps_set (i := 1) scOps.nd rfl (Or.inl rfl) (pe_callTy call_list_of (by rfl) T.list (by decide +kernel) (pa_cons (pv 3) pa_nil)))))))
      (pss_one (ps_ret (pv 1))))), ?_⟩
    walk_at "rd"
    have ul : us.length = D.length := pl.len
    refine ⟨Nat.zero_le _, fun e0 ne0 => ⟨by decide, fun f0 nf0 => ?_⟩⟩
    have s0 : Same H (upd (upd H e0 (HO.lst [])) f0 (HO.lst [V.ref e0])) := (same_upd ne0).trans (same_upd nf0)
    have hf0 := upd_same (H := upd H e0 (HO.lst [])) (a := f0) (o := HO.lst [V.ref e0])
    have he0 := same_upd (o := HO.lst [V.ref e0]) nf0 _ _ (upd_same (H := H) (a := e0) (o := HO.lst []))
    generalize upd (upd H e0 (HO.lst [])) f0 (HO.lst [V.ref e0]) = H0 at s0 hf0 he0 ⊢
    obtain ⟨Pv, hPv⟩ : ∃ Pv : Nat → L2.St → Hp → Prop, Pv = (fun i σ H' => ∃ (f : Addr) (zs : List V) (v2 v3 v4 : Option V), σ = [some (V.ref l), some (V.ref f), v2, v3, v4] ∧ Same H0 H' ∧ H' f = some (.lst zs) ∧ OL H' zs (subsF (D.take i))) := ⟨_, rfl⟩
    refine ⟨_, rfl, l, rfl, ⟨us, SqL.of (s0 _ _ hl)⟩, for_list (K := K) (a := l) (xs := us) Pv (by rw [hPv]; exact ⟨f0, [.ref e0], none, none, none, rfl, Same.refl _, hf0, Paired.cons ⟨e0, [], rfl, he0, Paired.nil⟩ Paired.nil⟩) (fun i σ H' _ pv => by rw [hPv] at pv; obtain ⟨_, _, _, _, _, _, s9, _⟩ := pv; exact SqL.of (s9 _ _ (s0 _ _ hl))) (fun i v σ H1 gv pv => ?body) (fun σ H1 pv => ?done)⟩
    case done =>
      rw [hPv] at pv
      obtain ⟨f, zs, v2, v3, v4, rfl, s1, hf, ol⟩ := pv
      rw [ul, List.take_length] at ol
      walk_at "rd"
      exact ret f zs H1 (s0.trans s1) hf ol
    case body =>
      have nxt : ∀ (f : Addr) (zs : List V) (v2 v3 v4 : Option V) (H' : Hp), Same H0 H' → H' f = some (.lst zs) → OL H' zs (subsF (D.take (i + 1))) → Pv (i + 1) [some (V.ref l), some (V.ref f), v2, v3, v4] H' := fun f zs v2 v3 v4 H' h1 h2 h3 => by
        rw [hPv]
        exact ⟨f, zs, v2, v3, v4, rfl, h1, h2, h3⟩
      rw [hPv] at pv
      obtain ⟨f, zs, v2, v3, v4, rfl, s1, hf, ol⟩ := pv
      clear hPv
      obtain ⟨d, gd, hd⟩ := pl.get gv
      have id : i < D.length := (List.getElem?_eq_some_iff.mp gd).1
      have sl : (subsF (D.take i)).length ≤ 1024 := by
        rw [subsF_len]
        exact Nat.le_trans (Nat.pow_le_pow_right (by decide) (show (D.take i).length ≤ 10 by rw [List.length_take]; omega)) (by decide)
      have zl : zs.length = (subsF (D.take i)).length := Paired.length ol
      rw [List.take_add_one, gd] at nxt
      simp only [Option.toList_some] at nxt
      rw [subsF_snoc] at nxt
      have ol10 : ∀ O ∈ subsF (D.take i), O.length ≤ 10 := fun O hO => by
        have h := subsF_olen _ O hO
        rw [List.length_take] at h
        omega
      generalize subsF (D.take i) = Z at ol sl zl nxt ol10
      walk_at "rd"
      refine ⟨Nat.zero_le _, fun g ng => ?_⟩
      refine for_iterW ?_
      walk_at "rd"
      have s2 := same_upd (o := HO.lst []) ng
      refine ⟨zs, .inl (SqL.of (s2 _ _ hf)), fun c nc => ?_⟩
      have s3 := same_upd (o := HO.lst zs) nc
      have hg3 := s3 _ _ (upd_same (H := H1) (a := g) (o := HO.lst []))
      have hc3 := upd_same (H := upd H1 g (HO.lst [])) (a := c) (o := HO.lst zs)
      have s13 := s2.trans s3
      generalize upd (upd H1 g (HO.lst [])) c (HO.lst zs) = H3 at s3 hg3 hc3 s13 ⊢
      have ngc : c ≠ g := fun z => by rw [z, upd_same] at nc; cases nc
      have ol3 := ol.same s13
      have zg : ∀ v ∈ zs, v ≠ V.ref g := fun v hv z => by
        obtain ⟨k, hk, e⟩ := List.mem_iff_getElem.mp hv
        obtain ⟨O, gO, t, ws, e2, ht, _⟩ := pget ol (List.getElem?_eq_some_iff.mpr ⟨hk, e⟩)
        rw [z] at e2
        cases e2
        rw [ng] at ht
        cases ht
      obtain ⟨Pw, hPw⟩ : ∃ Pw : Nat → L2.St → Hp → Prop, Pw = (fun j σ H' => ∃ (ys : List V) (v4 : Option V), σ = [some (V.ref l), some (V.ref f), some v, some (V.ref g), v4] ∧ But g H3 H' ∧ H' g = some (.lst ys) ∧ OL H' ys ((Z.take j).flatMap fun o => [o, o ++ [d]]) ∧ ∀ v ∈ ys, v ≠ V.ref g) := ⟨_, rfl⟩
      refine ⟨⟨_, SqL.of hc3⟩, for_list (K := K) (a := c) (xs := zs) Pw (by rw [hPw]; exact ⟨[], v4, rfl, fun b o e _ => e, hg3, Paired.nil, fun v hv => by cases hv⟩) (fun j σ H' _ pv => by rw [hPw] at pv; obtain ⟨_, _, _, s9, _⟩ := pv; exact SqL.of (s9 _ _ hc3 ngc)) (fun j u σ H4 gu pv => ?_) (fun σ H4 pv => ?_)⟩
      · have nx2 : ∀ (ys : List V) (v4 : Option V) (H' : Hp), But g H3 H' → H' g = some (.lst ys) → OL H' ys ((Z.take (j + 1)).flatMap fun o => [o, o ++ [d]]) → (∀ v ∈ ys, v ≠ V.ref g) → Pw (j + 1) [some (V.ref l), some (V.ref f), some v, some (V.ref g), v4] H' := fun ys v4 H' h1 h2 h3 h4 => by
          rw [hPw]
          exact ⟨ys, v4, rfl, h1, h2, h3, h4⟩
        rw [hPw] at pv
        obtain ⟨ys, v4, rfl, b4, hg4, oy, yg⟩ := pv
        clear hPw
        obtain ⟨O, gO, hO⟩ := pget ol3 gu
        have jz : j < Z.length := (List.getElem?_eq_some_iff.mp gO).1
        rw [List.take_add_one, gO] at nx2
        simp only [Option.toList_some, List.flatMap_append, List.flatMap_cons, List.flatMap_nil, List.append_nil] at nx2
        have yl : ys.length ≤ 2048 := by
          have := Paired.length oy
          rw [flat2_len (fun o => o) (fun o => o ++ [d]), List.length_take] at this
          omega
        have ug := zg u (List.mem_of_getElem? gu)
        obtain ⟨t, ws, rfl, ht, pw⟩ := hO.but b4 hg3 ug
        have tg : t ≠ g := fun z => ug (by rw [z])
        walk_at "rd"
        refine ⟨.inl ⟨rfl, _, SqL.of hg4⟩, ys, hg4, len_big (by omega), ?_⟩
        have b5 : But g H4 (upd H4 g (HO.lst (ys ++ [V.ref t]))) := But.ch
        have hg5 := upd_same (H := H4) (a := g) (o := HO.lst (ys ++ [V.ref t]))
        have ht5 := b5 _ _ ht tg
        generalize upd H4 g (HO.lst (ys ++ [V.ref t])) = H5 at b5 hg5 ht5 ⊢
        refine ⟨.inl ⟨rfl, _, SqL.of hg5⟩, by decide, fun e ne => ?_⟩
        have s6 := same_upd (o := HO.lst [v]) ne
        have he6 := upd_same (H := H5) (a := e) (o := HO.lst [v])
        generalize upd H5 e (HO.lst [v]) = H6 at s6 he6 ⊢
        have wl : ws.length ≤ 100000 := by
          rw [pw.len]
          have := ol10 O (List.mem_of_getElem? gO)
          omega
        refine ⟨t, e, ws, [v], rfl, rfl, s6 _ _ ht5, he6, Nat.le_of_lt (Nat.lt_of_le_of_lt (show ws.length + 1 ≤ 100001 by omega) (by decide)), fun p np => ?_⟩
        have s7 := same_upd (o := HO.lst (ws ++ [v])) np
        have hp7 := upd_same (H := H6) (a := p) (o := HO.lst (ws ++ [v]))
        generalize upd H6 p (HO.lst (ws ++ [v])) = H7 at s7 hp7 ⊢
        have hg7 := s7 _ _ (s6 _ _ hg5)
        have pg : p ≠ g := fun z => by rw [z] at np; rw [s6 _ _ hg5] at np; cases np
        refine ⟨ys ++ [V.ref t], hg7, len_big (by rw [List.length_append]; show ys.length + 1 ≤ _; omega), ?_⟩
        have b47 : But g H4 H7 := b5.trans (But.same (s6.trans s7))
        have b48 : But g H4 (upd H7 g (HO.lst (ys ++ [V.ref t] ++ [V.ref p]))) := b47.trans But.ch
        have new : ∀ v ∈ ys ++ [V.ref t] ++ [V.ref p], v ≠ V.ref g := fun v hv => by
          rcases List.mem_append.mp hv with h | h
          · rcases List.mem_append.mp h with h | h
            · exact yg v h
            · rw [List.mem_singleton.mp h]
              exact fun z => tg (V.ref.inj z)
          · rw [List.mem_singleton.mp h]
            exact fun z => pg (V.ref.inj z)
        have k38 : But g H3 (upd H7 g (HO.lst (ys ++ [V.ref t] ++ [V.ref p]))) := b4.trans b48
        have hdp : IsP (upd H7 g (HO.lst (ys ++ [V.ref t] ++ [V.ref p]))) v d := by
          obtain ⟨td, ev, htd⟩ := hd
          refine ⟨td, ev, k38 _ _ (s13 _ _ (s1 _ _ (s0 _ _ htd))) fun z => ?_⟩
          have h := s1 _ _ (s0 _ _ htd)
          rw [z, ng] at h
          cases h
        have pw8 : PL (upd H7 g (HO.lst (ys ++ [V.ref t] ++ [V.ref p]))) ws O := pw.kt fun b xs hb => b48 _ _ hb fun z => by rw [z, hg4] at hb; cases hb
        have hg8 := upd_same (H := H7) (a := g) (o := HO.lst (ys ++ [V.ref t] ++ [V.ref p]))
        have hp8 : upd H7 g (HO.lst (ys ++ [V.ref t] ++ [V.ref p])) p = some (.lst (ws ++ [v])) := But.ch _ _ hp7 pg
        generalize upd H7 g (HO.lst (ys ++ [V.ref t] ++ [V.ref p])) = H8 at b48 k38 hdp pw8 hg8 hp8 ⊢
        refine nx2 _ _ _ k38 hg8 ?_ new
        rw [List.append_assoc]
        exact paired_append (OL.but b48 hg4 oy yg) (Paired.cons ⟨t, ws, rfl, b48 _ _ ht tg, pw8⟩ (Paired.cons ⟨p, ws ++ [v], rfl, hp8, PL.snoc pw8 hdp⟩ Paired.nil))
      · rw [hPw] at pv
        obtain ⟨ys, v4, rfl, b4, hg4, oy, yg⟩ := pv
        rw [zl, List.take_length] at oy
        walk_at "rd"
        refine ⟨ys, .inl (SqL.of hg4), fun x nx => ?_⟩
        have s14 : Same H1 H4 := fun b o e => b4 _ _ (s13 _ _ e) fun z => by rw [z, ng] at e; cases e
        exact nxt _ _ _ _ _ _ (s1.trans (s14.trans (same_upd nx))) upd_same (oy.same (same_upd nx))
end

abbrev sAre : Stmt := topS 37
/-! ### labels of the areas -/
def labS (ls : List Int) (d : Pr) : List Int := ls.map fun z => if z = ls.getD d.2.toNat 0 then ls.getD d.1.toNat 0 else z
def labF (r : Nat) (O : List Pr) : List Int := O.foldl labS (rg r)
theorem labF_snoc (r : Nat) (O : List Pr) (d : Pr) : labF r (O ++ [d]) = labS (labF r O) d := by
  unfold labF
  rw [List.foldl_append]
  rfl
theorem labF_len (r : Nat) (O : List Pr) : (labF r O).length = r := by
  refine snoc_ind (M := fun O => (labF r O).length = r) (rg_len r) (fun S d ih => ?_) O
  rw [labF_snoc]
  unfold labS
  rw [List.length_map, ih]
/-- the label of a room -/
def labX (r : Nat) (O : List Pr) (x : Int) : Int := (labF r O).getD x.toNat 0
theorem labX_snoc {r : Nat} {O : List Pr} {d : Pr} {x : Int} (h0 : 0 ≤ x) (h1 : x < r) : labX r (O ++ [d]) x = if labX r O x = labX r O d.2 then labX r O d.1 else labX r O x := by
  unfold labX
  rw [labF_snoc]
  have hl := labF_len r O
  unfold labS
  rw [List.getD_eq_getElem?_getD, List.getElem?_map, List.getElem?_eq_getElem (show x.toNat < (labF r O).length by omega)]
  show (if (labF r O)[x.toNat]'(by omega) = _ then _ else _) = _
  rw [show (labF r O).getD x.toNat 0 = (labF r O)[x.toNat]'(by omega) by rw [List.getD_eq_getElem?_getD, List.getElem?_eq_getElem (show x.toNat < (labF r O).length by omega)]; rfl]
theorem labX_nil {r : Nat} {x : Int} (h0 : 0 ≤ x) (h1 : x < r) : labX r [] x = x := by
  show (rg r).getD x.toNat 0 = x
  unfold rg
  rw [List.getD_eq_getElem?_getD, List.getElem?_map, List.getElem?_range (by omega)]
  show ((x.toNat : Nat) : Int) = x
  omega
theorem labX_bnd {r : Nat} {O : List Pr} (ok : ∀ d ∈ O, (0 ≤ d.1 ∧ d.1 < r) ∧ 0 ≤ d.2 ∧ d.2 < r) : ∀ x : Int, 0 ≤ x → x < r → 0 ≤ labX r O x ∧ labX r O x < r := by
  revert ok
  refine snoc_ind (M := fun (O : List Pr) => (∀ d ∈ O, (0 ≤ d.1 ∧ d.1 < (r : Int)) ∧ 0 ≤ d.2 ∧ d.2 < (r : Int)) → ∀ x : Int, 0 ≤ x → x < r → 0 ≤ labX r O x ∧ labX r O x < r) (fun _ x h0 h1 => by rw [labX_nil h0 h1]; exact ⟨h0, h1⟩) (fun S d ih ok x h0 h1 => ?_) O
  have ih := ih fun e he => ok e (List.mem_append_left _ he)
  have od := ok d (List.mem_append_right _ List.mem_cons_self)
  rw [labX_snoc h0 h1]
  split
  · exact ih _ od.1.1 od.1.2
  · exact ih _ h0 h1
theorem rch_snoc {O : List Pr} {R : List Int} {d : Pr} {x y : Int} (ha : d.1 ∈ R) (hb : d.2 ∈ R) : Rch (O ++ [d]) R x y ↔ Rch O R x y ∨ (Rch O R x d.1 ∧ Rch O R d.2 y) ∨ (Rch O R x d.2 ∧ Rch O R d.1 y) := by
  have up : ∀ {x y : Int}, Rch O R x y → Rch (O ++ [d]) R x y := fun h => by
    induction h with
    | base h => exact .base h
    | step _ a m ih => exact .step ih (a.elim (fun z => .inl (List.mem_append_left _ z)) fun z => .inr (List.mem_append_left _ z)) m
  constructor
  · intro h
    induction h with
    | base h => exact .inl (.base h)
    | @step a b _ ad m ih =>
      have cs : Adj O a b ∨ (a = d.1 ∧ b = d.2) ∨ (a = d.2 ∧ b = d.1) := by
        rcases ad with z | z
        · rcases List.mem_append.mp z with z | z
          · exact .inl (.inl z)
          · have e := List.mem_singleton.mp z
            exact .inr (.inl ⟨congrArg Prod.fst e, congrArg Prod.snd e⟩)
        · rcases List.mem_append.mp z with z | z
          · exact .inl (.inr z)
          · have e := List.mem_singleton.mp z
            exact .inr (.inr ⟨congrArg Prod.snd e, congrArg Prod.fst e⟩)
      rcases cs with c | ⟨rfl, rfl⟩ | ⟨rfl, rfl⟩
      · rcases ih with i | ⟨i, j⟩ | ⟨i, j⟩
        · exact .inl (.step i c m)
        · exact .inr (.inl ⟨i, .step j c m⟩)
        · exact .inr (.inr ⟨i, .step j c m⟩)
      · rcases ih with i | ⟨i, _⟩ | ⟨i, _⟩
        · exact .inr (.inl ⟨i, .base hb⟩)
        · exact .inr (.inl ⟨i, .base hb⟩)
        · exact .inl i
      · rcases ih with i | ⟨i, _⟩ | ⟨i, _⟩
        · exact .inr (.inr ⟨i, .base ha⟩)
        · exact .inl i
        · exact .inr (.inr ⟨i, .base ha⟩)
  · intro h
    rcases h with h | ⟨h, k⟩ | ⟨h, k⟩
    · exact up h
    · exact (Rch.step (up h) (.inl (List.mem_append_right _ List.mem_cons_self)) hb).trans (up k)
    · exact (Rch.step (up h) (.inr (List.mem_append_right _ List.mem_cons_self)) ha).trans (up k)
theorem rch_nil {R : List Int} {x y : Int} : Rch [] R x y ↔ x = y ∧ x ∈ R := by
  constructor
  · intro h
    cases h with
    | base h => exact ⟨rfl, h⟩
    | step _ a _ => rcases a with a | a <;> cases a
  · rintro ⟨rfl, h⟩
    exact .base h
/-- two rooms have one label if the open doors join them -/
theorem labX_rch {r : Nat} {O : List Pr} (ok : ∀ d ∈ O, (0 ≤ d.1 ∧ d.1 < r) ∧ 0 ≤ d.2 ∧ d.2 < r) : ∀ x y : Int, 0 ≤ x → x < r → 0 ≤ y → y < r → (labX r O x = labX r O y ↔ Rch O (rg r) x y) := by
  revert ok
  refine snoc_ind (M := fun (O : List Pr) => (∀ d ∈ O, (0 ≤ d.1 ∧ d.1 < (r : Int)) ∧ 0 ≤ d.2 ∧ d.2 < (r : Int)) → ∀ x y : Int, 0 ≤ x → x < r → 0 ≤ y → y < r → (labX r O x = labX r O y ↔ Rch O (rg r) x y)) (fun _ x y h0 h1 h2 h3 => ?_) (fun S d ih ok x y h0 h1 h2 h3 => ?_) O
  · rw [labX_nil h0 h1, labX_nil h2 h3, rch_nil]
    exact ⟨fun e => ⟨e, mem_rg h0 h1⟩, fun e => e.1⟩
  have ih := ih fun e he => ok e (List.mem_append_left _ he)
  have od := ok d (List.mem_append_right _ List.mem_cons_self)
  rw [rch_snoc (mem_rg od.1.1 od.1.2) (mem_rg od.2.1 od.2.2), labX_snoc h0 h1, labX_snoc h2 h3, ← ih x y h0 h1 h2 h3, ← ih x d.1 h0 h1 od.1.1 od.1.2, ← ih d.2 y od.2.1 od.2.2 h2 h3, ← ih x d.2 h0 h1 od.2.1 od.2.2, ← ih d.1 y od.1.1 od.1.2 h2 h3]
  generalize labX r S x = lx
  generalize labX r S y = ly
  generalize labX r S d.1 = la
  generalize labX r S d.2 = lb
  by_cases c1 : lx = lb
  · rw [if_pos c1]
    by_cases c2 : ly = lb
    · rw [if_pos c2]
      omega
    · rw [if_neg c2]
      omega
  · rw [if_neg c1]
    by_cases c2 : ly = lb
    · rw [if_pos c2]
      omega
    · rw [if_neg c2]
      omega
section
variable {P : Program} {w : World} {K : PySem.W.Frag} {mg : Str → Option Value} {base : Heap}
theorem scAre : FnScope ["rooms", "opening", "areas", "a", "b", "old", "new", "room"] ["rooms", "opening"] (defScope sAre) := ⟨rfl, rfl, rfl, by decide +kernel, rfl, by decide +kernel, by decide +kernel⟩
def spAre : Sp := fun vs H Q _ => ∃ (l : Addr) (us : List V) (O : List Pr) (r : Nat), vs = [.int r, .ref l] ∧ H l = some (.lst us) ∧ PL H us O ∧ (∀ d ∈ O, (0 ≤ d.1 ∧ d.1 < r) ∧ 0 ≤ d.2 ∧ d.2 < r) ∧ r ≤ 12 ∧
  ∀ (p : Addr) (H' : Hp), Same H H' → H' p = some (.lst ((labF r O).map V.int)) → Q (.ref p) H'
theorem ok_are {f : Addr} {fd : FuncData} (F : Fun K "_law_areas" "_law_areas" sAre f fd) (T : Bi mg) : FnOk P w K mg base CX0 1 f fd ["rooms", "opening"] spAre := by
  refine F.ok scAre (fun vs H Q E h => ?_) (fun cdv A0 outer s0 H vs Q E hr h => ?_)
  · obtain ⟨l, us, O, r, rfl, _⟩ := h
    rfl
  · obtain ⟨l, us, O, r, rfl, hl, pl, ok, r12, ret⟩ := h
    refine ⟨_, (pss_cons (ps_set (i := 2) scAre.nd rfl (Or.inl rfl) (pe_listRg rfl (by rfl) T.list (prg_1 (by rfl) T.range (pv 0))))
      (pss_cons (ps_for PassesOwn.never rfl (pi_list (pv 1)) (pg_tup rfl (pgs_cons (pg_name (i := 3) scAre.nd rfl (Or.inl rfl)) (pgs_cons (pg_name (i := 4) scAre.nd rfl (Or.inl rfl)) pgs_nil)))
      (pss_cons (ps_set (i := 5) scAre.nd rfl (Or.inl rfl) (pe_ix ix_list (pv 2) (pv 4) (fun _ _ => rfl)))
        (pss_cons (ps_set (i := 6) scAre.nd rfl (Or.inl rfl) (pe_ix ix_list (pv 2) (pv 3) (fun _ _ => rfl)))
        (pss_one (ps_for PassesOwn.never rfl (pi_range1 (by rfl) T.range (pa_cons (pv 0) pa_nil)) (pg_name (i := 7) scAre.nd rfl (Or.inl rfl))
        (pss_one (ps_if (pt_cmpR op_eqI (pe_ix ix_list (pv 2) (pv 7) (fun _ _ => rfl)) (pv 5) (nomark _))
          (pss_one (ps_asg (pv 6) (pg_sub (pv 2) (pv 7) set_list)))
          pss_nil)))))))
      (pss_one (ps_ret (pv 2))))), ?_⟩
    walk_at "rd"
    refine ⟨RgOk.of_le (by omega) (by omega) (by omega) (by omega), fun p np => ?_⟩
    rw [rgV_rg]
    have s1 := same_upd (o := HO.lst ((rg r).map V.int)) np
    have hp1 := upd_same (H := H) (a := p) (o := HO.lst ((rg r).map V.int))
    generalize upd H p (HO.lst ((rg r).map V.int)) = H1 at s1 hp1 ⊢
    have ul : us.length = O.length := pl.len
    obtain ⟨Pv, hPv⟩ : ∃ Pv : Nat → L2.St → Hp → Prop, Pv = (fun i σ H' => ∃ (v3 v4 v5 v6 v7 : Option V), σ = [some (.int r), some (.ref l), some (.ref p), v3, v4, v5, v6, v7] ∧ Same H H' ∧ H' p = some (.lst ((labF r (O.take i)).map V.int))) := ⟨_, rfl⟩
    refine ⟨_, rfl, l, rfl, ⟨us, SqL.of (s1 _ _ hl)⟩, for_list (K := K) (a := l) (xs := us) Pv (by rw [hPv]; exact ⟨none, none, none, none, none, rfl, s1, hp1⟩) (fun i σ H' _ pv => by rw [hPv] at pv; obtain ⟨_, _, _, _, _, _, s9, _⟩ := pv; exact SqL.of (s9 _ _ hl)) (fun i v σ H2 gv pv => ?body) (fun σ H2 pv => ?done)⟩
    case done =>
      rw [hPv] at pv
      obtain ⟨v3, v4, v5, v6, v7, rfl, sm, hp⟩ := pv
      rw [ul, List.take_length] at hp
      walk_at "rd"
      exact ret p H2 sm hp
    case body =>
      have nxt : ∀ (v3 v4 v5 v6 v7 : Option V) (H' : Hp), Same H H' → H' p = some (.lst ((labF r (O.take (i + 1))).map V.int)) → Pv (i + 1) [some (.int r), some (.ref l), some (.ref p), v3, v4, v5, v6, v7] H' := fun v3 v4 v5 v6 v7 H' h1 h2 => by
        rw [hPv]
        exact ⟨v3, v4, v5, v6, v7, rfl, h1, h2⟩
      rw [hPv] at pv
      obtain ⟨v3, v4, v5, v6, v7, rfl, sm, hp⟩ := pv
      clear hPv
      obtain ⟨d, gd, td, rfl, htd⟩ := pl.get gv
      have od := ok d (List.mem_of_getElem? gd)
      have ll := labF_len r (O.take i)
      rw [List.take_add_one, gd] at nxt
      simp only [Option.toList_some] at nxt
      rw [labF_snoc] at nxt
      unfold labS at nxt
      generalize labF r (O.take i) = ls at hp ll nxt
      have gl : ∀ k, k < r → (ls.map V.int)[k]? = some (.int (ls.getD k 0)) := fun k hk => by rw [List.getElem?_map, List.getD_eq_getElem?_getD, List.getElem?_eq_getElem (by omega)]; rfl
      walk_at "rd"
      refine ⟨_, SqT.of (sm _ _ htd), rfl, _, _, rfl, _, _, rfl, rfl, ?_⟩
      refine ⟨_, _, rfl, SqL.of hp, _, at_of (j := d.2.toNat) (by omega) (gl _ (by omega)), _, _, rfl, SqL.of hp, _, at_of (j := d.1.toNat) (by omega) (gl _ (by omega)), ?_⟩
      obtain ⟨Pw, hPw⟩ : ∃ Pw : Nat → L2.St → Hp → Prop, Pw = (fun j σ H' => ∃ (ms : List Int) (v7 : Option V), σ = [some (.int r), some (.ref l), some (.ref p), some (.int d.1), some (.int d.2), some (.int (ls.getD d.2.toNat 0)), some (.int (ls.getD d.1.toNat 0)), v7] ∧ Same H H' ∧ H' p = some (.lst (ms.map V.int)) ∧ ms.length = r ∧ ∀ k, k < r → ms.getD k 0 = if k < j then (if ls.getD k 0 = ls.getD d.2.toNat 0 then ls.getD d.1.toNat 0 else ls.getD k 0) else ls.getD k 0) := ⟨_, rfl⟩
      refine ⟨_, rfl, r, rfl, by omega, by omega, for_range (lo := 0) (n := (r : Int).toNat) Pw (by rw [hPw]; exact ⟨ls, v7, rfl, sm, hp, ll, fun k hk => by rw [if_neg (by omega)]⟩) (fun j σ H' hj pv => ?_) (fun σ H' pv => ?_)⟩
      · have jr : j < r := by omega
        rw [hPw] at pv
        obtain ⟨ms, v7, rfl, sm', hp', ml, mk⟩ := pv
        have gm : (ms.map V.int)[j]? = some (.int (ms.getD j 0)) := by rw [List.getElem?_map, List.getD_eq_getElem?_getD, List.getElem?_eq_getElem (by omega)]; rfl
        have mj := mk j jr
        rw [if_neg (Nat.lt_irrefl j)] at mj
        walk_at "rd"
        refine ⟨_, SqL.of hp', _, at_of (j := j) (by omega) gm, _, rfl, ?_⟩
        refine ite2 (fun c => ?_) (fun c => ?_)
        · refine ⟨_, hp', j, ixn (by omega) (by rw [List.length_map]; omega), ?_⟩
          rw [set_map, hPw]
          refine ⟨_, _, rfl, same_ch sm' np, upd_same, by rw [List.length_set]; exact ml, fun k hk => ?_⟩
          rw [List.getD_eq_getElem?_getD, List.getElem?_set]
          by_cases e : j = k
          · subst e
            rw [if_pos rfl, if_pos (by omega), if_pos (by omega), if_pos (by rw [← mj]; exact c)]
            rfl
          · rw [if_neg e, ← List.getD_eq_getElem?_getD, mk k hk]
            by_cases c2 : k < j
            · rw [if_pos c2, if_pos (show k < j + 1 by omega)]
            · rw [if_neg c2, if_neg (show ¬ k < j + 1 by omega)]
        · rw [hPw]
          refine ⟨ms, _, rfl, sm', hp', ml, fun k hk => ?_⟩
          rw [mk k hk]
          by_cases e : j = k
          · subst e
            rw [if_neg (Nat.lt_irrefl j), if_pos (by omega), if_neg (by rw [← mj]; exact c)]
          · by_cases c2 : k < j
            · rw [if_pos c2, if_pos (show k < j + 1 by omega)]
            · rw [if_neg c2, if_neg (show ¬ k < j + 1 by omega)]
      · rw [hPw] at pv
        obtain ⟨ms, v7, rfl, sm', hp', ml, mk⟩ := pv
        refine nxt _ _ _ _ _ H' sm' ?_
        rw [hp']
        congr 2
        congr 1
        refine List.ext_getElem (by rw [List.length_map]; omega) fun k h1 h2 => ?_
        have h := mk k (by omega)
        rw [if_pos (by omega), List.getD_eq_getElem?_getD, List.getElem?_eq_getElem h1] at h
        rw [List.getElem_map]
        refine Eq.trans h ?_
        rw [show ls.getD k 0 = ls[k]'(by omega) by rw [List.getD_eq_getElem?_getD, List.getElem?_eq_getElem (by omega)]; rfl]
end

abbrev sWke : Stmt := topS 38
/-! ### the words that areas keep -/
def keptF (r : Nat) (lab : List Int) (L : List Cl) : List V := L.foldl (fun W c => W.set (lab.getD c.1.toNat 0).toNat (.str c.2)) (List.replicate r .non)
theorem keptF_snoc (r : Nat) (lab : List Int) (L : List Cl) (c : Cl) : keptF r lab (L ++ [c]) = (keptF r lab L).set (lab.getD c.1.toNat 0).toNat (.str c.2) := by
  unfold keptF
  rw [List.foldl_append]
  rfl
theorem keptF_len (r : Nat) (lab : List Int) (L : List Cl) : (keptF r lab L).length = r := by
  refine snoc_ind (M := fun L => (keptF r lab L).length = r) List.length_replicate (fun S d ih => ?_) L
  rw [keptF_snoc, List.length_set, ih]
/-- the rooms with the label of a room -/
def clsF (r : Nat) (lab : List Int) (x : Int) : List Int := (rg r).filter fun y => decide (lab.getD y.toNat 0 = lab.getD x.toNat 0)
theorem wordP_snoc (S : List Cl) (c : Cl) (R : List Int) : wordP (S ++ [c]) R = if c.1 ∈ R then some c.2 else wordP S R := by
  unfold wordP
  rw [lastIn_snoc]
  by_cases h : c.1 ∈ R
  · rw [if_pos h, if_pos h]
    rfl
  · rw [if_neg h, if_neg h]
theorem kept_word {r : Nat} {lab : List Int} (bnd : ∀ x : Int, 0 ≤ x → x < r → 0 ≤ lab.getD x.toNat 0 ∧ lab.getD x.toNat 0 < r) {x : Int} (h0 : 0 ≤ x) (h1 : x < r) (L : List Cl) : InR r L → (keptF r lab L).getD (lab.getD x.toNat 0).toNat .non = optS (wordP L (clsF r lab x)) := by
  refine snoc_ind (M := fun L => InR r L → (keptF r lab L).getD (lab.getD x.toNat 0).toNat .non = optS (wordP L (clsF r lab x))) (fun _ => ?_) (fun S c ih i => ?_) L
  · show (List.replicate r V.non).getD _ _ = V.non
    rw [List.getD_eq_getElem?_getD, List.getElem?_replicate]
    split <;> rfl
  · have ih := ih fun d hd => i d (List.mem_append_left _ hd)
    have ic := i c (List.mem_append_right _ List.mem_cons_self)
    have bc := bnd c.1 ic.1 ic.2
    have bx := bnd x h0 h1
    have hl := keptF_len r lab S
    rw [keptF_snoc, wordP_snoc, List.getD_eq_getElem?_getD, List.getElem?_set]
    have mem : c.1 ∈ clsF r lab x ↔ lab.getD c.1.toNat 0 = lab.getD x.toNat 0 := by
      unfold clsF
      rw [List.mem_filter, decide_eq_true_iff]
      exact ⟨fun z => z.2, fun z => ⟨mem_rg ic.1 ic.2, z⟩⟩
    by_cases e : lab.getD c.1.toNat 0 = lab.getD x.toNat 0
    · rw [if_pos (mem.mpr e), e, if_pos rfl, if_pos (by omega)]
      rfl
    · rw [if_neg (fun z => e (mem.mp z)), if_neg (by omega), ← List.getD_eq_getElem?_getD]
      exact ih
def wordsC (r : Nat) (lab : List Int) (L : List Cl) : List (Option Str) := (rg r).map fun x => wordP L (clsF r lab x)
section
variable {P : Program} {w : World} {K : PySem.W.Frag} {mg : Str → Option Value} {base : Heap}
theorem scWke : FnScope ["areas", "log", "kept", "room", "word", "area"] ["areas", "log"] (defScope sWke) := ⟨rfl, rfl, rfl, by decide +kernel, rfl, by decide +kernel, by decide +kernel⟩
def spWke : Sp := fun vs H Q _ => ∃ (a l : Addr) (us : List V) (L : List Cl) (r : Nat) (lab : List Int), vs = [.ref a, .ref l] ∧ H a = some (.lst (lab.map V.int)) ∧ lab.length = r ∧ r ≤ 12 ∧ (∀ x : Int, 0 ≤ x → x < r → 0 ≤ lab.getD x.toNat 0 ∧ lab.getD x.toNat 0 < r) ∧ H l = some (.lst us) ∧ LG H us L ∧ InR r L ∧
  ∀ (p : Addr) (H' : Hp), Same H H' → H' p = some (.lst ((wordsC r lab L).map optS)) → Q (.ref p) H'
theorem ok_wke {f : Addr} {fd : FuncData} (F : Fun K "_law_words_kept" "_law_words_kept" sWke f fd) : FnOk P w K mg base CX0 1 f fd ["areas", "log"] spWke := by
  refine F.ok scWke (fun vs H Q E h => ?_) (fun cdv A0 outer s0 H vs Q E hr h => ?_)
  · obtain ⟨a, l, us, L, r, lab, rfl, _⟩ := h
    rfl
  · obtain ⟨a, l, us, L, r, lab, rfl, ha, ll, r12, bnd, hl, lg, inr, ret⟩ := h
    refine ⟨_, (pss_cons (ps_set (i := 2) scWke.nd rfl (Or.inr rfl) (pe_lc (own := [("area", 5)]) (by rfl) scWke.nd (pi_list (pv 0)) (blkOk_by (N := ["areas", "log", "kept", "room", "word", "area"]) (sc := defScope sWke) (by decide +kernel)) (fun _ _ _ _ _ => pg_name (i := 5) scWke.nd rfl (Or.inl rfl)) (fun _ _ _ _ _ => pts_nil) (fun _ _ _ _ _ => pe_non)))
      (pss_cons (ps_for PassesOwn.never rfl (pi_list (pv 1)) (pg_tup rfl (pgs_cons (pg_name (i := 3) scWke.nd rfl (Or.inl rfl)) (pgs_cons (pg_name (i := 4) scWke.nd rfl (Or.inl rfl)) pgs_nil)))
      (pss_one (ps_asg (pv 4) (pg_sub (pv 2) (pe_ix ix_list (pv 0) (pv 3) (fun _ _ => rfl)) set_list))))
      (pss_one (ps_ret (pe_lc (own := [("area", 5)]) (te := tOp (rIxL K) (tVar 2) (tVar 5)) (by rfl) scWke.nd (pi_list (pv 0)) (blkOk_by (N := ["areas", "log", "kept", "room", "word", "area"]) (sc := defScope sWke) (by decide +kernel)) (fun _ _ _ _ _ => pg_name (i := 5) scWke.nd rfl (Or.inl rfl)) (fun _ _ _ _ _ => pts_nil) (fun _ _ _ _ _ => (pe_ix ix_list (pv 2) (pv 5) (fun _ _ => rfl)))))))), ?_⟩
    walk_at "rd"
    refine ⟨_, rfl, a, rfl, ⟨_, SqL.of ha⟩, fun p np => ?_⟩
    have al : (lab.map V.int).length = r := by rw [List.length_map]; exact ll
    obtain ⟨Pw, hPw⟩ : ∃ Pw : Nat → Hp → Prop, Pw = (fun j Hx => Same H Hx ∧ Hx p = some (.lst (List.replicate j V.non))) := ⟨_, rfl⟩
    refine lc_list (K := K) (a := a) (xs := lab.map V.int) Pw (by rw [hPw]; exact ⟨same_upd np, upd_same⟩) (fun i Hx _ pv => by rw [hPw] at pv; exact SqL.of (pv.1 _ _ ha)) (fun j v Hx gv pv => ?_) (fun H1 pv => ?_)
    · rw [hPw] at pv
      obtain ⟨sx, hp⟩ := pv
      have jr : j < r := by rw [← al]; exact (List.getElem?_eq_some_iff.mp gv).1
      simp only [wipe]
      walk_at "rd"
      refine ⟨_, hp, len_big (by rw [List.length_replicate]; omega), ?_⟩
      rw [hPw]
      refine ⟨same_ch sx np, ?_⟩
      rw [upd_same, List.replicate_succ']
    rw [hPw] at pv
    obtain ⟨s1, hp1⟩ := pv
    rw [al] at hp1
    clear hPw
    walk_at "rd"
    have ul : us.length = L.length := lg.len
    obtain ⟨Pv, hPv⟩ : ∃ Pv : Nat → L2.St → Hp → Prop, Pv = (fun i σ H' => ∃ (v3 v4 : Option V), σ = [some (.ref a), some (.ref l), some (.ref p), v3, v4, none] ∧ Same H H' ∧ H' p = some (.lst (keptF r lab (L.take i)))) := ⟨_, rfl⟩
    refine ⟨_, rfl, l, rfl, ⟨us, SqL.of (s1 _ _ hl)⟩, for_list (K := K) (a := l) (xs := us) Pv (by rw [hPv]; exact ⟨none, none, rfl, s1, hp1⟩) (fun i σ H' _ pv => by rw [hPv] at pv; obtain ⟨_, _, _, s9, _⟩ := pv; exact SqL.of (s9 _ _ hl)) (fun i v σ H2 gv pv => ?body) (fun σ H2 pv => ?done)⟩
    case body =>
      have nxt : ∀ (v3 v4 : Option V) (H' : Hp), Same H H' → H' p = some (.lst (keptF r lab (L.take (i + 1)))) → Pv (i + 1) [some (.ref a), some (.ref l), some (.ref p), v3, v4, none] H' := fun v3 v4 H' h1 h2 => by
        rw [hPv]
        exact ⟨v3, v4, rfl, h1, h2⟩
      rw [hPv] at pv
      obtain ⟨v3, v4, rfl, sm, hp⟩ := pv
      clear hPv
      obtain ⟨c, gc, tc, rfl, htc⟩ := pget lg gv
      have ic := inr c (List.mem_of_getElem? gc)
      have bc := bnd c.1 ic.1 ic.2
      have kl := keptF_len r lab (L.take i)
      rw [List.take_add_one, gc] at nxt
      simp only [Option.toList_some] at nxt
      rw [keptF_snoc] at nxt
      have gl : (lab.map V.int)[c.1.toNat]? = some (.int (lab.getD c.1.toNat 0)) := by rw [List.getElem?_map, List.getD_eq_getElem?_getD, List.getElem?_eq_getElem (by omega)]; rfl
      walk_at "rd"
      refine ⟨_, SqT.of (sm _ _ htc), rfl, _, _, rfl, _, _, rfl, rfl, ?_⟩
      refine ⟨_, _, rfl, SqL.of (sm _ _ ha), _, at_of (j := c.1.toNat) (by omega) gl, _, _, rfl, hp, (lab.getD c.1.toNat 0).toNat, ixn (by omega) (by omega), ?_⟩
      exact nxt _ _ _ (same_ch sm np) upd_same
    case done =>
      rw [hPv] at pv
      obtain ⟨v3, v4, rfl, sm, hp⟩ := pv
      rw [ul, List.take_length] at hp
      clear hPv
      have kl := keptF_len r lab L
      walk_at "rd"
      refine ⟨_, rfl, a, rfl, ⟨_, SqL.of (sm _ _ ha)⟩, fun q nq => ?_⟩
      obtain ⟨Pw, hPw⟩ : ∃ Pw : Nat → Hp → Prop, Pw = (fun j Hx => Same H2 Hx ∧ Hx q = some (.lst (((wordsC r lab L).map optS).take j))) := ⟨_, rfl⟩
      have wl : ((wordsC r lab L).map optS).length = r := by unfold wordsC; rw [List.length_map, List.length_map, rg_len]
      refine lc_list (K := K) (a := a) (xs := lab.map V.int) Pw (by rw [hPw]; exact ⟨same_upd nq, by rw [upd_same]; rfl⟩) (fun i Hx _ pv => by rw [hPw] at pv; exact SqL.of (pv.1 _ _ (sm _ _ ha))) (fun j v Hx gv pv => ?_) (fun H3 pv => ?_)
      · rw [hPw] at pv
        obtain ⟨sx, hq⟩ := pv
        have jr : j < r := by rw [← al]; exact (List.getElem?_eq_some_iff.mp gv).1
        have gj : (lab.map V.int)[j]? = some (.int (lab.getD j 0)) := by rw [List.getElem?_map, List.getD_eq_getElem?_getD, List.getElem?_eq_getElem (by omega)]; rfl
        have ev := Option.some.inj (gv.symm.trans gj)
        subst ev
        have bj := bnd (j : Int) (by omega) (by omega)
        rw [show (j : Int).toNat = j by omega] at bj
        have kw := kept_word bnd (x := (j : Int)) (by omega) (by omega) L inr
        rw [show (j : Int).toNat = j by omega] at kw
        generalize lab.getD j 0 = z at bj kw ⊢
        have gk : (keptF r lab L)[z.toNat]? = some (optS (wordP L (clsF r lab (j : Int)))) := by
          rw [← kw, List.getD_eq_getElem?_getD, List.getElem?_eq_getElem (by omega)]
          rfl
        simp only [wipe]
        walk_at "rd"
        refine ⟨_, SqL.of (sx _ _ hp), _, at_of (j := z.toNat) (by omega) gk, _, hq, len_big (by rw [List.length_take]; omega), ?_⟩
        rw [hPw]
        refine ⟨same_ch sx nq, ?_⟩
        rw [upd_same, List.take_add_one]
        congr 3
        unfold wordsC rg
        rw [List.getElem?_map, List.getElem?_map, List.getElem?_map, List.getElem?_range jr]
        rfl
      · rw [hPw] at pv
        obtain ⟨sx, hq⟩ := pv
        rw [al, List.take_of_length_le (by omega)] at hq
        exact ret q H3 (sm.trans sx) hq
end

abbrev sHal : Stmt := topS 39
/-! ### all openings leave the same words exactly if no path parts the logs -/
theorem Drs.rng {r : Nat} {D O : List Pr} (drs : Drs r D) (sub : ∀ d ∈ O, d ∈ D) : ∀ d ∈ O, (0 ≤ d.1 ∧ d.1 < (r : Int)) ∧ 0 ≤ d.2 ∧ d.2 < (r : Int) := fun d hd => by
  have := drs.ok d (sub d hd)
  exact ⟨⟨by omega, by omega⟩, by omega, by omega⟩
theorem mem_cls {r : Nat} {O : List Pr} (ok : ∀ d ∈ O, (0 ≤ d.1 ∧ d.1 < (r : Int)) ∧ 0 ≤ d.2 ∧ d.2 < (r : Int)) {x y : Int} (h0 : 0 ≤ x) (h1 : x < r) : y ∈ clsF r (labF r O) x ↔ Rch O (rg r) x y := by
  unfold clsF
  rw [List.mem_filter, decide_eq_true_iff]
  constructor
  · rintro ⟨m, e⟩
    have b := rg_mem m
    exact ((labX_rch ok y x b.1 b.2 h0 h1).mp e).symm
  · intro h
    have b := rg_mem h.mem
    exact ⟨h.mem, (labX_rch ok y x b.1 b.2 h0 h1).mpr h.symm⟩
theorem wordP_congr {R S : List Int} (h : ∀ x, x ∈ R ↔ x ∈ S) (L : List Cl) : wordP L R = wordP L S := by
  unfold wordP
  rw [lastIn_congr h]
theorem Rch.into {O : List Pr} {R S : List Int} {s y : Int} (h : Rch O R s y) (c : ∀ z, Rch O R s z → z ∈ S) : Rch O S s y := by
  induction h with
  | base m => exact .base (c _ (.base m))
  | step k a m ih => exact .step ih a (c _ (.step k a m))
theorem Rch.pth {O : List Pr} {R : List Int} {s y : Int} (h : Rch O R s y) : ∃ p, Pth O R s y p := by
  induction h with
  | base m => exact ⟨_, .base m⟩
  | step _ a m ih =>
    obtain ⟨p, hp⟩ := ih
    exact ⟨_, .step hp a m⟩
theorem Pth.to {O D : List Pr} {R S : List Int} {s y : Int} {p : List Int} (h : Pth O R s y p) (a : ∀ d ∈ O, d ∈ D) (b : ∀ x ∈ R, x ∈ S) : Pth D S s y p := by
  induction h with
  | base m => exact .base (b _ m)
  | step _ ad m ih => exact .step ih (ad.elim (fun z => .inl (a _ z)) fun z => .inr (a _ z)) (b _ m)
theorem chn_rch {D O : List Pr} {ps : List Int} {r : Nat} (inr : ∀ x ∈ ps, 0 ≤ x ∧ x < (r : Int)) (ch : Chn D ps) (hO : ∀ a b, Adj D a b → a ∈ ps → b ∈ ps → Adj O a b) : ∀ i, i < ps.length → Rch O (rg r) (ps.getD 0 0) (ps.getD i 0)
  | 0, h => by
    have m : ps.getD 0 0 ∈ ps := by rw [List.getD_eq_getElem?_getD, List.getElem?_eq_getElem h]; exact List.getElem_mem h
    exact .base (mem_rg (inr _ m).1 (inr _ m).2)
  | i + 1, h => by
    have m0 : ps.getD i 0 ∈ ps := by rw [List.getD_eq_getElem?_getD, List.getElem?_eq_getElem (by omega)]; exact List.getElem_mem _
    have m1 : ps.getD (i + 1) 0 ∈ ps := by rw [List.getD_eq_getElem?_getD, List.getElem?_eq_getElem h]; exact List.getElem_mem h
    exact .step (chn_rch inr ch hO i (by omega)) (hO _ _ (ch i h) m0 m1) (mem_rg (inr _ m1).1 (inr _ m1).2)
theorem prt_exists {r : Nat} {D O : List Pr} {A B : List Cl} (sub : ∀ d ∈ O, d ∈ D) (iA : InR r A) (iB : InR r B) {S : List Int} {x : Int} (hS : ∀ y, y ∈ S ↔ Rch O (rg r) x y) (ne : wordP A S ≠ wordP B S) : ∃ q, (∀ x ∈ q, 0 ≤ x ∧ x < (r : Int)) ∧ Prt D A B q := by
  by_cases c : ∃ k : Nat, k < r ∧ wordL A k ≠ wordL B k
  · obtain ⟨k, hk, hne⟩ := c
    exact ⟨[(k : Int)], fun x hx => by rw [List.mem_singleton.mp hx]; exact ⟨by omega, by omega⟩, ⟨by simp, by simp, fun i hi => absurd hi (by show ¬ i + 1 < 1; omega)⟩, hne⟩
  have eq : ∀ k : Nat, k < r → wordL A k = wordL B k := fun k hk => Classical.byContradiction fun z => c ⟨k, hk, z⟩
  obtain ⟨a, b, hc, ha, hb, top⟩ := comp_cross (rs := A.map (·.1)) iA iB (fun _ => Iff.rfl) eq ne
  have rab : Rch O (rg r) a b := ((hS a).mp ha).symm.trans ((hS b).mp hb)
  have inH : ∀ z, Rch O (rg r) a z → z ∈ hallF r A B a b := fun z hz => by
    have hz2 : z ∈ S := (hS z).mpr (((hS a).mp ha).trans hz)
    refine List.mem_filter.mpr ⟨hz.mem, ?_⟩
    rw [Bool.and_eq_true, decide_eq_true_iff, decide_eq_true_iff]
    exact top z hz2
  obtain ⟨p, hp⟩ := (rab.into inH).pth
  obtain ⟨q, hq, _⟩ := Lst.ex (fun z hz => (rg_mem (List.mem_filter.mp hz).1).1) (hp.to sub fun _ h => h)
  have hrs : ∀ x ∈ A.map (·.1), 0 ≤ x ∧ x < (r : Int) := fun x hx => by
    obtain ⟨c', hc', rfl⟩ := List.mem_map.mp hx
    exact iA c' hc'
  exact ⟨q, fun x hx => rg_mem (List.mem_filter.mp (hq.1.inR x hx)).1, part_of hc hrs eq (.inl hq)⟩
theorem heard_iff {r : Nat} {D : List Pr} {A B : List Cl} (drs : Drs r D) (iA : InR r A) (iB : InR r B) : (∀ O ∈ subsF D, wordsC r (labF r O) A = wordsC r (labF r O) B) ↔ NoP r D A B := by
  constructor
  · intro h q inr hp
    let O := D.filter fun d => decide (d.1 ∈ q) && decide (d.2 ∈ q)
    have hO : O ∈ subsF D := subsF_filter D _
    have sub : ∀ d ∈ O, d ∈ D := subsF_sub D O hO
    have ok := drs.rng sub
    obtain ⟨h1, h2, h3⟩ := hp.1
    have l1 := List.length_pos_iff.mpr h1
    have adj : ∀ a b, Adj D a b → a ∈ q → b ∈ q → Adj O a b := fun a b ad ma mb => by
      rcases ad with z | z
      · exact .inl (List.mem_filter.mpr ⟨z, by simp [ma, mb]⟩)
      · exact .inr (List.mem_filter.mpr ⟨z, by simp [ma, mb]⟩)
    have m0 : q.getD 0 0 ∈ q := by rw [List.getD_eq_getElem?_getD, List.getElem?_eq_getElem l1]; exact List.getElem_mem l1
    have b0 := inr _ m0
    have cls : ∀ y, y ∈ clsF r (labF r O) (q.getD 0 0) ↔ y ∈ q := fun y => by
      rw [mem_cls ok b0.1 b0.2]
      constructor
      · intro k
        induction k with
        | base _ => exact m0
        | step _ a _ ih =>
          rcases a with z | z
          · have := (List.mem_filter.mp z).2
            rw [Bool.and_eq_true, decide_eq_true_iff, decide_eq_true_iff] at this
            exact this.2
          · have := (List.mem_filter.mp z).2
            rw [Bool.and_eq_true, decide_eq_true_iff, decide_eq_true_iff] at this
            exact this.1
      · intro m
        obtain ⟨i, hi, e⟩ := mem_at m
        have := chn_rch inr h3 adj i hi
        rw [e] at this
        exact this
    have e := h O hO
    unfold wordsC at e
    have e2 := List.map_inj_left.mp e (q.getD 0 0) (mem_rg b0.1 b0.2)
    rw [wordP_congr cls, wordP_congr cls] at e2
    exact hp.2 e2
  · intro h O hO
    have sub := subsF_sub D O hO
    have ok := drs.rng sub
    unfold wordsC
    refine List.map_congr_left fun x hx => Classical.byContradiction fun ne => ?_
    have b := rg_mem hx
    obtain ⟨q, h1, h2⟩ := prt_exists (D := D) sub iA iB (fun y => mem_cls ok b.1 b.2) ne
    exact h q h1 h2
/-! ### words as data -/
def optD (o : Option Str) : PyData := match o with
  | none => .none
  | some s => .str s
theorem optD_eqv (a b : Option Str) : PyData.eqv (optD a) (optD b) = decide (a = b) := by
  cases a with
  | none => cases b <;> rfl
  | some a =>
    cases b with
    | none => rfl
    | some b =>
      show (a == b) = decide (some a = some b)
      by_cases h : a = b
      · subst h
        simp
      · have : ¬ (some a = some b) := fun z => h (Option.some.inj z)
        rw [decide_eq_false this]
        exact beq_eq_false_iff_ne.mpr h
theorem optD_eqvAll : ∀ as bs : List (Option Str), PyData.eqvAll (as.map optD) (bs.map optD) = decide (as = bs)
  | [], [] => rfl
  | [], _ :: _ => rfl
  | _ :: _, [] => rfl
  | a :: as, b :: bs => by
    show (PyData.eqv (optD a) (optD b) && PyData.eqvAll (as.map optD) (bs.map optD)) = _
    rw [optD_eqv, optD_eqvAll as bs]
    by_cases h1 : a = b
    · by_cases h2 : as = bs
      · simp [h1, h2]
      · simp [h1, h2]
    · simp [h1]
theorem optD_shaped (as : List (Option Str)) (ok : ∀ z, some z ∈ as → PyData.strOk z = true) : SeqAt.shaped (.list (as.map optD)) = true := by
  have h1 : PyData.depthAll (as.map optD) = 0 := by
    clear ok
    induction as with
    | nil => rfl
    | cons a l ih =>
      show max (PyData.depth (optD a)) (PyData.depthAll (l.map optD)) = 0
      rw [ih]
      cases a <;> rfl
  have h2 : PyData.canLayAll0 (as.map optD) = true := by
    clear h1
    induction as with
    | nil => rfl
    | cons a l ih =>
      show (PyData.canLay0 (optD a) && PyData.canLayAll0 (l.map optD)) = true
      rw [ih fun z hz => ok z (List.mem_cons_of_mem _ hz), Bool.and_true]
      cases a with
      | none => rfl
      | some z => exact ok z List.mem_cons_self
  show (PyData.canLayAll0 (as.map optD) && decide (PyData.depthAll (as.map optD) + 1 ≤ 64)) = true
  rw [h1, h2]
  decide
theorem wordP_ok {L : List Cl} (ok : ∀ c ∈ L, wk 16 c.2) {R : List Int} {z : Str} (h : wordP L R = some z) : PyData.strOk z = true := by
  unfold wordP at h
  cases e : lastIn R L with
  | none => rw [e] at h; cases h
  | some c =>
    rw [e] at h
    cases h
    exact (ok c (List.mem_reverse.mp (List.mem_of_find?_eq_some e))).2
theorem wordsC_ok {r : Nat} {lab : List Int} {L : List Cl} (ok : ∀ c ∈ L, wk 16 c.2) : ∀ z, some z ∈ wordsC r lab L → PyData.strOk z = true := fun z hz => by
  obtain ⟨x, _, e⟩ := List.mem_map.mp hz
  exact wordP_ok ok e
theorem dp_opts {K : PySem.W.Frag} {H : Hp} : ∀ as : List (Option Str), DpAll K H (as.map optS) (as.map optD)
  | [] => .nil
  | none :: l => .cons .non (dp_opts l)
  | some s :: l => .cons (.str s) (dp_opts l)
section
variable {P : Program} {w : World} {K : PySem.W.Frag} {mg : Str → Option Value} {base : Heap}
theorem scHal : FnScope ["doors", "rooms", "first", "second", "opening", "areas"] ["doors", "rooms", "first", "second"] (defScope sHal) := ⟨rfl, rfl, rfl, by decide +kernel, rfl, by decide +kernel, by decide +kernel⟩
def spHal : Sp := fun vs H Q _ => ∃ (l a b : Addr) (us ws vs' : List V) (D : List Pr) (A B : List Cl) (r : Nat), vs = [.ref l, .int r, .ref a, .ref b] ∧ H l = some (.lst us) ∧ PL H us D ∧ Drs r D ∧ r ≤ 12 ∧ D.length ≤ 10 ∧ H a = some (.lst ws) ∧ LG H ws A ∧ InR r A ∧ (∀ c ∈ A, wk 16 c.2) ∧ H b = some (.lst vs') ∧ LG H vs' B ∧ InR r B ∧ (∀ c ∈ B, wk 16 c.2) ∧
  ∀ (k : Bool) (H' : Hp), Same H H' → (k = true ↔ NoP r D A B) → Q (.bl k) H'
theorem ok_hal {f f1 f2 f3 : Addr} {fd fd1 fd2 fd3 : FuncData} (F : Fun K "_law_heard_alike" "_law_heard_alike" sHal f fd) (d__law_openings : Df P w K mg base "_law_openings" ["doors"] 1 spOps f1 fd1) (d__law_areas : Df P w K mg base "_law_areas" ["rooms", "opening"] 1 spAre f2 fd2) (d__law_words_kept : Df P w K mg base "_law_words_kept" ["areas", "log"] 1 spWke f3 fd3) : FnOk P w K mg base CX0 2 f fd ["doors", "rooms", "first", "second"] spHal := by
  refine F.ok scHal (fun vs H Q E h => ?_) (fun cdv A0 outer s0 H vs Q E hr h => ?_)
  · obtain ⟨l, a, b, us, ws, vs', D, A, B, r, rfl, _⟩ := h
    rfl
  · obtain ⟨l, a, b, us, ws, vs', D, A, B, r, rfl, hl, pl, drs, r12, d10, ha, la, iA, wA, hb, lb, iB, wB, ret⟩ := h
    refine ⟨_, (pss_cons (ps_for PassesOwn.never rfl (pi_list (pe_call d__law_openings.ok (hr.mono (by decide)) (by rfl) d__law_openings.at_ d__law_openings.kp d__law_openings.b .nil pass0 (pa_cons (pv 0) pa_nil))) (pg_name (i := 4) scHal.nd rfl (Or.inl rfl))
      (pss_cons (ps_set (i := 5) scHal.nd rfl (Or.inl rfl) (pe_call d__law_areas.ok (hr.mono (by decide)) (by rfl) d__law_areas.at_ d__law_areas.kp d__law_areas.b .nil pass0 (pa_cons (pv 1) (pa_cons (pv 4) pa_nil))))
        (pss_one (ps_if (pt_cmpR (op_neD hr.units) (pe_call d__law_words_kept.ok (hr.mono (by decide)) (by rfl) d__law_words_kept.at_ d__law_words_kept.kp d__law_words_kept.b .nil pass0 (pa_cons (pv 5) (pa_cons (pv 2) pa_nil))) (pe_call d__law_words_kept.ok (hr.mono (by decide)) (by rfl) d__law_words_kept.at_ d__law_words_kept.kp d__law_words_kept.b .nil pass0 (pa_cons (pv 5) (pa_cons (pv 3) pa_nil))) (nomark _))
        (pss_one (ps_ret pe_bl))
        pss_nil))))
      (pss_one (ps_ret pe_bl))), ?_⟩
    walk_at "rd"
    refine for_iterW ?_
    walk_at "rd"
    refine ⟨l, us, D, rfl, hl, pl, d10, fun t zs H1 s1 ht ol => ?_⟩
    walk_at "rd"
    have zl : zs.length = (subsF D).length := Paired.length ol
    obtain ⟨Pv, hPv⟩ : ∃ Pv : Nat → L2.St → Hp → Prop, Pv = (fun i σ H' => ∃ v4 v5 : Option V, σ = [some (V.ref l), some (V.int ↑r), some (V.ref a), some (V.ref b), v4, v5] ∧ Same H1 H' ∧ ∀ O ∈ (subsF D).take i, wordsC r (labF r O) A = wordsC r (labF r O) B) := ⟨_, rfl⟩
    refine ⟨⟨_, SqL.of ht⟩, ?_⟩
    refine for_list (K := K) (a := t) (xs := zs) Pv (by rw [hPv]; exact ⟨none, none, rfl, Same.refl _, fun O hO => by rw [List.take_zero] at hO; cases hO⟩) (fun i σ H' _ pv => by rw [hPv] at pv; obtain ⟨_, _, _, s9, _⟩ := pv; exact SqL.of (s9 _ _ ht)) (fun i v σ H2 gv pv => ?body) (fun σ H2 pv => ?done)
    case done =>
      rw [hPv] at pv
      obtain ⟨v4, v5, rfl, sm, al⟩ := pv
      rw [zl, List.take_length] at al
      walk_at "rd"
      exact ret true H2 (s1.trans sm) ⟨fun _ => (heard_iff drs iA iB).mp al, fun _ => rfl⟩
    case body =>
      have nxt : ∀ (v4 v5 : Option V) (H' : Hp), Same H1 H' → (∀ O ∈ (subsF D).take (i + 1), wordsC r (labF r O) A = wordsC r (labF r O) B) → Pv (i + 1) [some (V.ref l), some (V.int ↑r), some (V.ref a), some (V.ref b), v4, v5] H' := fun v4 v5 H' h1 h2 => by
        rw [hPv]
        exact ⟨v4, v5, rfl, h1, h2⟩
      rw [hPv] at pv
      obtain ⟨v4, v5, rfl, sm, al⟩ := pv
      clear hPv
      obtain ⟨O, gO, hO⟩ := pget ol gv
      obtain ⟨to, ws', rfl, hto, po⟩ := hO.same sm
      have mO := List.mem_of_getElem? gO
      have ok := drs.rng (subsF_sub D O mO)
      have s12 := s1.trans sm
      have la2 := la.kt (KT.same s12)
      have lb2 := lb.kt (KT.same s12)
      rw [List.take_add_one, gO] at nxt
      walk_at "rd"
      refine ⟨to, ws', O, r, rfl, hto, po, ok, r12, fun p H3 s3 hp => ?_⟩
      have s13 := s12.trans s3
      walk_at "rd"
      refine ⟨p, a, ws, A, r, labF r O, rfl, hp, labF_len r O, r12, labX_bnd ok, s13 _ _ ha, la.kt (KT.same s13), iA, fun q1 H4 s4 hq1 => ?_⟩
      have s14 := s13.trans s4
      refine ⟨p, b, vs', B, r, labF r O, rfl, s4 _ _ hp, labF_len r O, r12, labX_bnd ok, s14 _ _ hb, lb.kt (KT.same s14), iB, fun q2 H5 s5 hq2 => ?_⟩
      refine ⟨.list ((wordsC r (labF r O) A).map optD), .list ((wordsC r (labF r O) B).map optD), .lst (SqL.of (s5 _ _ hq1)) (dp_opts _), .lst (SqL.of hq2) (dp_opts _), optD_shaped _ (wordsC_ok wA), optD_shaped _ (wordsC_ok wB), ?_⟩
      rw [show PyData.eqv (.list ((wordsC r (labF r O) A).map optD)) (.list ((wordsC r (labF r O) B).map optD)) = decide (wordsC r (labF r O) A = wordsC r (labF r O) B) from optD_eqvAll _ _]
      by_cases e : wordsC r (labF r O) A = wordsC r (labF r O) B
      · rw [decide_eq_true e]
        refine ⟨false, rfl, iteF ?_⟩
        refine nxt _ _ _ (sm.trans (s3.trans (s4.trans s5))) fun O' hO' => ?_
        rcases List.mem_append.mp hO' with h | h
        · exact al O' h
        · rw [List.mem_singleton.mp h]
          exact e
      · rw [decide_eq_false e]
        refine ⟨true, rfl, iteT ?_⟩
        refine ret false H5 (s14.trans s5) ⟨(fun z => by cases z), fun z => absurd ((heard_iff drs iA iB).mpr z O mO) e⟩
end

abbrev sAri : Stmt := topS 40
theorem nop_swap {r : Nat} {D : List Pr} {A B : List Cl} : NoP r D A B ↔ NoP r D B A := ⟨fun h q i p => h q i (prt_swap.mp p), fun h q i p => h q i (prt_swap.mp p)⟩
theorem nop_last {r : Nat} {D : List Pr} {A B : List Cl} : NoP r D (lastF A) (lastF B) ↔ NoP r D A B := by
  unfold NoP Prt
  simp only [wordP_last]
theorem nop_same (r : Nat) (D : List Pr) (A : List Cl) : NoP r D A A := fun q _ p => p.2 rfl
section
variable {P : Program} {w : World} {K : PySem.W.Frag} {mg : Str → Option Value} {base : Heap}
theorem scAri : FnScope ["house", "first", "second", "due", "handed", "other"] ["house", "first", "second", "due"] (defScope sAri) := ⟨rfl, rfl, rfl, by decide +kernel, rfl, by decide +kernel, by decide +kernel⟩
def spAri (C : Addr) : Sp := fun vs H Q _ => ∃ (p a b : Addr) (us ws : List V) (A B : List Cl) (r : Nat) (D : List Pr) (own : List Addr) (k : Bool), vs = [.ref p, .ref a, .ref b, .bl k] ∧ HouseAt C H p r D own ∧ H a = some (.lst us) ∧ LG H us A ∧ A.length ≤ 1000 ∧ InR r A ∧ H b = some (.lst ws) ∧ LG H ws B ∧ B.length ≤ 1000 ∧ InR r B ∧ (k = true ↔ NoP r D A B) ∧
  ∀ H', Same H H' → Q (.bl true) H'
theorem ok_ari {f C f1 f2 : Addr} {fd fd1 fd2 : FuncData} (F : Fun K "_law_alike_right" "_law_alike_right" sAri f fd) (T : Bi mg) (d_alike : Df P w K mg base "alike" ["house", "first", "second"] 5 (spAlk C) f1 fd1) (d__law_same : Df P w K mg base "_law_same" ["got", "due"] 3 (spSame 2) f2 fd2) : FnOk P w K mg base CX0 6 f fd ["house", "first", "second", "due"] (spAri C) := by
  refine F.ok scAri (fun vs H Q E h => ?_) (fun cdv A0 outer s0 H vs Q E hr h => ?_)
  · obtain ⟨p, a, b, us, ws, A, B, r, D, own, k, rfl, _⟩ := h
    rfl
  · obtain ⟨p, a, b, us, ws, A, B, r, D, own, k, rfl, hh, ha, la, al, ia, hb, lb, bl, ib, hk, ret⟩ := h
    refine ⟨_, (pss_cons (ps_set (i := 4) scAri.nd rfl (Or.inl rfl) (pe_callTy call_list_of (by rfl) T.list (by decide +kernel) (pa_cons (pv 1) pa_nil)))
      (pss_cons (ps_set (i := 5) scAri.nd rfl (Or.inl rfl) (pe_callTy call_list_of (by rfl) T.list (by decide +kernel) (pa_cons (pv 2) pa_nil)))
      (pss_cons (ps_if (PW.pt (pw_or (pt_not (pt_val (pe_call d__law_same.ok (hr.mono (by decide)) (by rfl) d__law_same.at_ d__law_same.kp d__law_same.b .nil pass0 (pa_cons (pe_call d_alike.ok (hr.mono (by decide)) (by rfl) d_alike.at_ d_alike.kp d_alike.b .nil pass0 (pa_cons (pv 0) (pa_cons (pv 4) (pa_cons (pv 5) pa_nil)))) (pa_cons (pv 3) pa_nil))))) (pw_or1 (pt_not (pt_val (pe_call d__law_same.ok (hr.mono (by decide)) (by rfl) d__law_same.at_ d__law_same.kp d__law_same.b .nil pass0 (pa_cons (pe_call d_alike.ok (hr.mono (by decide)) (by rfl) d_alike.at_ d_alike.kp d_alike.b .nil pass0 (pa_cons (pv 0) (pa_cons (pv 5) (pa_cons (pv 4) pa_nil)))) (pa_cons (pv 3) pa_nil))))))))
      (pss_one (ps_ret pe_bl))
      pss_nil)
      (pss_one (ps_ret (pe_and (pe_call d__law_same.ok (hr.mono (by decide)) (by rfl) d__law_same.at_ d__law_same.kp d__law_same.b .nil pass0 (pa_cons (pv 4) (pa_cons (pv 1) pa_nil))) (pe_one (pe_call d__law_same.ok (hr.mono (by decide)) (by rfl) d__law_same.at_ d__law_same.kp d__law_same.b .nil pass0 (pa_cons (pv 5) (pa_cons (pv 2) pa_nil)))))))))), ?_⟩
    walk_at "rd"
    refine ⟨us, .inl (SqL.of ha), fun c nc => ?_⟩
    have s1 := same_upd (o := HO.lst us) nc
    refine ⟨ws, .inl (SqL.of (s1 _ _ hb)), fun d nd => ?_⟩
    have s2 := s1.trans (same_upd (o := HO.lst ws) nd)
    have hc := same_upd (o := HO.lst ws) nd _ _ (upd_same (H := H) (a := c) (o := HO.lst us))
    have hd := upd_same (H := upd H c (HO.lst us)) (a := d) (o := HO.lst ws)
    generalize upd (upd H c (HO.lst us)) d (HO.lst ws) = H2 at s2 hc hd ⊢
    refine ⟨p, c, d, us, ws, A, B, r, D, own, rfl, hh.same s2, hc, la.kt (KT.same s2), al, ia, hd, lb.kt (KT.same s2), bl, ib, fun k1 H3 s3 e1 => ?_⟩
    rw [show k1 = k from Bool.eq_iff_iff.mpr (e1.trans hk.symm)]
    have s13 := s2.trans s3
    refine same_ok (Sm.flat rfl) ⟨true, rfl, ?_⟩
    rw [if_neg (by decide)]
    refine ⟨p, d, c, ws, us, B, A, r, D, own, rfl, hh.same s13, s3 _ _ hd, lb.kt (KT.same s13), bl, ib, s3 _ _ hc, la.kt (KT.same s13), al, ia, fun k2 H4 s4 e2 => ?_⟩
    rw [show k2 = k from Bool.eq_iff_iff.mpr (e2.trans (nop_swap.trans hk.symm))]
    have s14 := s13.trans s4
    refine same_ok (Sm.flat rfl) ⟨true, rfl, ?_⟩
    rw [if_neg (by decide)]
    refine same_ok (sm_logs ((s3.trans s4) _ _ hc) (s14 _ _ ha) (la.kt (KT.same s14)) (la.kt (KT.same s14)) (by omega) 0) ⟨true, rfl, iteT ?_⟩
    exact same_ok (sm_logs ((s3.trans s4) _ _ hd) (s14 _ _ hb) (lb.kt (KT.same s14)) (lb.kt (KT.same s14)) (by omega) 0) (ret H4 s14)
end

abbrev sLaw : Stmt := topS 41
theorem early_word {A : List Cl} : ∀ {L0 : List Cl}, (∀ d ∈ L0, d.1 ∈ A.map (·.1)) → ∀ ps, wordP (L0 ++ A) ps = wordP A ps
  | [], _, _ => rfl
  | c :: L0, h, ps => by
    have ih := early_word (A := A) (L0 := L0) (fun d hd => h d (List.mem_cons_of_mem _ hd)) ps
    have hc := h c List.mem_cons_self
    show wordP (c :: (L0 ++ A)) ps = _
    rw [← ih]
    unfold wordP
    rw [lastIn_cons]
    cases e : lastIn ps (L0 ++ A) with
    | some d => rfl
    | none =>
      have n := lastIn_none.mp e
      obtain ⟨d, hd, ed⟩ := List.mem_map.mp hc
      have := n d (List.mem_append_right _ hd)
      rw [ed] at this
      simp only [if_neg this]
section
variable {P : Program} {w : World} {K : PySem.W.Frag} {mg : Str → Option Value} {base : Heap}
theorem scLaw : FnScope ["script", "n", "w", "rooms", "doors", "pool", "many", "first", "free", "second", "last", "due", "alone", "house", "bare", "asked", "wanted", "earlier", "one", "other", "call"] ["script"] (defScope sLaw) := ⟨rfl, rfl, rfl, by decide +kernel, rfl, by decide +kernel, by decide +kernel⟩
def spLaw (K : PySem.W.Frag) : Sp := fun vs H Q _ => ∃ (a : Addr) (ns : List Int), vs = [.ref a] ∧ SqL K H a (ns.map V.int) ∧ ns.length ≤ 63 ∧ ∀ H', Q (.bl true) H'
set_option maxHeartbeats 4000000 in
theorem ok_law {f C fi fm f1 f2 f3 f4 f5 f6 f7 f8 f9 fa fb fc fe : Addr} {fd fdi fdm fd1 fd2 fd3 fd4 fd5 fd6 fd7 fd8 fd9 fda fdb fdc fde : FuncData} (F : Fun K "law" "law" sLaw f fd) (T : Bi mg) (U : Hs K mg C) (M : Mk K C fi) (Gi : FnOk P w K mg base CX0 2 fi fdi ["self", "rooms", "doors"] (spHinit C)) (bi : Binds K fdi ["self", "rooms", "doors"] [])
    (m_doors : Md P w K mg base C "doors" ["self"] 1 (spHdoors C) fm fdm)
    (d__law_cell : Df P w K mg base "_law_cell" ["script", "k"] 1 (spCell K) f1 fd1) (d__law_numbers : Df P w K mg base "_law_numbers" ["cell", "count"] 1 (spNum K) f2 fd2) (d__law_doors : Df P w K mg base "_law_doors" ["numbers", "rooms"] 2 (spDrs K) f3 fd3)
    (d__law_pool : Df P w K mg base "_law_pool" ["numbers", "at", "many"] 2 (spPool K) f4 fd4) (d__law_size : Df P w K mg base "_law_size" ["number", "few", "most"] 1 spSize f5 fd5) (d__law_drawn : Df P w K mg base "_law_drawn" ["numbers", "many", "rooms", "pool"] 2 (spDrawn K) f6 fd6)
    (d__law_other : Df P w K mg base "_law_other" ["numbers", "log", "free", "rooms", "pool"] 2 (spLot K) f7 fd7) (d__law_last : Df P w K mg base "_law_last" ["log"] 1 spLast f8 fd8) (d__law_fewer : Df P w K mg base "_law_fewer" ["doors", "most", "number"] 1 (spFew K) f9 fd9)
    (d__law_heard_alike : Df P w K mg base "_law_heard_alike" ["doors", "rooms", "first", "second"] 2 spHal fa fda) (d__law_alike_right : Df P w K mg base "_law_alike_right" ["house", "first", "second", "due"] 6 (spAri C) fb fdb) (d_alike : Df P w K mg base "alike" ["house", "first", "second"] 5 (spAlk C) fc fdc) (d__law_same : Df P w K mg base "_law_same" ["got", "due"] 3 (spSame 2) fe fde) : FnOk P w K mg base CX0 7 f fd ["script"] (spLaw K) := by
  refine F.ok scLaw (fun vs H Q E h => ?_) (fun cdv A outer s H vs Q E hr h => ?_)
  · obtain ⟨a, ns, rfl, _⟩ := h
    rfl
  · obtain ⟨a, ss, rfl, hS, _, qfin⟩ := h
    refine ⟨_, (pss_cons (ps_set (i := 1) scLaw.nd rfl (Or.inl rfl) (pe_call d__law_numbers.ok (hr.mono (by decide)) (by rfl) d__law_numbers.at_ d__law_numbers.kp d__law_numbers.b .nil pass0 (pa_cons (pe_call d__law_cell.ok (hr.mono (by decide)) (by rfl) d__law_cell.at_ d__law_cell.kp d__law_cell.b .nil pass0 (pa_cons (pv 0) (pa_cons pe_int pa_nil))) (pa_cons pe_int pa_nil))))
      (pss_cons (ps_set (i := 2) scLaw.nd rfl (Or.inl rfl) (pe_call d__law_numbers.ok (hr.mono (by decide)) (by rfl) d__law_numbers.at_ d__law_numbers.kp d__law_numbers.b .nil pass0 (pa_cons (pe_call d__law_cell.ok (hr.mono (by decide)) (by rfl) d__law_cell.at_ d__law_cell.kp d__law_cell.b .nil pass0 (pa_cons (pv 0) (pa_cons pe_int pa_nil))) (pa_cons pe_int pa_nil))))
      (pss_cons (ps_set (i := 3) scLaw.nd rfl (Or.inl rfl) (pe_op op_add pe_int (pe_op op_mod (pe_callTy cr_intI (by rfl) T.int (by decide +kernel) (pa_cons (pe_op op_fdiv (pe_ix ix_list (pv 1) pe_int (fun _ _ => rfl)) pe_int) pa_nil)) pe_int)))
      (pss_cons (ps_if (pt_cmpR op_eqI (pe_op op_mod (pe_callTy cr_intI (by rfl) T.int (by decide +kernel) (pa_cons (pe_ix ix_list (pv 2) pe_int (fun _ _ => rfl)) pa_nil)) pe_int) pe_int (nomark _))
      (pss_one (ps_set (i := 3) scLaw.nd rfl (Or.inl rfl) (pe_op op_add pe_int (pe_op op_mod (pe_callTy cr_intI (by rfl) T.int (by decide +kernel) (pa_cons (pe_op op_fdiv (pe_ix ix_list (pv 1) pe_int (fun _ _ => rfl)) pe_int) pa_nil)) pe_int))))
      pss_nil)
      (pss_cons (ps_set (i := 4) scLaw.nd rfl (Or.inl rfl) (pe_call d__law_fewer.ok (hr.mono (by decide)) (by rfl) d__law_fewer.at_ d__law_fewer.kp d__law_fewer.b .nil pass0 (pa_cons (pe_call d__law_doors.ok (hr.mono (by decide)) (by rfl) d__law_doors.at_ d__law_doors.kp d__law_doors.b .nil pass0 (pa_cons (pv 1) (pa_cons (pv 3) pa_nil))) (pa_cons (pe_ix ix_list (pe_lst (pa_cons pe_int (pa_cons pe_int (pa_cons pe_int (pa_cons pe_int (pa_cons pe_int (pa_cons pe_int (pa_cons pe_int (pa_cons pe_int pa_nil))))))))) (pe_op op_mod (pe_callTy cr_intI (by rfl) T.int (by decide +kernel) (pa_cons (pe_ix ix_list (pv 2) pe_int (fun _ _ => rfl)) pa_nil)) pe_int) (fun _ _ => rfl)) (pa_cons (pe_ix ix_list (pv 2) pe_int (fun _ _ => rfl)) pa_nil)))))
      (pss_cons (ps_set (i := 5) scLaw.nd rfl (Or.inr rfl) (pe_call d__law_pool.ok (hr.mono (by decide)) (by rfl) d__law_pool.at_ d__law_pool.kp d__law_pool.b .nil pass0 (pa_cons (pv 2) (pa_cons pe_int (pa_cons (pe_ix ix_list (pe_lst (pa_cons pe_int (pa_cons pe_int (pa_cons pe_int (pa_cons pe_int (pa_cons pe_int (pa_cons pe_int (pa_cons pe_int (pa_cons pe_int pa_nil))))))))) (pe_op op_mod (pe_callTy cr_intI (by rfl) T.int (by decide +kernel) (pa_cons (pe_ix ix_list (pv 2) pe_int (fun _ _ => rfl)) pa_nil)) pe_int) (fun _ _ => rfl)) pa_nil)))))
      (pss_cons (ps_set (i := 6) scLaw.nd rfl (Or.inl rfl) (pe_call d__law_size.ok (hr.mono (by decide)) (by rfl) d__law_size.at_ d__law_size.kp d__law_size.b .nil pass0 (pa_cons (pe_ix ix_list (pv 2) pe_int (fun _ _ => rfl)) (pa_cons pe_int (pa_cons pe_int pa_nil)))))
      (pss_cons (ps_set (i := 7) scLaw.nd rfl (Or.inl rfl) (pe_call d__law_drawn.ok (hr.mono (by decide)) (by rfl) d__law_drawn.at_ d__law_drawn.kp d__law_drawn.b .nil pass0 (pa_cons (pe_call d__law_numbers.ok (hr.mono (by decide)) (by rfl) d__law_numbers.at_ d__law_numbers.kp d__law_numbers.b .nil pass0 (pa_cons (pe_call d__law_cell.ok (hr.mono (by decide)) (by rfl) d__law_cell.at_ d__law_cell.kp d__law_cell.b .nil pass0 (pa_cons (pv 0) (pa_cons pe_int pa_nil))) (pa_cons (pe_op op_mul pe_int (pv 6)) pa_nil))) (pa_cons (pv 6) (pa_cons (pv 3) (pa_cons (pv 5) pa_nil))))))
      (pss_cons (ps_set (i := 6) scLaw.nd rfl (Or.inl rfl) (pe_call d__law_size.ok (hr.mono (by decide)) (by rfl) d__law_size.at_ d__law_size.kp d__law_size.b .nil pass0 (pa_cons (pe_ix ix_list (pv 2) pe_int (fun _ _ => rfl)) (pa_cons pe_int (pa_cons pe_int pa_nil)))))
      (pss_cons (ps_set (i := 8) scLaw.nd rfl (Or.inl rfl) (pe_call d__law_drawn.ok (hr.mono (by decide)) (by rfl) d__law_drawn.at_ d__law_drawn.kp d__law_drawn.b .nil pass0 (pa_cons (pe_call d__law_numbers.ok (hr.mono (by decide)) (by rfl) d__law_numbers.at_ d__law_numbers.kp d__law_numbers.b .nil pass0 (pa_cons (pe_call d__law_cell.ok (hr.mono (by decide)) (by rfl) d__law_cell.at_ d__law_cell.kp d__law_cell.b .nil pass0 (pa_cons (pv 0) (pa_cons pe_int pa_nil))) (pa_cons (pe_op op_mul pe_int (pv 6)) pa_nil))) (pa_cons (pv 6) (pa_cons (pv 3) (pa_cons (pv 5) pa_nil))))))
      (pss_cons (ps_set (i := 9) scLaw.nd rfl (Or.inl rfl) (pe_call d__law_other.ok (hr.mono (by decide)) (by rfl) d__law_other.at_ d__law_other.kp d__law_other.b .nil pass0 (pa_cons (pe_call d__law_numbers.ok (hr.mono (by decide)) (by rfl) d__law_numbers.at_ d__law_numbers.kp d__law_numbers.b .nil pass0 (pa_cons (pe_call d__law_cell.ok (hr.mono (by decide)) (by rfl) d__law_cell.at_ d__law_cell.kp d__law_cell.b .nil pass0 (pa_cons (pv 0) (pa_cons pe_int pa_nil))) (pa_cons pe_int pa_nil))) (pa_cons (pv 7) (pa_cons (pv 8) (pa_cons (pv 3) (pa_cons (pv 5) pa_nil)))))))
      (pss_cons (ps_set (i := 10) scLaw.nd rfl (Or.inl rfl) (pe_lst (pa_cons (pe_call d__law_last.ok (hr.mono (by decide)) (by rfl) d__law_last.at_ d__law_last.kp d__law_last.b .nil pass0 (pa_cons (pv 7) pa_nil)) (pa_cons (pe_call d__law_last.ok (hr.mono (by decide)) (by rfl) d__law_last.at_ d__law_last.kp d__law_last.b .nil pass0 (pa_cons (pv 9) pa_nil)) pa_nil))))
      (pss_cons (ps_set (i := 11) scLaw.nd rfl (Or.inl rfl) (pe_call d__law_heard_alike.ok (hr.mono (by decide)) (by rfl) d__law_heard_alike.at_ d__law_heard_alike.kp d__law_heard_alike.b .nil pass0 (pa_cons (pv 4) (pa_cons (pv 3) (pa_cons (pe_ix ix_list (pv 10) pe_int (fun _ _ => rfl)) (pa_cons (pe_ix ix_list (pv 10) pe_int (fun _ _ => rfl)) pa_nil))))))
      (pss_cons (ps_set (i := 12) scLaw.nd rfl (Or.inl rfl) (pe_call d__law_heard_alike.ok (hr.mono (by decide)) (by rfl) d__law_heard_alike.at_ d__law_heard_alike.kp d__law_heard_alike.b .nil pass0 (pa_cons (pe_lst pa_nil) (pa_cons (pv 3) (pa_cons (pe_ix ix_list (pv 10) pe_int (fun _ _ => rfl)) (pa_cons (pe_ix ix_list (pv 10) pe_int (fun _ _ => rfl)) pa_nil))))))
      (pss_cons (ps_set (i := 13) scLaw.nd rfl (Or.inl rfl) (pe_make M Gi (hr.mono (by decide)) (by rfl) U.mgC bi .nil pass0 (pa_cons (pv 3) (pa_cons (pe_callTy call_list_of (by rfl) T.list (by decide +kernel) (pa_cons (pv 4) pa_nil)) pa_nil))))
      (pss_cons (ps_set (i := 14) scLaw.nd rfl (Or.inl rfl) (pe_make M Gi (hr.mono (by decide)) (by rfl) U.mgC bi .nil pass0 (pa_cons (pv 3) (pa_cons (pe_lst pa_nil) pa_nil))))
      (pss_cons (ps_for PassesOwn.never rfl (pi_tup (pe_tup (pa_cons (pe_tup (pa_cons (pv 13) (pa_cons (pv 11) pa_nil))) (pa_cons (pe_tup (pa_cons (pv 14) (pa_cons (pv 12) pa_nil))) (pa_cons (pe_tup (pa_cons (pv 13) (pa_cons (pv 11) pa_nil))) pa_nil))))) (pg_tup rfl (pgs_cons (pg_name (i := 15) scLaw.nd rfl (Or.inl rfl)) (pgs_cons (pg_name (i := 16) scLaw.nd rfl (Or.inl rfl)) pgs_nil)))
      (pss_one (ps_if (pt_not (pt_val (pe_call d__law_alike_right.ok (hr.mono (by decide)) (by rfl) d__law_alike_right.at_ d__law_alike_right.kp d__law_alike_right.b .nil pass0 (pa_cons (pv 15) (pa_cons (pv 7) (pa_cons (pv 9) (pa_cons (pv 16) pa_nil)))))))
        (pss_one (ps_ret pe_bl))
        pss_nil)))
      (pss_cons (ps_set (i := 17) scLaw.nd rfl (Or.inl rfl) (pe_op op_cat (pe_lc (own := [("call", 20)]) (te := tTup (tCons (tOp (rIxT K) (tVar 20) (tC (V.int 0))) (tCons (tOp (rIxL K) (tVar 5) (tUn (rU fun i => V.int (-i)) (tC (V.int 1)))) tNil))) (by rfl) scLaw.nd (pi_list (pe_slice sl_list (pv 7) po_none (po_some pe_int))) (blkOk_by (N := ["script", "n", "w", "rooms", "doors", "pool", "many", "first", "free", "second", "last", "due", "alone", "house", "bare", "asked", "wanted", "earlier", "one", "other", "call"]) (sc := defScope sLaw) (by decide +kernel)) (fun _ _ _ _ _ => pg_name (i := 20) scLaw.nd rfl (Or.inl rfl)) (fun _ _ _ _ _ => pts_nil) (fun _ _ _ _ _ => (pe_tup (pa_cons (pe_ix ix_tup (pv 20) pe_int (fun _ _ => rfl)) (pa_cons (pe_ix ix_list (pv 5) (pe_un un_neg pe_int) (fun _ _ => rfl)) pa_nil))))) (pv 7)))
      (pss_cons (ps_if (pt_not (pt_val (pe_call d__law_alike_right.ok (hr.mono (by decide)) (by rfl) d__law_alike_right.at_ d__law_alike_right.kp d__law_alike_right.b .nil pass0 (pa_cons (pv 13) (pa_cons (pv 17) (pa_cons (pv 9) (pa_cons (pv 11) pa_nil)))))))
      (pss_one (ps_ret pe_bl))
      pss_nil)
      (pss_cons (ps_for PassesOwn.never rfl (pi_tup (pe_tup (pa_cons (pe_tup (pa_cons (pv 7) (pa_cons (pv 17) pa_nil))) (pa_cons (pe_tup (pa_cons (pv 9) (pa_cons (pe_ix ix_list (pv 10) pe_int (fun _ _ => rfl)) pa_nil))) (pa_cons (pe_tup (pa_cons (pv 7) (pa_cons (pv 7) pa_nil))) pa_nil))))) (pg_tup rfl (pgs_cons (pg_name (i := 18) scLaw.nd rfl (Or.inl rfl)) (pgs_cons (pg_name (i := 19) scLaw.nd rfl (Or.inl rfl)) pgs_nil)))
      (pss_one (ps_if (pt_not (pt_val (pe_call d__law_same.ok (hr.mono (by decide)) (by rfl) d__law_same.at_ d__law_same.kp d__law_same.b .nil pass0 (pa_cons (pe_call d_alike.ok (hr.mono (by decide)) (by rfl) d_alike.at_ d_alike.kp d_alike.b .nil pass0 (pa_cons (pv 13) (pa_cons (pe_callTy call_list_of (by rfl) T.list (by decide +kernel) (pa_cons (pv 18) pa_nil)) (pa_cons (pe_callTy call_list_of (by rfl) T.list (by decide +kernel) (pa_cons (pv 19) pa_nil)) pa_nil)))) (pa_cons pe_bl pa_nil)))))
        (pss_one (ps_ret pe_bl))
        pss_nil)))
      (pss_one (ps_ret (pe_call d__law_same.ok (hr.mono (by decide)) (by rfl) d__law_same.at_ d__law_same.kp d__law_same.b .nil pass0 (pa_cons (pe_meth0 (pv 13) U.cl m_doors.m m_doors.ok (hr.mono (by decide)) m_doors.b .nil pass0) (pa_cons (pv 4) pa_nil))))))))))))))))))))))))), ?_⟩
    walk_at "rd"
    refine ⟨a, ss, 0, rfl, hS, fun c0 _ => ⟨c0, 79, rfl, by decide, fun nl ln H1 N1 s1 fn1 hln => ?_⟩⟩
    refine ⟨a, ss, 1, rfl, s1.seq hS, fun c1 _ => ⟨c1, 26, rfl, by decide, fun wl lw H2 N2 s2 fw hlw => ?_⟩⟩
    have s02 := s1.trans s2
    obtain ⟨n0, gn0⟩ : ∃ n0, nl[0]? = some n0 := ⟨nl[0]'(by rw [N1.1]; omega), List.getElem?_eq_getElem (by rw [N1.1]; omega)⟩
    have g0 : (nl.map V.int)[0]? = some (.int n0) := by rw [List.getElem?_map, gn0]; rfl
    have gW : ∀ j : Nat, j < 26 → ∃ x, (wl.map V.int)[j]? = some (.int x) := fun j hj => ⟨wl[j]'(by rw [N2.1]; exact hj), by rw [List.getElem?_map, List.getElem?_eq_getElem (by rw [N2.1]; exact hj)]; rfl⟩
    obtain ⟨x20, g20⟩ := gW 20 (by decide)
    obtain ⟨x21, g21⟩ := gW 21 (by decide)
    obtain ⟨x22, g22⟩ := gW 22 (by decide)
    obtain ⟨x23, g23⟩ := gW 23 (by decide)
    obtain ⟨x24, g24⟩ := gW 24 (by decide)
    obtain ⟨x25, g25⟩ := gW 25 (by decide)
    have hln2 := s2 _ _ hln
    refine ⟨ln, rfl, _, SqL.of hln2, .int n0, at_of (j := 0) rfl g0, n0, rfl, ⟨by decide, by decide⟩, by decide, ?_⟩
    refine ⟨lw, rfl, _, SqL.of hlw, .int x24, at_of (j := 24) rfl g24, x24, rfl, by decide, ?_⟩
    have pick : ∀ (x : Int) (a0 a1 a2 a3 a4 a5 a6 a7 M : Int), (∀ z ∈ [a0, a1, a2, a3, a4, a5, a6, a7], 1 ≤ z ∧ z ≤ M) → ∃ m : Nat, atI [V.int a0, V.int a1, V.int a2, V.int a3, V.int a4, V.int a5, V.int a6, V.int a7] (x % 8) = some (.int (m : Int)) ∧ 1 ≤ m ∧ (m : Int) ≤ M := fun x a0 a1 a2 a3 a4 a5 a6 a7 M h => by
      have y0 := Int.emod_nonneg x (show (8 : Int) ≠ 0 by decide)
      have y8 := Int.emod_lt_of_pos x (show (0 : Int) < 8 by decide)
      have key : ∃ z ∈ [a0, a1, a2, a3, a4, a5, a6, a7], atI [V.int a0, V.int a1, V.int a2, V.int a3, V.int a4, V.int a5, V.int a6, V.int a7] (x % 8) = some (.int z) := by
        generalize x % 8 = y at y0 y8 ⊢
        have : y = 0 ∨ y = 1 ∨ y = 2 ∨ y = 3 ∨ y = 4 ∨ y = 5 ∨ y = 6 ∨ y = 7 := by omega
        rcases this with rfl | rfl | rfl | rfl | rfl | rfl | rfl | rfl
        · exact ⟨a0, by simp, rfl⟩
        · exact ⟨a1, by simp, rfl⟩
        · exact ⟨a2, by simp, rfl⟩
        · exact ⟨a3, by simp, rfl⟩
        · exact ⟨a4, by simp, rfl⟩
        · exact ⟨a5, by simp, rfl⟩
        · exact ⟨a6, by simp, rfl⟩
        · exact ⟨a7, by simp, rfl⟩
      obtain ⟨z, hz, e⟩ := key
      have b := h z hz
      exact ⟨z.toNat, by rw [e, Int.toNat_of_nonneg (by omega)], by omega, by omega⟩
    refine ite2 (fun _ => ⟨ln, rfl, _, SqL.of hln2, .int n0, at_of (j := 0) rfl g0, n0, rfl, ⟨by decide, by decide⟩, by decide, ?_⟩) (fun _ => ?_)
    obtain ⟨r, er, hr1, hr12⟩ : ∃ r : Nat, 1 + n0 / 8 % 12 = (r : Int) ∧ 1 ≤ r ∧ r ≤ 12 := ⟨(1 + n0 / 8 % 12).toNat, by omega, by omega, by omega⟩
    rotate_left
    obtain ⟨r, er, hr1, hr12⟩ : ∃ r : Nat, 3 + n0 / 8 % 6 = (r : Int) ∧ 1 ≤ r ∧ r ≤ 12 := ⟨(3 + n0 / 8 % 6).toNat, by omega, by omega, by omega⟩
    all_goals
      rw [er]
      clear er
      refine ⟨ln, nl, r, rfl, SqL.of hln2, by rw [N1.1]; omega, hr1, hr12, fun D0 us0 l0 H3 drs0 s3 fd3 hl0 pD0 => ?_⟩
      refine ⟨by decide, fun p8 np8 => ?_⟩
      have s4 : Same H3 (upd H3 p8 (HO.lst [V.int 4, V.int 5, V.int 6, V.int 6, V.int 7, V.int 8, V.int 8, V.int 10])) := same_upd np8
      have hp8 := upd_same (H := H3) (a := p8) (o := HO.lst [V.int 4, V.int 5, V.int 6, V.int 6, V.int 7, V.int 8, V.int 8, V.int 10])
      generalize upd H3 p8 (HO.lst [V.int 4, V.int 5, V.int 6, V.int 6, V.int 7, V.int 8, V.int 8, V.int 10]) = H4 at s4 hp8 ⊢
      have s34 := s3.trans s4
      have hlw4 := s34 _ _ hlw
      obtain ⟨mf, emf, mf1, mf10⟩ := pick x23 4 5 6 6 7 8 8 10 10 (by decide)
      refine ⟨lw, rfl, _, SqL.of hlw4, .int x23, at_of (j := 23) rfl g23, x23, rfl, by decide, _, SqL.of hp8, _, emf, lw, rfl, _, SqL.of hlw4, .int x25, at_of (j := 25) rfl g25, ?_⟩
      refine ⟨l0, us0, D0, mf, x25, r, rfl, s4 _ _ hl0, pD0.kt (KT.same s4), drs0, hr12, by omega, by omega, fun D us lo_ H5 drs dl10 s5 _ hlo pD => ?_⟩
      have s35 := s34.trans s5
      refine ⟨by decide, fun p9 np9 => ?_⟩
      have s6 : Same H5 (upd H5 p9 (HO.lst [V.int 1, V.int 2, V.int 2, V.int 3, V.int 3, V.int 4, V.int 4, V.int 4])) := same_upd np9
      have hp9 := upd_same (H := H5) (a := p9) (o := HO.lst [V.int 1, V.int 2, V.int 2, V.int 3, V.int 3, V.int 4, V.int 4, V.int 4])
      generalize upd H5 p9 (HO.lst [V.int 1, V.int 2, V.int 2, V.int 3, V.int 3, V.int 4, V.int 4, V.int 4]) = H6 at s6 hp9 ⊢
      have hlw6 := (s35.trans s6) _ _ hlw
      obtain ⟨mm, em, hm1, hm4⟩ := pick x20 1 2 2 3 3 4 4 4 4 (by decide)
      refine ⟨lw, rfl, _, SqL.of hlw6, .int x20, at_of (j := 20) rfl g20, x20, rfl, by decide, _, SqL.of hp9, _, em, ?_⟩
      refine ⟨lw, wl, mm, rfl, SqL.of hlw6, by rw [N2.1]; omega, hm1, by omega, fun Z pz H7 tz s7 npz hpz => ?_⟩
      have s57 := s6.trans s7
      have hlw7 := s7 _ _ hlw6
      refine ⟨lw, rfl, _, SqL.of hlw7, .int x21, at_of (j := 21) rfl g21, x21, 16, 59, rfl, by decide, by decide, fun nn hn0 hn59 => ?_⟩
      obtain ⟨mc, rfl⟩ : ∃ m : Nat, nn = (m : Int) := ⟨nn.toNat, by omega⟩
      have s27 := s35.trans s57
      have lw0 : ∀ {Ha Hb : Hp} {us : List V} {L : List Cl}, Same Ha Hb → LG Ha us L → LG Hb us L := fun s h => h.kt (KT.same s)
      refine ⟨a, ss, 2, rfl, (s02.trans s27).seq hS, fun c2 _ => ?_⟩
      refine ⟨_, rfl, .inl (by decide), c2, 7 * mc, by rw [show (7 : Int) * (mc : Int) = ((7 * mc : Nat) : Int) by omega], by omega, fun ml lm H8 N8 s8 fm8 hlm => ?_⟩
      refine ⟨lm, pz, ml, mc, r, Z, rfl, SqL.of hlm, by rw [N8.1]; exact Nat.le_refl _, by omega, hr1, s8 _ _ hpz, by rw [tz.1]; exact hm1, by rw [tz.1]; omega, tz.2, fun A ga la H9 lenA inrA wkA s9 fla hla lgA => ?_⟩
      have s79 := s8.trans s9
      have hlw9 := s79 _ _ hlw7
      refine ⟨lw, rfl, _, SqL.of hlw9, .int x22, at_of (j := 22) rfl g22, x22, 16, 59, rfl, by decide, by decide, fun nn hn0 hn59b => ?_⟩
      obtain ⟨md, rfl⟩ : ∃ m : Nat, nn = (m : Int) := ⟨nn.toNat, by omega⟩
      have s29 := s27.trans s79
      refine ⟨a, ss, 3, rfl, (s02.trans s29).seq hS, fun c3 _ => ?_⟩
      refine ⟨_, rfl, .inl (by decide), c3, 7 * md, by rw [show (7 : Int) * (md : Int) = ((7 * md : Nat) : Int) by omega], by omega, fun ml2 lm2 H10 N10 s10 fm10 hlm2 => ?_⟩
      have hpz10 := s10 _ _ (s79 _ _ hpz)
      refine ⟨lm2, pz, ml2, md, r, Z, rfl, SqL.of hlm2, by rw [N10.1]; exact Nat.le_refl _, by omega, hr1, hpz10, by rw [tz.1]; exact hm1, by rw [tz.1]; omega, tz.2, fun Fr gf lf H11 lenF inrF wkF s11 flf hlf lgF => ?_⟩
      have s9b := s10.trans s11
      refine ⟨a, ss, 4, rfl, ((s02.trans s29).trans s9b).seq hS, fun c4 _ => ⟨c4, 20, rfl, by decide, fun ml3 lm3 H12 N12 s12 fm12 hlm3 => ?_⟩⟩
      have s9c := s9b.trans s12
      refine ⟨lm3, la, lf, pz, ga, gf, A, Fr, Z, r, ml3, rfl, SqL.of hlm3, N12.1, s9c _ _ hla, lw0 s9c lgA, inrA, wkA, by omega, s12 _ _ hlf, lw0 s12 lgF, inrF, wkF, by omega, s12 _ _ (s11 _ _ hpz10), by rw [tz.1]; exact hm1, tz.2, hr1, hr12, fun lb gb H13 s13 hlb elb lenb => ?_⟩
      obtain ⟨B, lgB, inrB, wkB⟩ := elc_log elb
      have s9d := s9c.trans s13
      have hla3 := s9d _ _ hla
      have lgA3 := lw0 s9d lgA
      have lenB : B.length ≤ 500 := by rw [← lgB.len]; exact lenb
      have s53 := (s57.trans s79).trans s9d
      have hlo3 := s53 _ _ hlo
      have pD3 := pD.kt (KT.same s53)
      have hpz3 := (s79.trans s9d) _ _ hpz
      have s03 := (s02.trans s29).trans s9d
      clear hlm hlm2 hlm3 hpz10 fm8 fm10 fm12 s8 s9 s10 s11 s12 s13 s9b s9c
      refine ⟨la, ga, A, rfl, hla3, lgA3, by omega, fun wa pa H14 s14 npa hpa lwa => ?_⟩
      refine ⟨lb, gb, B, rfl, s14 _ _ hlb, lw0 s14 lgB, by omega, fun wb pb H15 s15 npb hpb lwb => ?_⟩
      refine ⟨by decide, fun pl_ npl => ?_⟩
      have sl := same_upd (o := HO.lst [V.ref pa, V.ref pb]) npl
      have hpl := upd_same (H := H15) (a := pl_) (o := HO.lst [V.ref pa, V.ref pb])
      generalize upd H15 pl_ (HO.lst [V.ref pa, V.ref pb]) = H16 at sl hpl ⊢
      have s36 := (s14.trans s15).trans sl
      have hpa6 := (s15.trans sl) _ _ hpa
      have lwa6 := lw0 (s15.trans sl) lwa
      have hpb6 := sl _ _ hpb
      have lwb6 := lw0 sl lwb
      have ilA : InR r (lastF A) := fun c hc => inrA c (lastF_sub A c hc)
      have ilB : InR r (lastF B) := fun c hc => inrB c (lastF_sub B c hc)
      have wlA : ∀ c ∈ lastF A, wk 16 c.2 := fun c hc => wkA c (lastF_sub A c hc)
      have wlB : ∀ c ∈ lastF B, wk 16 c.2 := fun c hc => wkB c (lastF_sub B c hc)
      have d10 : D.length ≤ 10 := by omega
      refine ⟨_, SqL.of hpl, .ref pa, rfl, _, SqL.of hpl, .ref pb, rfl, ?_⟩
      refine ⟨lo_, pa, pb, us, wa, wb, D, lastF A, lastF B, r, rfl, s36 _ _ hlo3, pD3.kt (KT.same s36), drs, hr12, d10, hpa6, lwa6, ilA, wlA, hpb6, lwb6, ilB, wlB, fun k1 H17 s17 ek1 => ?_⟩
      rw [nop_last] at ek1
      refine ⟨Nat.zero_le _, fun e1 ne1 => ?_⟩
      have s18 := s17.trans (same_upd (o := HO.lst []) ne1)
      have he1 := upd_same (H := H17) (a := e1) (o := HO.lst [])
      generalize upd H17 e1 (HO.lst []) = H18 at s18 he1 ⊢
      have drs0' : Drs r ([] : List Pr) := ⟨List.Pairwise.nil, fun d hd => by cases hd⟩
      refine ⟨_, SqL.of (s18 _ _ hpl), .ref pa, rfl, _, SqL.of (s18 _ _ hpl), .ref pb, rfl, ?_⟩
      refine ⟨e1, pa, pb, [], wa, wb, [], lastF A, lastF B, r, rfl, he1, PL.nil0 _, drs0', hr12, Nat.zero_le _, s18 _ _ hpa6, lw0 s18 lwa6, ilA, wlA, s18 _ _ hpb6, lw0 s18 lwb6, ilB, wlB, fun k2 H19 s19 ek2 => ?_⟩
      rw [nop_last] at ek2
      have s39 := s36.trans (s18.trans s19)
      have hpl9 := (s18.trans s19) _ _ hpl
      have hpb9 := (s18.trans s19) _ _ hpb6
      have lwb9 := lw0 (s18.trans s19) lwb6
      refine ⟨lo_, rfl, us, .inl (SqL.of (s39 _ _ hlo3)), fun ol fol => fun y dy ny ndy ney => ?_⟩
      have t1 : Same H19 (upd H19 ol (HO.lst us)) := same_upd fol
      refine use_init ny ndy upd_same ((pD3.kt (KT.same s39)).kt (KT.same t1)) (by rw [mm2_same drs]) drs hr1 hr12 fun own1 H20 hh1 t2 _ => ⟨rfl, ?_⟩
      have s20 := t1.trans t2
      clear t1 t2
      refine ⟨Nat.zero_le _, fun e2 ne2 z dz nz ndz nez => ?_⟩
      have t1 := same_upd (o := HO.lst []) ne2
      refine use_init nz ndz upd_same (PL.nil0 _) (G := []) (List.Perm.refl _) drs0' hr1 hr12 fun own2 H21 hh2 t2 _ => ⟨rfl, ?_⟩
      have s21 := t1.trans t2
      have hh1' := hh1.same s21
      have s3b := s39.trans (s20.trans s21)
      have hlaF := s3b _ _ hla3
      have lgAF := lw0 s3b lgA3
      have hlbF := s3b _ _ hlb
      have lgBF := lw0 s3b lgB
      have hplF := (s20.trans s21) _ _ hpl9
      have hpbF := (s20.trans s21) _ _ hpb9
      have lwbF := lw0 (s20.trans s21) lwb9
      have hloF := s3b _ _ hlo3
      have pDF := pD3.kt (KT.same s3b)
      have hpzF := s3b _ _ hpz3
      clear t1 t2 ny ndy nz ndz ney nez ne2 fol hpl hpa hpb lwa lwb hpb6 lwb6 hpl9 hpb9 lwb9
      refine for_iterW ?_
      walk_at "rd"
      unfold iTup
      walk_at "rd"
      refine ⟨by decide, fun i1 ni1 => ⟨by decide, fun i2 ni2 => ⟨by decide, fun i3 ni3 => ⟨by decide, fun tt ntt => ?_⟩⟩⟩⟩
      have u1 := same_upd (o := HO.tup [V.ref y, V.bl k1]) ni1
      have u2 := same_upd (o := HO.tup [V.ref z, V.bl k2]) ni2
      have u3 := same_upd (o := HO.tup [V.ref y, V.bl k1]) ni3
      have u4 := same_upd (o := HO.tup [V.ref i1, V.ref i2, V.ref i3]) ntt
      have hi1 := u4 _ _ (u3 _ _ (u2 _ _ (upd_same (H := H21) (a := i1) (o := HO.tup [V.ref y, V.bl k1]))))
      have hi2 := u4 _ _ (u3 _ _ (upd_same (H := upd H21 i1 (HO.tup [V.ref y, V.bl k1])) (a := i2) (o := HO.tup [V.ref z, V.bl k2])))
      have hi3 := u4 _ _ (upd_same (H := upd (upd H21 i1 (HO.tup [V.ref y, V.bl k1])) i2 (HO.tup [V.ref z, V.bl k2])) (a := i3) (o := HO.tup [V.ref y, V.bl k1]))
      have htt := upd_same (H := upd (upd (upd H21 i1 (HO.tup [V.ref y, V.bl k1])) i2 (HO.tup [V.ref z, V.bl k2])) i3 (HO.tup [V.ref y, V.bl k1])) (a := tt) (o := HO.tup [V.ref i1, V.ref i2, V.ref i3])
      have s22 := u1.trans (u2.trans (u3.trans u4))
      generalize upd (upd (upd (upd H21 i1 (HO.tup [V.ref y, V.bl k1])) i2 (HO.tup [V.ref z, V.bl k2])) i3 (HO.tup [V.ref y, V.bl k1])) tt (HO.tup [V.ref i1, V.ref i2, V.ref i3]) = H22 at s22 hi1 hi2 hi3 htt ⊢
      clear u1 u2 u3 u4 ni1 ni2 ni3 ntt
      have itm : ∀ v ∈ [V.ref i1, V.ref i2, V.ref i3], ∃ t hp k D' own, v = V.ref t ∧ H22 t = some (.tup [V.ref hp, V.bl k]) ∧ HouseAt C H22 hp r D' own ∧ (k = true ↔ NoP r D' A B) := fun v hv => by
        rcases List.mem_cons.mp hv with e | hv
        · exact ⟨i1, y, k1, D, own1, e, hi1, hh1'.same s22, ek1⟩
        · rcases List.mem_cons.mp hv with e | hv
          · exact ⟨i2, z, k2, [], own2, e, hi2, hh2.same s22, ek2⟩
          · exact ⟨i3, y, k1, D, own1, List.mem_singleton.mp hv, hi3, hh1'.same s22, ek1⟩
      obtain ⟨Pv, hPv⟩ : ∃ Pv : Nat → L2.St → Hp → Prop, Pv = (fun i σ H' => ∃ v15 v16 : Option V, σ = [some (V.ref a), some (V.ref ln), some (V.ref lw), some (V.int ↑r), some (V.ref lo_), some (V.ref pz), some (V.int ↑md), some (V.ref la), some (V.ref lf), some (V.ref lb), some (V.ref pl_), some (V.bl k1), some (V.bl k2), some (V.ref y), some (V.ref z), v15, v16, none, none, none, none] ∧ Same H22 H') := ⟨_, rfl⟩
      refine ⟨⟨_, SqT.of htt⟩, for_tup (K := K) (a := tt) (xs := [V.ref i1, V.ref i2, V.ref i3]) Pv (by rw [hPv]; exact ⟨none, none, rfl, Same.refl _⟩) (fun i σ H' _ pv => by rw [hPv] at pv; obtain ⟨_, _, _, s9⟩ := pv; exact SqT.of (s9 _ _ htt)) (fun i v σ H23 gv pv => ?_) (fun σ H23 pv => ?_)⟩
      · obtain ⟨t, hp, kk, D', own', rfl, hti, hhi, eki⟩ := itm v (List.mem_of_getElem? gv)
        rw [hPv] at pv
        obtain ⟨v15, v16, rfl, s23⟩ := pv
        walk_at "rd"
        refine ⟨_, SqT.of (s23 _ _ hti), rfl, _, _, rfl, _, _, rfl, rfl, ?_⟩
        have s13 := s22.trans s23
        refine ⟨hp, la, lb, ga, gb, A, B, r, D', own', kk, rfl, hhi.same s23, s13 _ _ hlaF, lw0 s13 lgAF, by omega, inrA, s13 _ _ hlbF, lw0 s13 lgBF, by omega, inrB, eki, fun H24 s24 => ⟨true, rfl, iteF ?_⟩⟩
        rw [hPv]
        exact ⟨_, _, rfl, s23.trans s24⟩
      rw [hPv] at pv
      obtain ⟨v15, v16, rfl, s23⟩ := pv
      clear hPv
      have s13 := s22.trans s23
      walk_at "rd"
      refine lcW ?_
      walk_at "rd"
      refine ⟨_, SqL.of (s13 _ _ hlaF), fun q nq => ?_⟩
      have s4q := same_upd (o := HO.lst (cutV ga none (some 1))) nq
      have hq4 := upd_same (H := H23) (a := q) (o := HO.lst (cutV ga none (some 1)))
      rw [show cutV ga none (some 1) = ga.take 1 from cut_takeW ga 1] at s4q hq4 ⊢
      generalize upd H23 q (HO.lst (ga.take 1)) = H24 at s4q hq4 ⊢
      have s14 := s13.trans s4q
      have lgA4 := lw0 s14 lgAF
      refine ⟨⟨_, SqL.of hq4⟩, fun e0 ne0 => ?_⟩
      obtain ⟨Pw, hPw⟩ : ∃ Pw : Nat → Hp → Prop, Pw = (fun j Hx => Same H24 Hx ∧ ∃ ws0 L0, Hx e0 = some (.lst ws0) ∧ LG Hx ws0 L0 ∧ ws0.length = j ∧ ∀ d ∈ L0, d.1 ∈ A.map (·.1)) := ⟨_, rfl⟩
      refine lc_list (K := K) (a := q) (xs := ga.take 1) Pw (by rw [hPw]; exact ⟨same_upd ne0, [], [], upd_same, LG.nil0 _, rfl, fun d hd => by cases hd⟩) (fun j Hx _ pv => by rw [hPw] at pv; exact SqL.of (pv.1 _ _ hq4)) (fun j v Hx gv pv => ?_) (fun H25 pv => ?_)
      · rw [hPw] at pv
        obtain ⟨sx, ws0, L0, he, lg0, wl0, mem0⟩ := pv
        have hj := (List.getElem?_eq_some_iff.mp gv).1
        rw [List.length_take] at hj
        rw [List.getElem?_take] at gv
        rw [if_pos (by omega)] at gv
        obtain ⟨d, gd, td, rfl, htd⟩ := pget lgA4 gv
        have dA := List.mem_of_getElem? gd
        have zl : (Z.map V.str).length = mm := by rw [List.length_map]; exact tz.1
        obtain ⟨zz, gz⟩ : ∃ zz, (Z.map V.str)[mm - 1]? = some zz := ⟨_, List.getElem?_eq_getElem (by omega)⟩
        obtain ⟨zs, _, ezs⟩ := List.mem_map.mp (List.mem_of_getElem? gz)
        subst ezs
        simp only [wipe]
        walk_at "rd"
        refine ⟨_, SqT.of (sx _ _ htd), _, rfl, _, SqL.of ((s14.trans sx) _ _ hpzF), _, atI_neg (j := 0) rfl (by omega) (by rw [zl]; exact gz), by decide, fun t nt => ?_⟩
        have st := same_upd (o := HO.tup [V.int d.1, V.str zs]) nt
        have ht := upd_same (H := Hx) (a := t) (o := HO.tup [V.int d.1, V.str zs])
        generalize upd Hx t (HO.tup [V.int d.1, V.str zs]) = Hy at st ht ⊢
        refine ⟨ws0, st _ _ he, len_big (by omega), ?_⟩
        rw [hPw]
        refine ⟨same_ch (sx.trans st) ne0, ws0 ++ [V.ref t], L0 ++ [(d.1, zs)], upd_same, LG.snoc ((lg0.kt (KT.same st)).kt (KT.lst (st _ _ he))) ⟨t, rfl, ?_⟩, by rw [List.length_append, wl0]; rfl, fun d' hd' => ?_⟩
        · rw [upd_ne (ne_of ht (st _ _ he) (by intro z; cases z))]
          exact ht
        · rcases List.mem_append.mp hd' with h | h
          · exact mem0 d' h
          · rw [List.mem_singleton.mp h]
            exact List.mem_map.mpr ⟨d, dA, rfl⟩
      rw [hPw] at pv
      obtain ⟨sx, ws0, L0, he, lg0, wl0, mem0⟩ := pv
      clear hPw
      have s15 := s14.trans sx
      have l0 : L0.length ≤ 1 := by rw [← lg0.len, wl0, List.length_take]; omega
      have gal := lgAF.len
      refine ⟨e0, la, ws0, ga, rfl, rfl, he, s15 _ _ hlaF, Nat.le_of_lt (len_big (by rw [lg0.len]; omega)), fun p np => ?_⟩
      have sp := same_upd (o := HO.lst (ws0 ++ ga)) np
      have hp := upd_same (H := H25) (a := p) (o := HO.lst (ws0 ++ ga))
      generalize upd H25 p (HO.lst (ws0 ++ ga)) = H26 at sp hp ⊢
      have s16 := s15.trans sp
      have lgE : LG H26 (ws0 ++ ga) (L0 ++ A) := paired_append (lw0 sp lg0) (lw0 s16 lgAF)
      have inrE : InR r (L0 ++ A) := fun c hc => by
        rcases List.mem_append.mp hc with h | h
        · obtain ⟨c', hc', e⟩ := List.mem_map.mp (mem0 c h)
          rw [← e]
          exact inrA c' hc'
        · exact inrA c h
      have lenE : (L0 ++ A).length ≤ 1000 := by rw [List.length_append]; omega
      have early : ∀ ps, wordP (L0 ++ A) ps = wordP A ps := fun ps => early_word mem0 ps
      have ekE : k1 = true ↔ NoP r D (L0 ++ A) B := by
        refine ek1.trans ?_
        unfold NoP Prt
        simp only [early]
      refine ⟨y, p, lb, ws0 ++ ga, gb, L0 ++ A, B, r, D, own1, k1, rfl, hh1'.same (s16), hp, lgE, lenE, inrE, s16 _ _ hlbF, lw0 s16 lgBF, by omega, inrB, ekE, fun H27 s27' => ⟨true, rfl, iteF ?_⟩⟩
      have s17' := s16.trans s27'
      have hp7 := s27' _ _ hp
      have lgE7 := lw0 s27' lgE
      refine for_iterW ?_
      walk_at "rd"
      refine ⟨by decide, fun i1 ni1 => ⟨_, SqL.of (same_upd ni1 _ _ (s17' _ _ hplF)), .ref pb, rfl, by decide, fun i2 ni2 => ⟨by decide, fun i3 ni3 => ⟨by decide, fun t4 nt4 => ?_⟩⟩⟩⟩
      have u1 := same_upd (o := HO.tup [V.ref la, V.ref p]) ni1
      have u2 := same_upd (o := HO.tup [V.ref lb, V.ref pb]) ni2
      have u3 := same_upd (o := HO.tup [V.ref la, V.ref la]) ni3
      have u4 := same_upd (o := HO.tup [V.ref i1, V.ref i2, V.ref i3]) nt4
      have hi1 := u4 _ _ (u3 _ _ (u2 _ _ (upd_same (H := H27) (a := i1) (o := HO.tup [V.ref la, V.ref p]))))
      have hi2 := u4 _ _ (u3 _ _ (upd_same (H := upd H27 i1 (HO.tup [V.ref la, V.ref p])) (a := i2) (o := HO.tup [V.ref lb, V.ref pb])))
      have hi3 := u4 _ _ (upd_same (H := upd (upd H27 i1 (HO.tup [V.ref la, V.ref p])) i2 (HO.tup [V.ref lb, V.ref pb])) (a := i3) (o := HO.tup [V.ref la, V.ref la]))
      have ht4 := upd_same (H := upd (upd (upd H27 i1 (HO.tup [V.ref la, V.ref p])) i2 (HO.tup [V.ref lb, V.ref pb])) i3 (HO.tup [V.ref la, V.ref la])) (a := t4) (o := HO.tup [V.ref i1, V.ref i2, V.ref i3])
      have s28 := u1.trans (u2.trans (u3.trans u4))
      generalize upd (upd (upd (upd H27 i1 (HO.tup [V.ref la, V.ref p])) i2 (HO.tup [V.ref lb, V.ref pb])) i3 (HO.tup [V.ref la, V.ref la])) t4 (HO.tup [V.ref i1, V.ref i2, V.ref i3]) = H28 at s28 hi1 hi2 hi3 ht4 ⊢
      clear u1 u2 u3 u4 ni1 ni2 ni3 nt4
      have s18' := s17'.trans s28
      have lwl := lw0 s18' lwbF
      have itm2 : ∀ v ∈ [V.ref i1, V.ref i2, V.ref i3], ∃ t q1 q2 us1 us2 X Y, v = V.ref t ∧ H28 t = some (.tup [.ref q1, .ref q2]) ∧ H28 q1 = some (.lst us1) ∧ LG H28 us1 X ∧ X.length ≤ 1000 ∧ InR r X ∧ H28 q2 = some (.lst us2) ∧ LG H28 us2 Y ∧ Y.length ≤ 1000 ∧ InR r Y ∧ NoP r D X Y := fun v hv => by
        rcases List.mem_cons.mp hv with e | hv
        · exact ⟨i1, la, p, ga, _, A, L0 ++ A, e, hi1, s18' _ _ hlaF, lw0 s18' lgAF, by omega, inrA, s28 _ _ hp7, lw0 s28 lgE7, lenE, inrE, fun q _ pr => pr.2 (early q).symm⟩
        · rcases List.mem_cons.mp hv with e | hv
          · refine ⟨i2, lb, pb, gb, wb, B, lastF B, e, hi2, s18' _ _ hlbF, lw0 s18' lgBF, by omega, inrB, s18' _ _ hpbF, lwl, Nat.le_trans (lastF_len B) (by omega), ilB, fun q _ pr => pr.2 (wordP_last B q).symm⟩
          · exact ⟨i3, la, la, ga, ga, A, A, List.mem_singleton.mp hv, hi3, s18' _ _ hlaF, lw0 s18' lgAF, by omega, inrA, s18' _ _ hlaF, lw0 s18' lgAF, by omega, inrA, nop_same r D A⟩
      obtain ⟨Pv, hPv⟩ : ∃ Pv : Nat → L2.St → Hp → Prop, Pv = (fun i σ H' => ∃ v18 v19 : Option V, σ = [some (V.ref a), some (V.ref ln), some (V.ref lw), some (V.int ↑r), some (V.ref lo_), some (V.ref pz), some (V.int ↑md), some (V.ref la), some (V.ref lf), some (V.ref lb), some (V.ref pl_), some (V.bl k1), some (V.bl k2), some (V.ref y), some (V.ref z), v15, v16, some (V.ref p), v18, v19, none] ∧ Same H28 H') := ⟨_, rfl⟩
      refine ⟨⟨_, SqT.of ht4⟩, for_tup (K := K) (a := t4) (xs := [V.ref i1, V.ref i2, V.ref i3]) Pv (by rw [hPv]; exact ⟨none, none, rfl, Same.refl _⟩) (fun i σ H' _ pv => by rw [hPv] at pv; obtain ⟨_, _, _, s9⟩ := pv; exact SqT.of (s9 _ _ ht4)) (fun i v σ H29 gv pv => ?_) (fun σ H29 pv => ?_)⟩
      · obtain ⟨t, q1, q2, us1, us2, X, Y, rfl, hti, h1, lg1, ln1, ir1, h2, lg2, ln2, ir2, nop⟩ := itm2 v (List.mem_of_getElem? gv)
        rw [hPv] at pv
        obtain ⟨v18, v19, rfl, s29'⟩ := pv
        walk_at "rd"
        refine ⟨_, SqT.of (s29' _ _ hti), rfl, _, _, rfl, _, _, rfl, rfl, ?_⟩
        refine ⟨q1, rfl, us1, .inl (SqL.of (s29' _ _ h1)), fun c1 nc1 => ?_⟩
        have w1 := same_upd (o := HO.lst us1) nc1
        refine ⟨q2, rfl, us2, .inl (SqL.of (w1 _ _ (s29' _ _ h2))), fun c2 nc2 => ?_⟩
        have w2 := w1.trans (same_upd (o := HO.lst us2) nc2)
        have hc1 := same_upd (o := HO.lst us2) nc2 _ _ (upd_same (H := H29) (a := c1) (o := HO.lst us1))
        have hc2 := upd_same (H := upd H29 c1 (HO.lst us1)) (a := c2) (o := HO.lst us2)
        generalize upd (upd H29 c1 (HO.lst us1)) c2 (HO.lst us2) = H30 at w2 hc1 hc2 ⊢
        have w3 := s29'.trans w2
        refine ⟨y, c1, c2, us1, us2, X, Y, r, D, own1, rfl, (hh1'.same (s18'.trans w3)), hc1, lw0 w3 lg1, ln1, ir1, hc2, lw0 w3 lg2, ln2, ir2, fun kk H31 s31 ekk => ?_⟩
        rw [ekk.mpr nop]
        refine same_ok (Sm.flat rfl) ⟨true, rfl, iteF ?_⟩
        rw [hPv]
        exact ⟨_, _, rfl, w3.trans s31⟩
      · rw [hPv] at pv
        obtain ⟨v18, v19, rfl, s29'⟩ := pv
        walk_at "rd"
        have sZ := s18'.trans s29'
        have hhG := hh1'.same sZ
        obtain ⟨dx, l0', m0', ls0, nss, h1, _⟩ := hhG.ex
        refine ⟨dx, _, h1, hf_no _ _ _ (by decide +kernel) (by decide +kernel) (by decide +kernel), y, r, D, own1, rfl, hhG, fun ws t pw nt => ?_⟩
        have sT : Same H29 (upd H29 t (HO.lst ws)) := same_upd nt
        exact same_ok (sm_pairs upd_same ((sZ.trans sT) _ _ hloF) (pw.kt (KT.same sT)) (pDF.kt (KT.same (sZ.trans sT))) (by rw [pw.len]; omega) 0) (qfin _)
end

set_option maxHeartbeats 8000000 in
theorem all_mk {l : PySem.W.OpenLaw} {w : World} {K : PySem.W.Frag} {h : Heap} {mg : Str → Option Value} {fa : Addr} (X : K.In h) (G : h.Ns mainGlobals mg) (hfa : mg "law" = some (.ref fa))
    {f_last_calls : Addr} {od_last_calls an_last_calls : Option Addr} {sl_last_calls : Array (Option Value)} {oc_last_calls kV_last_calls dc_last_calls pm_last_calls cd_last_calls ct_last_calls : Value}
    {f_words_of : Addr} {od_words_of an_words_of : Option Addr} {sl_words_of : Array (Option Value)} {oc_words_of kV_words_of dc_words_of pm_words_of cd_words_of ct_words_of : Value}
    {f_check_room_count : Addr} {od_check_room_count an_check_room_count : Option Addr} {sl_check_room_count : Array (Option Value)} {oc_check_room_count kV_check_room_count dc_check_room_count pm_check_room_count cd_check_room_count ct_check_room_count : Value}
    {f_checked_doors : Addr} {od_checked_doors an_checked_doors : Option Addr} {sl_checked_doors : Array (Option Value)} {oc_checked_doors kV_checked_doors dc_checked_doors pm_checked_doors cd_checked_doors ct_checked_doors : Value}
    {f_first_path : Addr} {od_first_path an_first_path : Option Addr} {sl_first_path : Array (Option Value)} {oc_first_path kV_first_path dc_first_path pm_first_path cd_first_path ct_first_path : Value}
    {f_first_paths : Addr} {od_first_paths an_first_paths : Option Addr} {sl_first_paths : Array (Option Value)} {oc_first_paths kV_first_paths dc_first_paths pm_first_paths cd_first_paths ct_first_paths : Value}
    {f_last_places : Addr} {od_last_places an_last_places : Option Addr} {sl_last_places : Array (Option Value)} {oc_last_places kV_last_places dc_last_places pm_last_places cd_last_places ct_last_places : Value}
    {f_crossed_pairs : Addr} {od_crossed_pairs an_crossed_pairs : Option Addr} {sl_crossed_pairs : Array (Option Value)} {oc_crossed_pairs kV_crossed_pairs dc_crossed_pairs pm_crossed_pairs cd_crossed_pairs ct_crossed_pairs : Value}
    {f_hall : Addr} {od_hall an_hall : Option Addr} {sl_hall : Array (Option Value)} {oc_hall kV_hall dc_hall pm_hall cd_hall ct_hall : Value}
    {f_parting_path : Addr} {od_parting_path an_parting_path : Option Addr} {sl_parting_path : Array (Option Value)} {oc_parting_path kV_parting_path dc_parting_path pm_parting_path cd_parting_path ct_parting_path : Value}
    {f_unlike_room : Addr} {od_unlike_room an_unlike_room : Option Addr} {sl_unlike_room : Array (Option Value)} {oc_unlike_room kV_unlike_room dc_unlike_room pm_unlike_room cd_unlike_room ct_unlike_room : Value}
    {f_alike : Addr} {od_alike an_alike : Option Addr} {sl_alike : Array (Option Value)} {oc_alike kV_alike dc_alike pm_alike cd_alike ct_alike : Value}
    {f__law_cell : Addr} {od__law_cell an__law_cell : Option Addr} {sl__law_cell : Array (Option Value)} {oc__law_cell kV__law_cell dc__law_cell pm__law_cell cd__law_cell ct__law_cell : Value}
    {f__law_numbers : Addr} {od__law_numbers an__law_numbers : Option Addr} {sl__law_numbers : Array (Option Value)} {oc__law_numbers kV__law_numbers dc__law_numbers pm__law_numbers cd__law_numbers ct__law_numbers : Value}
    {f__law_names : Addr} {od__law_names an__law_names : Option Addr} {sl__law_names : Array (Option Value)} {oc__law_names kV__law_names dc__law_names pm__law_names cd__law_names ct__law_names : Value}
    {f__law_joined : Addr} {od__law_joined an__law_joined : Option Addr} {sl__law_joined : Array (Option Value)} {oc__law_joined kV__law_joined dc__law_joined pm__law_joined cd__law_joined ct__law_joined : Value}
    {f__law_doors : Addr} {od__law_doors an__law_doors : Option Addr} {sl__law_doors : Array (Option Value)} {oc__law_doors kV__law_doors dc__law_doors pm__law_doors cd__law_doors ct__law_doors : Value}
    {f__law_fewer : Addr} {od__law_fewer an__law_fewer : Option Addr} {sl__law_fewer : Array (Option Value)} {oc__law_fewer kV__law_fewer dc__law_fewer pm__law_fewer cd__law_fewer ct__law_fewer : Value}
    {f__law_openings : Addr} {od__law_openings an__law_openings : Option Addr} {sl__law_openings : Array (Option Value)} {oc__law_openings kV__law_openings dc__law_openings pm__law_openings cd__law_openings ct__law_openings : Value}
    {f__law_same : Addr} {od__law_same an__law_same : Option Addr} {sl__law_same : Array (Option Value)} {oc__law_same kV__law_same dc__law_same pm__law_same cd__law_same ct__law_same : Value}
    {f__law_last : Addr} {od__law_last an__law_last : Option Addr} {sl__law_last : Array (Option Value)} {oc__law_last kV__law_last dc__law_last pm__law_last cd__law_last ct__law_last : Value}
    {f__law_spelled : Addr} {od__law_spelled an__law_spelled : Option Addr} {sl__law_spelled : Array (Option Value)} {oc__law_spelled kV__law_spelled dc__law_spelled pm__law_spelled cd__law_spelled ct__law_spelled : Value}
    {f__law_pool : Addr} {od__law_pool an__law_pool : Option Addr} {sl__law_pool : Array (Option Value)} {oc__law_pool kV__law_pool dc__law_pool pm__law_pool cd__law_pool ct__law_pool : Value}
    {f__law_size : Addr} {od__law_size an__law_size : Option Addr} {sl__law_size : Array (Option Value)} {oc__law_size kV__law_size dc__law_size pm__law_size cd__law_size ct__law_size : Value}
    {f__law_drawn : Addr} {od__law_drawn an__law_drawn : Option Addr} {sl__law_drawn : Array (Option Value)} {oc__law_drawn kV__law_drawn dc__law_drawn pm__law_drawn cd__law_drawn ct__law_drawn : Value}
    {f__law_other : Addr} {od__law_other an__law_other : Option Addr} {sl__law_other : Array (Option Value)} {oc__law_other kV__law_other dc__law_other pm__law_other cd__law_other ct__law_other : Value}
    {f__law_areas : Addr} {od__law_areas an__law_areas : Option Addr} {sl__law_areas : Array (Option Value)} {oc__law_areas kV__law_areas dc__law_areas pm__law_areas cd__law_areas ct__law_areas : Value}
    {f__law_words_kept : Addr} {od__law_words_kept an__law_words_kept : Option Addr} {sl__law_words_kept : Array (Option Value)} {oc__law_words_kept kV__law_words_kept dc__law_words_kept pm__law_words_kept cd__law_words_kept ct__law_words_kept : Value}
    {f__law_heard_alike : Addr} {od__law_heard_alike an__law_heard_alike : Option Addr} {sl__law_heard_alike : Array (Option Value)} {oc__law_heard_alike kV__law_heard_alike dc__law_heard_alike pm__law_heard_alike cd__law_heard_alike ct__law_heard_alike : Value}
    {f__law_alike_right : Addr} {od__law_alike_right an__law_alike_right : Option Addr} {sl__law_alike_right : Array (Option Value)} {oc__law_alike_right kV__law_alike_right dc__law_alike_right pm__law_alike_right cd__law_alike_right ct__law_alike_right : Value}
    {f_law : Addr} {od_law an_law : Option Addr} {sl_law : Array (Option Value)} {oc_law kV_law dc_law pm_law cd_law ct_law : Value}
    {f_m_init_ : Addr} {od_m_init_ an_m_init_ : Option Addr} {sl_m_init_ : Array (Option Value)} {oc_m_init_ kV_m_init_ dc_m_init_ pm_m_init_ cd_m_init_ ct_m_init_ : Value}
    {f_mneighbours : Addr} {od_mneighbours an_mneighbours : Option Addr} {sl_mneighbours : Array (Option Value)} {oc_mneighbours kV_mneighbours dc_mneighbours pm_mneighbours cd_mneighbours ct_mneighbours : Value}
    {f_mdoors : Addr} {od_mdoors an_mdoors : Option Addr} {sl_mdoors : Array (Option Value)} {oc_mdoors kV_mdoors dc_mdoors pm_mdoors cd_mdoors ct_mdoors : Value}
    {C : Addr}
    {tk_MOST_ROOMS : Tok}
    (aC : PySem.W.nsIn K mainGlobals "House" = some (some (.ref C)))
    (pg : PySem.W.plainGet K C Str.empty = true)
    (hd : PySem.W.hasDictIn K C = true)
    (po : PySem.W.plainOver K C = true)
    (sa : PySem.W.findIn K (.ref C) "__setattr__" = some (some (.builtin "object.__setattr__")))
    (mk : PySem.W.makesIn K C = true)
    (kc : PySem.W.keepIn K (.ref C) = true)
    (a_last_calls : PySem.W.nsIn K mainGlobals "last_calls" = some (some (.ref f_last_calls)))
    (l_last_calls : K.lookup f_last_calls = some ⟨oc_last_calls, od_last_calls, .func (PySem.W.fnOf "last_calls" "last_calls" (defArgs sLast) (defBody sLast) (defScope sLast) .none kV_last_calls dc_last_calls pm_last_calls an_last_calls cd_last_calls ct_last_calls), sl_last_calls⟩)
    (c_last_calls : PySem.W.codeIn K cd_last_calls "last_calls" = true)
    (k_last_calls : PySem.W.keepIn K (.ref f_last_calls) = true)
    (a_words_of : PySem.W.nsIn K mainGlobals "words_of" = some (some (.ref f_words_of)))
    (l_words_of : K.lookup f_words_of = some ⟨oc_words_of, od_words_of, .func (PySem.W.fnOf "words_of" "words_of" (defArgs sWds) (defBody sWds) (defScope sWds) .none kV_words_of dc_words_of pm_words_of an_words_of cd_words_of ct_words_of), sl_words_of⟩)
    (c_words_of : PySem.W.codeIn K cd_words_of "words_of" = true)
    (k_words_of : PySem.W.keepIn K (.ref f_words_of) = true)
    (a_check_room_count : PySem.W.nsIn K mainGlobals "check_room_count" = some (some (.ref f_check_room_count)))
    (l_check_room_count : K.lookup f_check_room_count = some ⟨oc_check_room_count, od_check_room_count, .func (PySem.W.fnOf "check_room_count" "check_room_count" (defArgs sRoom) (defBody sRoom) (defScope sRoom) .none kV_check_room_count dc_check_room_count pm_check_room_count an_check_room_count cd_check_room_count ct_check_room_count), sl_check_room_count⟩)
    (c_check_room_count : PySem.W.codeIn K cd_check_room_count "check_room_count" = true)
    (k_check_room_count : PySem.W.keepIn K (.ref f_check_room_count) = true)
    (a_checked_doors : PySem.W.nsIn K mainGlobals "checked_doors" = some (some (.ref f_checked_doors)))
    (l_checked_doors : K.lookup f_checked_doors = some ⟨oc_checked_doors, od_checked_doors, .func (PySem.W.fnOf "checked_doors" "checked_doors" (defArgs sChk) (defBody sChk) (defScope sChk) .none kV_checked_doors dc_checked_doors pm_checked_doors an_checked_doors cd_checked_doors ct_checked_doors), sl_checked_doors⟩)
    (c_checked_doors : PySem.W.codeIn K cd_checked_doors "checked_doors" = true)
    (k_checked_doors : PySem.W.keepIn K (.ref f_checked_doors) = true)
    (a_first_path : PySem.W.nsIn K mainGlobals "first_path" = some (some (.ref f_first_path)))
    (l_first_path : K.lookup f_first_path = some ⟨oc_first_path, od_first_path, .func (PySem.W.fnOf "first_path" "first_path" (defArgs sFst) (defBody sFst) (defScope sFst) .none kV_first_path dc_first_path pm_first_path an_first_path cd_first_path ct_first_path), sl_first_path⟩)
    (c_first_path : PySem.W.codeIn K cd_first_path "first_path" = true)
    (k_first_path : PySem.W.keepIn K (.ref f_first_path) = true)
    (a_first_paths : PySem.W.nsIn K mainGlobals "first_paths" = some (some (.ref f_first_paths)))
    (l_first_paths : K.lookup f_first_paths = some ⟨oc_first_paths, od_first_paths, .func (PySem.W.fnOf "first_paths" "first_paths" (defArgs sFp) (defBody sFp) (defScope sFp) .none kV_first_paths dc_first_paths pm_first_paths an_first_paths cd_first_paths ct_first_paths), sl_first_paths⟩)
    (c_first_paths : PySem.W.codeIn K cd_first_paths "first_paths" = true)
    (k_first_paths : PySem.W.keepIn K (.ref f_first_paths) = true)
    (a_last_places : PySem.W.nsIn K mainGlobals "last_places" = some (some (.ref f_last_places)))
    (l_last_places : K.lookup f_last_places = some ⟨oc_last_places, od_last_places, .func (PySem.W.fnOf "last_places" "last_places" (defArgs sLp) (defBody sLp) (defScope sLp) .none kV_last_places dc_last_places pm_last_places an_last_places cd_last_places ct_last_places), sl_last_places⟩)
    (c_last_places : PySem.W.codeIn K cd_last_places "last_places" = true)
    (k_last_places : PySem.W.keepIn K (.ref f_last_places) = true)
    (a_crossed_pairs : PySem.W.nsIn K mainGlobals "crossed_pairs" = some (some (.ref f_crossed_pairs)))
    (l_crossed_pairs : K.lookup f_crossed_pairs = some ⟨oc_crossed_pairs, od_crossed_pairs, .func (PySem.W.fnOf "crossed_pairs" "crossed_pairs" (defArgs sCrp) (defBody sCrp) (defScope sCrp) .none kV_crossed_pairs dc_crossed_pairs pm_crossed_pairs an_crossed_pairs cd_crossed_pairs ct_crossed_pairs), sl_crossed_pairs⟩)
    (c_crossed_pairs : PySem.W.codeIn K cd_crossed_pairs "crossed_pairs" = true)
    (k_crossed_pairs : PySem.W.keepIn K (.ref f_crossed_pairs) = true)
    (a_hall : PySem.W.nsIn K mainGlobals "hall" = some (some (.ref f_hall)))
    (l_hall : K.lookup f_hall = some ⟨oc_hall, od_hall, .func (PySem.W.fnOf "hall" "hall" (defArgs sHall) (defBody sHall) (defScope sHall) .none kV_hall dc_hall pm_hall an_hall cd_hall ct_hall), sl_hall⟩)
    (c_hall : PySem.W.codeIn K cd_hall "hall" = true)
    (k_hall : PySem.W.keepIn K (.ref f_hall) = true)
    (a_parting_path : PySem.W.nsIn K mainGlobals "parting_path" = some (some (.ref f_parting_path)))
    (l_parting_path : K.lookup f_parting_path = some ⟨oc_parting_path, od_parting_path, .func (PySem.W.fnOf "parting_path" "parting_path" (defArgs sPp) (defBody sPp) (defScope sPp) .none kV_parting_path dc_parting_path pm_parting_path an_parting_path cd_parting_path ct_parting_path), sl_parting_path⟩)
    (c_parting_path : PySem.W.codeIn K cd_parting_path "parting_path" = true)
    (k_parting_path : PySem.W.keepIn K (.ref f_parting_path) = true)
    (a_unlike_room : PySem.W.nsIn K mainGlobals "unlike_room" = some (some (.ref f_unlike_room)))
    (l_unlike_room : K.lookup f_unlike_room = some ⟨oc_unlike_room, od_unlike_room, .func (PySem.W.fnOf "unlike_room" "unlike_room" (defArgs sUr) (defBody sUr) (defScope sUr) .none kV_unlike_room dc_unlike_room pm_unlike_room an_unlike_room cd_unlike_room ct_unlike_room), sl_unlike_room⟩)
    (c_unlike_room : PySem.W.codeIn K cd_unlike_room "unlike_room" = true)
    (k_unlike_room : PySem.W.keepIn K (.ref f_unlike_room) = true)
    (a_alike : PySem.W.nsIn K mainGlobals "alike" = some (some (.ref f_alike)))
    (l_alike : K.lookup f_alike = some ⟨oc_alike, od_alike, .func (PySem.W.fnOf "alike" "alike" (defArgs sAlk) (defBody sAlk) (defScope sAlk) .none kV_alike dc_alike pm_alike an_alike cd_alike ct_alike), sl_alike⟩)
    (c_alike : PySem.W.codeIn K cd_alike "alike" = true)
    (k_alike : PySem.W.keepIn K (.ref f_alike) = true)
    (a__law_cell : PySem.W.nsIn K mainGlobals "_law_cell" = some (some (.ref f__law_cell)))
    (l__law_cell : K.lookup f__law_cell = some ⟨oc__law_cell, od__law_cell, .func (PySem.W.fnOf "_law_cell" "_law_cell" (defArgs sCell) (defBody sCell) (defScope sCell) .none kV__law_cell dc__law_cell pm__law_cell an__law_cell cd__law_cell ct__law_cell), sl__law_cell⟩)
    (c__law_cell : PySem.W.codeIn K cd__law_cell "_law_cell" = true)
    (k__law_cell : PySem.W.keepIn K (.ref f__law_cell) = true)
    (a__law_numbers : PySem.W.nsIn K mainGlobals "_law_numbers" = some (some (.ref f__law_numbers)))
    (l__law_numbers : K.lookup f__law_numbers = some ⟨oc__law_numbers, od__law_numbers, .func (PySem.W.fnOf "_law_numbers" "_law_numbers" (defArgs sNum) (defBody sNum) (defScope sNum) .none kV__law_numbers dc__law_numbers pm__law_numbers an__law_numbers cd__law_numbers ct__law_numbers), sl__law_numbers⟩)
    (c__law_numbers : PySem.W.codeIn K cd__law_numbers "_law_numbers" = true)
    (k__law_numbers : PySem.W.keepIn K (.ref f__law_numbers) = true)
    (a__law_names : PySem.W.nsIn K mainGlobals "_law_names" = some (some (.ref f__law_names)))
    (l__law_names : K.lookup f__law_names = some ⟨oc__law_names, od__law_names, .func (PySem.W.fnOf "_law_names" "_law_names" (defArgs sNam) (defBody sNam) (defScope sNam) .none kV__law_names dc__law_names pm__law_names an__law_names cd__law_names ct__law_names), sl__law_names⟩)
    (c__law_names : PySem.W.codeIn K cd__law_names "_law_names" = true)
    (k__law_names : PySem.W.keepIn K (.ref f__law_names) = true)
    (a__law_joined : PySem.W.nsIn K mainGlobals "_law_joined" = some (some (.ref f__law_joined)))
    (l__law_joined : K.lookup f__law_joined = some ⟨oc__law_joined, od__law_joined, .func (PySem.W.fnOf "_law_joined" "_law_joined" (defArgs sJnd) (defBody sJnd) (defScope sJnd) .none kV__law_joined dc__law_joined pm__law_joined an__law_joined cd__law_joined ct__law_joined), sl__law_joined⟩)
    (c__law_joined : PySem.W.codeIn K cd__law_joined "_law_joined" = true)
    (k__law_joined : PySem.W.keepIn K (.ref f__law_joined) = true)
    (a__law_doors : PySem.W.nsIn K mainGlobals "_law_doors" = some (some (.ref f__law_doors)))
    (l__law_doors : K.lookup f__law_doors = some ⟨oc__law_doors, od__law_doors, .func (PySem.W.fnOf "_law_doors" "_law_doors" (defArgs sDrs) (defBody sDrs) (defScope sDrs) .none kV__law_doors dc__law_doors pm__law_doors an__law_doors cd__law_doors ct__law_doors), sl__law_doors⟩)
    (c__law_doors : PySem.W.codeIn K cd__law_doors "_law_doors" = true)
    (k__law_doors : PySem.W.keepIn K (.ref f__law_doors) = true)
    (a__law_fewer : PySem.W.nsIn K mainGlobals "_law_fewer" = some (some (.ref f__law_fewer)))
    (l__law_fewer : K.lookup f__law_fewer = some ⟨oc__law_fewer, od__law_fewer, .func (PySem.W.fnOf "_law_fewer" "_law_fewer" (defArgs sFew) (defBody sFew) (defScope sFew) .none kV__law_fewer dc__law_fewer pm__law_fewer an__law_fewer cd__law_fewer ct__law_fewer), sl__law_fewer⟩)
    (c__law_fewer : PySem.W.codeIn K cd__law_fewer "_law_fewer" = true)
    (k__law_fewer : PySem.W.keepIn K (.ref f__law_fewer) = true)
    (a__law_openings : PySem.W.nsIn K mainGlobals "_law_openings" = some (some (.ref f__law_openings)))
    (l__law_openings : K.lookup f__law_openings = some ⟨oc__law_openings, od__law_openings, .func (PySem.W.fnOf "_law_openings" "_law_openings" (defArgs sOps) (defBody sOps) (defScope sOps) .none kV__law_openings dc__law_openings pm__law_openings an__law_openings cd__law_openings ct__law_openings), sl__law_openings⟩)
    (c__law_openings : PySem.W.codeIn K cd__law_openings "_law_openings" = true)
    (k__law_openings : PySem.W.keepIn K (.ref f__law_openings) = true)
    (a__law_same : PySem.W.nsIn K mainGlobals "_law_same" = some (some (.ref f__law_same)))
    (l__law_same : K.lookup f__law_same = some ⟨oc__law_same, od__law_same, .func (PySem.W.fnOf "_law_same" "_law_same" (defArgs sSame) (defBody sSame) (defScope sSame) .none kV__law_same dc__law_same pm__law_same an__law_same cd__law_same ct__law_same), sl__law_same⟩)
    (c__law_same : PySem.W.codeIn K cd__law_same "_law_same" = true)
    (k__law_same : PySem.W.keepIn K (.ref f__law_same) = true)
    (a__law_last : PySem.W.nsIn K mainGlobals "_law_last" = some (some (.ref f__law_last)))
    (l__law_last : K.lookup f__law_last = some ⟨oc__law_last, od__law_last, .func (PySem.W.fnOf "_law_last" "_law_last" (defArgs sLlast) (defBody sLlast) (defScope sLlast) .none kV__law_last dc__law_last pm__law_last an__law_last cd__law_last ct__law_last), sl__law_last⟩)
    (c__law_last : PySem.W.codeIn K cd__law_last "_law_last" = true)
    (k__law_last : PySem.W.keepIn K (.ref f__law_last) = true)
    (a__law_spelled : PySem.W.nsIn K mainGlobals "_law_spelled" = some (some (.ref f__law_spelled)))
    (l__law_spelled : K.lookup f__law_spelled = some ⟨oc__law_spelled, od__law_spelled, .func (PySem.W.fnOf "_law_spelled" "_law_spelled" (defArgs sSpell) (defBody sSpell) (defScope sSpell) .none kV__law_spelled dc__law_spelled pm__law_spelled an__law_spelled cd__law_spelled ct__law_spelled), sl__law_spelled⟩)
    (c__law_spelled : PySem.W.codeIn K cd__law_spelled "_law_spelled" = true)
    (k__law_spelled : PySem.W.keepIn K (.ref f__law_spelled) = true)
    (a__law_pool : PySem.W.nsIn K mainGlobals "_law_pool" = some (some (.ref f__law_pool)))
    (l__law_pool : K.lookup f__law_pool = some ⟨oc__law_pool, od__law_pool, .func (PySem.W.fnOf "_law_pool" "_law_pool" (defArgs sPool) (defBody sPool) (defScope sPool) .none kV__law_pool dc__law_pool pm__law_pool an__law_pool cd__law_pool ct__law_pool), sl__law_pool⟩)
    (c__law_pool : PySem.W.codeIn K cd__law_pool "_law_pool" = true)
    (k__law_pool : PySem.W.keepIn K (.ref f__law_pool) = true)
    (a__law_size : PySem.W.nsIn K mainGlobals "_law_size" = some (some (.ref f__law_size)))
    (l__law_size : K.lookup f__law_size = some ⟨oc__law_size, od__law_size, .func (PySem.W.fnOf "_law_size" "_law_size" (defArgs sSize) (defBody sSize) (defScope sSize) .none kV__law_size dc__law_size pm__law_size an__law_size cd__law_size ct__law_size), sl__law_size⟩)
    (c__law_size : PySem.W.codeIn K cd__law_size "_law_size" = true)
    (k__law_size : PySem.W.keepIn K (.ref f__law_size) = true)
    (a__law_drawn : PySem.W.nsIn K mainGlobals "_law_drawn" = some (some (.ref f__law_drawn)))
    (l__law_drawn : K.lookup f__law_drawn = some ⟨oc__law_drawn, od__law_drawn, .func (PySem.W.fnOf "_law_drawn" "_law_drawn" (defArgs sDrawn) (defBody sDrawn) (defScope sDrawn) .none kV__law_drawn dc__law_drawn pm__law_drawn an__law_drawn cd__law_drawn ct__law_drawn), sl__law_drawn⟩)
    (c__law_drawn : PySem.W.codeIn K cd__law_drawn "_law_drawn" = true)
    (k__law_drawn : PySem.W.keepIn K (.ref f__law_drawn) = true)
    (a__law_other : PySem.W.nsIn K mainGlobals "_law_other" = some (some (.ref f__law_other)))
    (l__law_other : K.lookup f__law_other = some ⟨oc__law_other, od__law_other, .func (PySem.W.fnOf "_law_other" "_law_other" (defArgs sLot) (defBody sLot) (defScope sLot) .none kV__law_other dc__law_other pm__law_other an__law_other cd__law_other ct__law_other), sl__law_other⟩)
    (c__law_other : PySem.W.codeIn K cd__law_other "_law_other" = true)
    (k__law_other : PySem.W.keepIn K (.ref f__law_other) = true)
    (a__law_areas : PySem.W.nsIn K mainGlobals "_law_areas" = some (some (.ref f__law_areas)))
    (l__law_areas : K.lookup f__law_areas = some ⟨oc__law_areas, od__law_areas, .func (PySem.W.fnOf "_law_areas" "_law_areas" (defArgs sAre) (defBody sAre) (defScope sAre) .none kV__law_areas dc__law_areas pm__law_areas an__law_areas cd__law_areas ct__law_areas), sl__law_areas⟩)
    (c__law_areas : PySem.W.codeIn K cd__law_areas "_law_areas" = true)
    (k__law_areas : PySem.W.keepIn K (.ref f__law_areas) = true)
    (a__law_words_kept : PySem.W.nsIn K mainGlobals "_law_words_kept" = some (some (.ref f__law_words_kept)))
    (l__law_words_kept : K.lookup f__law_words_kept = some ⟨oc__law_words_kept, od__law_words_kept, .func (PySem.W.fnOf "_law_words_kept" "_law_words_kept" (defArgs sWke) (defBody sWke) (defScope sWke) .none kV__law_words_kept dc__law_words_kept pm__law_words_kept an__law_words_kept cd__law_words_kept ct__law_words_kept), sl__law_words_kept⟩)
    (c__law_words_kept : PySem.W.codeIn K cd__law_words_kept "_law_words_kept" = true)
    (k__law_words_kept : PySem.W.keepIn K (.ref f__law_words_kept) = true)
    (a__law_heard_alike : PySem.W.nsIn K mainGlobals "_law_heard_alike" = some (some (.ref f__law_heard_alike)))
    (l__law_heard_alike : K.lookup f__law_heard_alike = some ⟨oc__law_heard_alike, od__law_heard_alike, .func (PySem.W.fnOf "_law_heard_alike" "_law_heard_alike" (defArgs sHal) (defBody sHal) (defScope sHal) .none kV__law_heard_alike dc__law_heard_alike pm__law_heard_alike an__law_heard_alike cd__law_heard_alike ct__law_heard_alike), sl__law_heard_alike⟩)
    (c__law_heard_alike : PySem.W.codeIn K cd__law_heard_alike "_law_heard_alike" = true)
    (k__law_heard_alike : PySem.W.keepIn K (.ref f__law_heard_alike) = true)
    (a__law_alike_right : PySem.W.nsIn K mainGlobals "_law_alike_right" = some (some (.ref f__law_alike_right)))
    (l__law_alike_right : K.lookup f__law_alike_right = some ⟨oc__law_alike_right, od__law_alike_right, .func (PySem.W.fnOf "_law_alike_right" "_law_alike_right" (defArgs sAri) (defBody sAri) (defScope sAri) .none kV__law_alike_right dc__law_alike_right pm__law_alike_right an__law_alike_right cd__law_alike_right ct__law_alike_right), sl__law_alike_right⟩)
    (c__law_alike_right : PySem.W.codeIn K cd__law_alike_right "_law_alike_right" = true)
    (k__law_alike_right : PySem.W.keepIn K (.ref f__law_alike_right) = true)
    (a_law : PySem.W.nsIn K mainGlobals "law" = some (some (.ref f_law)))
    (l_law : K.lookup f_law = some ⟨oc_law, od_law, .func (PySem.W.fnOf "law" "law" (defArgs sLaw) (defBody sLaw) (defScope sLaw) .none kV_law dc_law pm_law an_law cd_law ct_law), sl_law⟩)
    (c_law : PySem.W.codeIn K cd_law "law" = true)
    (k_law : PySem.W.keepIn K (.ref f_law) = true)
    (a_m_init_ : PySem.W.findIn K (.ref C) "__init__" = some (some (.ref f_m_init_)))
    (l_m_init_ : K.lookup f_m_init_ = some ⟨oc_m_init_, od_m_init_, .func (PySem.W.fnOf "__init__" "House.__init__" (defArgs sHinit) (defBody sHinit) (defScope sHinit) .none kV_m_init_ dc_m_init_ pm_m_init_ an_m_init_ cd_m_init_ ct_m_init_), sl_m_init_⟩)
    (c_m_init_ : PySem.W.codeIn K cd_m_init_ "House.__init__" = true)
    (k_m_init_ : PySem.W.keepIn K (.ref f_m_init_) = true)
    (i_m_init_ : PySem.W.isFn K (.ref f_m_init_) = true)
    (a_mneighbours : PySem.W.findIn K (.ref C) "neighbours" = some (some (.ref f_mneighbours)))
    (l_mneighbours : K.lookup f_mneighbours = some ⟨oc_mneighbours, od_mneighbours, .func (PySem.W.fnOf "neighbours" "House.neighbours" (defArgs sHnear) (defBody sHnear) (defScope sHnear) .none kV_mneighbours dc_mneighbours pm_mneighbours an_mneighbours cd_mneighbours ct_mneighbours), sl_mneighbours⟩)
    (c_mneighbours : PySem.W.codeIn K cd_mneighbours "House.neighbours" = true)
    (k_mneighbours : PySem.W.keepIn K (.ref f_mneighbours) = true)
    (i_mneighbours : PySem.W.isFn K (.ref f_mneighbours) = true)
    (a_mdoors : PySem.W.findIn K (.ref C) "doors" = some (some (.ref f_mdoors)))
    (l_mdoors : K.lookup f_mdoors = some ⟨oc_mdoors, od_mdoors, .func (PySem.W.fnOf "doors" "House.doors" (defArgs sHdoors) (defBody sHdoors) (defScope sHdoors) .none kV_mdoors dc_mdoors pm_mdoors an_mdoors cd_mdoors ct_mdoors), sl_mdoors⟩)
    (c_mdoors : PySem.W.codeIn K cd_mdoors "House.doors" = true)
    (k_mdoors : PySem.W.keepIn K (.ref f_mdoors) = true)
    (i_mdoors : PySem.W.isFn K (.ref f_mdoors) = true)
    (n_rooms : PySem.W.findIn K (.ref C) "rooms" = some none)
    (n__doors : PySem.W.findIn K (.ref C) "_doors" = some none)
    (n__near : PySem.W.findIn K (.ref C) "_near" = some none)
    (cr1 : PySem.W.readsIn K C (.type "type") = true)
    (cr2 : PySem.W.specialIn K (.ref C) "__getattribute__" = some (some (.builtin "type.__getattribute__")))
    (cv_MOST_ROOMS : PySem.W.findCls K (.ref C) (.type "type") "MOST_ROOMS" = some (.val (.int 12 tk_MOST_ROOMS)))
    (gf_nb : PySem.W.specialIn K (.ref f_mneighbours) "__get__" = some (some (.builtin "function.__get__")))
    (tk_nb : PySem.W.takesIn K (.ref f_mneighbours) = some false)
    (fi_nb : PySem.W.fnIn K f_mneighbours = true)
    (z_len : PySem.W.nsIn K mainGlobals "len" = some none)
    (z_abs : PySem.W.nsIn K mainGlobals "abs" = some none)
    (z_int : PySem.W.nsIn K mainGlobals "int" = some none)
    (z_range : PySem.W.nsIn K mainGlobals "range" = some none)
    (z_list : PySem.W.nsIn K mainGlobals "list" = some none)
    (z_tuple : PySem.W.nsIn K mainGlobals "tuple" = some none)
    (z_min : PySem.W.nsIn K mainGlobals "min" = some none)
    (z_max : PySem.W.nsIn K mainGlobals "max" = some none)
    (z_sorted : PySem.W.nsIn K mainGlobals "sorted" = some none)
    (z_isinstance : PySem.W.nsIn K mainGlobals "isinstance" = some none)
    (z_bool : PySem.W.nsIn K mainGlobals "bool" = some none)
    (z_str : PySem.W.nsIn K mainGlobals "str" = some none)
    (z_set : PySem.W.nsIn K mainGlobals "set" = some none)
    (z_enumerate : PySem.W.nsIn K mainGlobals "enumerate" = some none)
    (z_dict : PySem.W.nsIn K mainGlobals "dict" = some none)
    (z_reversed : PySem.W.nsIn K mainGlobals "reversed" = some none) :
    ∃ fd : FuncData, (∀ (s : Shared) (v : Value), BindsTo s fd ⟨[v], []⟩ [("script", v)]) ∧ ∀ base : Heap, K.In base → base.Ns mainGlobals mg → FnOk l.prog w K mg base CX0 7 fa fd ["script"] (spLaw K) := by
  have e := hfa.symm.trans (PySem.W.mg_of X G a_law)
  cases e
  have T : Bi mg := ⟨PySem.W.mg_none_of X G z_len, PySem.W.mg_none_of X G z_abs, PySem.W.mg_none_of X G z_int, PySem.W.mg_none_of X G z_range, PySem.W.mg_none_of X G z_list, PySem.W.mg_none_of X G z_tuple, PySem.W.mg_none_of X G z_min, PySem.W.mg_none_of X G z_max, PySem.W.mg_none_of X G z_sorted, PySem.W.mg_none_of X G z_isinstance, PySem.W.mg_none_of X G z_bool, PySem.W.mg_none_of X G z_str, PySem.W.mg_none_of X G z_set, PySem.W.mg_none_of X G z_enumerate⟩
  have F_last_calls := fun_mk (st := sLast) l_last_calls c_last_calls k_last_calls
  have at_last_calls := PySem.W.mg_of X G a_last_calls
  have b_last_calls := F_last_calls.binds (ps := ["log"]) fun _ _ _ _ _ _ us hl => match us, hl with | [_], _ => rfl
  have F_words_of := fun_mk (st := sWds) l_words_of c_words_of k_words_of
  have at_words_of := PySem.W.mg_of X G a_words_of
  have b_words_of := F_words_of.binds (ps := ["house", "log"]) fun _ _ _ _ _ _ us hl => match us, hl with | [_, _], _ => rfl
  have F_check_room_count := fun_mk (st := sRoom) l_check_room_count c_check_room_count k_check_room_count
  have at_check_room_count := PySem.W.mg_of X G a_check_room_count
  have b_check_room_count := F_check_room_count.binds (ps := ["rooms"]) fun _ _ _ _ _ _ us hl => match us, hl with | [_], _ => rfl
  have F_checked_doors := fun_mk (st := sChk) l_checked_doors c_checked_doors k_checked_doors
  have at_checked_doors := PySem.W.mg_of X G a_checked_doors
  have b_checked_doors := F_checked_doors.binds (ps := ["rooms", "doors"]) fun _ _ _ _ _ _ us hl => match us, hl with | [_, _], _ => rfl
  have F_first_path := fun_mk (st := sFst) l_first_path c_first_path k_first_path
  have at_first_path := PySem.W.mg_of X G a_first_path
  have b_first_path := F_first_path.binds (ps := ["house", "start", "goal", "inside"]) fun _ _ _ _ _ _ us hl => match us, hl with | [_, _, _, _], _ => rfl
  have F_first_paths := fun_mk (st := sFp) l_first_paths c_first_paths k_first_paths
  have at_first_paths := PySem.W.mg_of X G a_first_paths
  have b_first_paths := F_first_paths.binds (ps := ["steps", "start", "inside"]) fun _ _ _ _ _ _ us hl => match us, hl with | [_, _, _], _ => rfl
  have F_last_places := fun_mk (st := sLp) l_last_places c_last_places k_last_places
  have at_last_places := PySem.W.mg_of X G a_last_places
  have b_last_places := F_last_places.binds (ps := ["log"]) fun _ _ _ _ _ _ us hl => match us, hl with | [_], _ => rfl
  have F_crossed_pairs := fun_mk (st := sCrp) l_crossed_pairs c_crossed_pairs k_crossed_pairs
  have at_crossed_pairs := PySem.W.mg_of X G a_crossed_pairs
  have b_crossed_pairs := F_crossed_pairs.binds (ps := ["first", "second"]) fun _ _ _ _ _ _ us hl => match us, hl with | [_, _], _ => rfl
  have F_hall := fun_mk (st := sHall) l_hall c_hall k_hall
  have at_hall := PySem.W.mg_of X G a_hall
  have b_hall := F_hall.binds (ps := ["house", "first", "second", "pair"]) fun _ _ _ _ _ _ us hl => match us, hl with | [_, _, _, _], _ => rfl
  have F_parting_path := fun_mk (st := sPp) l_parting_path c_parting_path k_parting_path
  have at_parting_path := PySem.W.mg_of X G a_parting_path
  have b_parting_path := F_parting_path.binds (ps := ["house", "first", "second"]) fun _ _ _ _ _ _ us hl => match us, hl with | [_, _, _], _ => rfl
  have F_unlike_room := fun_mk (st := sUr) l_unlike_room c_unlike_room k_unlike_room
  have at_unlike_room := PySem.W.mg_of X G a_unlike_room
  have b_unlike_room := F_unlike_room.binds (ps := ["house", "first", "second"]) fun _ _ _ _ _ _ us hl => match us, hl with | [_, _, _], _ => rfl
  have F_alike := fun_mk (st := sAlk) l_alike c_alike k_alike
  have at_alike := PySem.W.mg_of X G a_alike
  have b_alike := F_alike.binds (ps := ["house", "first", "second"]) fun _ _ _ _ _ _ us hl => match us, hl with | [_, _, _], _ => rfl
  have F__law_cell := fun_mk (st := sCell) l__law_cell c__law_cell k__law_cell
  have at__law_cell := PySem.W.mg_of X G a__law_cell
  have b__law_cell := F__law_cell.binds (ps := ["script", "k"]) fun _ _ _ _ _ _ us hl => match us, hl with | [_, _], _ => rfl
  have F__law_numbers := fun_mk (st := sNum) l__law_numbers c__law_numbers k__law_numbers
  have at__law_numbers := PySem.W.mg_of X G a__law_numbers
  have b__law_numbers := F__law_numbers.binds (ps := ["cell", "count"]) fun _ _ _ _ _ _ us hl => match us, hl with | [_, _], _ => rfl
  have F__law_names := fun_mk (st := sNam) l__law_names c__law_names k__law_names
  have at__law_names := PySem.W.mg_of X G a__law_names
  have b__law_names := F__law_names.binds (ps := ["numbers", "at", "rooms"]) fun _ _ _ _ _ _ us hl => match us, hl with | [_, _, _], _ => rfl
  have F__law_joined := fun_mk (st := sJnd) l__law_joined c__law_joined k__law_joined
  have at__law_joined := PySem.W.mg_of X G a__law_joined
  have b__law_joined := F__law_joined.binds (ps := ["kind", "a", "b", "rooms", "number", "parent"]) fun _ _ _ _ _ _ us hl => match us, hl with | [_, _, _, _, _, _], _ => rfl
  have F__law_doors := fun_mk (st := sDrs) l__law_doors c__law_doors k__law_doors
  have at__law_doors := PySem.W.mg_of X G a__law_doors
  have b__law_doors := F__law_doors.binds (ps := ["numbers", "rooms"]) fun _ _ _ _ _ _ us hl => match us, hl with | [_, _], _ => rfl
  have F__law_fewer := fun_mk (st := sFew) l__law_fewer c__law_fewer k__law_fewer
  have at__law_fewer := PySem.W.mg_of X G a__law_fewer
  have b__law_fewer := F__law_fewer.binds (ps := ["doors", "most", "number"]) fun _ _ _ _ _ _ us hl => match us, hl with | [_, _, _], _ => rfl
  have F__law_openings := fun_mk (st := sOps) l__law_openings c__law_openings k__law_openings
  have at__law_openings := PySem.W.mg_of X G a__law_openings
  have b__law_openings := F__law_openings.binds (ps := ["doors"]) fun _ _ _ _ _ _ us hl => match us, hl with | [_], _ => rfl
  have F__law_same := fun_mk (st := sSame) l__law_same c__law_same k__law_same
  have at__law_same := PySem.W.mg_of X G a__law_same
  have b__law_same := F__law_same.binds (ps := ["got", "due"]) fun _ _ _ _ _ _ us hl => match us, hl with | [_, _], _ => rfl
  have F__law_last := fun_mk (st := sLlast) l__law_last c__law_last k__law_last
  have at__law_last := PySem.W.mg_of X G a__law_last
  have b__law_last := F__law_last.binds (ps := ["log"]) fun _ _ _ _ _ _ us hl => match us, hl with | [_], _ => rfl
  have F__law_spelled := fun_mk (st := sSpell) l__law_spelled c__law_spelled k__law_spelled
  have at__law_spelled := PySem.W.mg_of X G a__law_spelled
  have b__law_spelled := F__law_spelled.binds (ps := ["numbers", "at"]) fun _ _ _ _ _ _ us hl => match us, hl with | [_, _], _ => rfl
  have F__law_pool := fun_mk (st := sPool) l__law_pool c__law_pool k__law_pool
  have at__law_pool := PySem.W.mg_of X G a__law_pool
  have b__law_pool := F__law_pool.binds (ps := ["numbers", "at", "many"]) fun _ _ _ _ _ _ us hl => match us, hl with | [_, _, _], _ => rfl
  have F__law_size := fun_mk (st := sSize) l__law_size c__law_size k__law_size
  have at__law_size := PySem.W.mg_of X G a__law_size
  have b__law_size := F__law_size.binds (ps := ["number", "few", "most"]) fun _ _ _ _ _ _ us hl => match us, hl with | [_, _, _], _ => rfl
  have F__law_drawn := fun_mk (st := sDrawn) l__law_drawn c__law_drawn k__law_drawn
  have at__law_drawn := PySem.W.mg_of X G a__law_drawn
  have b__law_drawn := F__law_drawn.binds (ps := ["numbers", "many", "rooms", "pool"]) fun _ _ _ _ _ _ us hl => match us, hl with | [_, _, _, _], _ => rfl
  have F__law_other := fun_mk (st := sLot) l__law_other c__law_other k__law_other
  have at__law_other := PySem.W.mg_of X G a__law_other
  have b__law_other := F__law_other.binds (ps := ["numbers", "log", "free", "rooms", "pool"]) fun _ _ _ _ _ _ us hl => match us, hl with | [_, _, _, _, _], _ => rfl
  have F__law_areas := fun_mk (st := sAre) l__law_areas c__law_areas k__law_areas
  have at__law_areas := PySem.W.mg_of X G a__law_areas
  have b__law_areas := F__law_areas.binds (ps := ["rooms", "opening"]) fun _ _ _ _ _ _ us hl => match us, hl with | [_, _], _ => rfl
  have F__law_words_kept := fun_mk (st := sWke) l__law_words_kept c__law_words_kept k__law_words_kept
  have at__law_words_kept := PySem.W.mg_of X G a__law_words_kept
  have b__law_words_kept := F__law_words_kept.binds (ps := ["areas", "log"]) fun _ _ _ _ _ _ us hl => match us, hl with | [_, _], _ => rfl
  have F__law_heard_alike := fun_mk (st := sHal) l__law_heard_alike c__law_heard_alike k__law_heard_alike
  have at__law_heard_alike := PySem.W.mg_of X G a__law_heard_alike
  have b__law_heard_alike := F__law_heard_alike.binds (ps := ["doors", "rooms", "first", "second"]) fun _ _ _ _ _ _ us hl => match us, hl with | [_, _, _, _], _ => rfl
  have F__law_alike_right := fun_mk (st := sAri) l__law_alike_right c__law_alike_right k__law_alike_right
  have at__law_alike_right := PySem.W.mg_of X G a__law_alike_right
  have b__law_alike_right := F__law_alike_right.binds (ps := ["house", "first", "second", "due"]) fun _ _ _ _ _ _ us hl => match us, hl with | [_, _, _, _], _ => rfl
  have F_law := fun_mk (st := sLaw) l_law c_law k_law
  have at_law := PySem.W.mg_of X G a_law
  have F_m_init_ := fun_mk (st := sHinit) l_m_init_ c_m_init_ k_m_init_
  have b_m_init_ := F_m_init_.binds (ps := ["self", "rooms", "doors"]) fun _ _ _ _ _ _ us hl => match us, hl with | [_, _, _], _ => rfl
  have mk_ : Mk K C f_m_init_ := ⟨mk, a_m_init_, i_m_init_, kc⟩
  have F_mneighbours := fun_mk (st := sHnear) l_mneighbours c_mneighbours k_mneighbours
  have b_mneighbours := F_mneighbours.binds (ps := ["self", "room"]) fun _ _ _ _ _ _ us hl => match us, hl with | [_, _], _ => rfl
  have mt_mneighbours : Meth K C "neighbours" f_mneighbours := ⟨a_mneighbours, i_mneighbours, k_mneighbours⟩
  have F_mdoors := fun_mk (st := sHdoors) l_mdoors c_mdoors k_mdoors
  have b_mdoors := F_mdoors.binds (ps := ["self"]) fun _ _ _ _ _ _ us hl => match us, hl with | [_], _ => rfl
  have mt_mdoors : Meth K C "doors" f_mdoors := ⟨a_mdoors, i_mdoors, k_mdoors⟩
  have mrev := PySem.W.mg_none_of X G z_reversed
  have ndm := PySem.W.mg_none_of X G z_dict
  have U : Hs K mg C := ⟨⟨pg, hd, po, sa⟩, n_rooms, n__doors, n__near, PySem.W.mg_of X G aC, ⟨.type "type", _, ⟨cr1, cr2⟩, ⟨cv_MOST_ROOMS, ⟨_, rfl⟩⟩⟩⟩
  refine ⟨PySem.W.fnOf "law" "law" (defArgs sLaw) (defBody sLaw) (defScope sLaw) .none kV_law dc_law pm_law an_law cd_law ct_law, fun s v => .of_eq rfl, fun base _ _ => ?_⟩
  have bm : BMeth K C "neighbours" f_mneighbours := ⟨mt_mneighbours, gf_nb, tk_nb, by decide +kernel, fi_nb⟩
  have R1 : Df l.prog w K mg base "check_room_count" _ 1 spRoom _ _ := ⟨at_check_room_count, k_check_room_count, b_check_room_count, ok_room F_check_room_count U⟩
  have R2 : Df l.prog w K mg base "checked_doors" _ 1 spChk _ _ := ⟨at_checked_doors, k_checked_doors, b_checked_doors, ok_chk F_checked_doors T⟩
  have GN := ok_hnear (P := l.prog) (w := w) (base := base) F_mneighbours T U
  have MD : Md l.prog w K mg base C "doors" _ 1 (spHdoors C) _ _ := ⟨mt_mdoors, b_mdoors, ok_hdoors F_mdoors T U⟩
  have E1 : Df l.prog w K mg base "last_calls" _ 1 spLast _ _ := ⟨at_last_calls, k_last_calls, b_last_calls, ok_last F_last_calls T mrev⟩
  have E3 : Df l.prog w K mg base "words_of" _ 1 (spWds C) _ _ := ⟨at_words_of, k_words_of, b_words_of, ok_wds F_words_of U⟩
  have Q1 : Df l.prog w K mg base "first_paths" _ 2 (spFq K C f_mneighbours) _ _ := ⟨at_first_paths, k_first_paths, b_first_paths, ok_fq F_first_paths T U bm GN b_mneighbours⟩
  have Q2 : Df l.prog w K mg base "first_path" _ 3 (spFst K C) _ _ := ⟨at_first_path, k_first_path, b_first_path, ok_fst F_first_path T U bm Q1⟩
  have A1 : Df l.prog w K mg base "last_places" _ 1 spLp _ _ := ⟨at_last_places, k_last_places, b_last_places, ok_lp F_last_places T⟩
  have A2 : Df l.prog w K mg base "crossed_pairs" _ 2 spCrp _ _ := ⟨at_crossed_pairs, k_crossed_pairs, b_crossed_pairs, ok_crp F_crossed_pairs T ndm E1 A1⟩
  have A3 : Df l.prog w K mg base "hall" _ 2 (spHall C) _ _ := ⟨at_hall, k_hall, b_hall, ok_hall F_hall T U A1⟩
  have A4 : Df l.prog w K mg base "unlike_room" _ 2 (spUr C) _ _ := ⟨at_unlike_room, k_unlike_room, b_unlike_room, ok_ur F_unlike_room T U E3⟩
  have A5 : Df l.prog w K mg base "parting_path" _ 4 (spPp C) _ _ := ⟨at_parting_path, k_parting_path, b_parting_path, ok_pp (g := f_mneighbours) F_parting_path T U A4 A2 A3 Q2⟩
  have D1 : Df l.prog w K mg base "_law_cell" _ 1 (spCell K) _ _ := ⟨at__law_cell, k__law_cell, b__law_cell, ok_cell F__law_cell T⟩
  have D2 : Df l.prog w K mg base "_law_numbers" _ 1 (spNum K) _ _ := ⟨at__law_numbers, k__law_numbers, b__law_numbers, ok_num F__law_numbers T⟩
  have D3 : Df l.prog w K mg base "_law_names" _ 1 (spNam K) _ _ := ⟨at__law_names, k__law_names, b__law_names, ok_nam F__law_names T⟩
  have D4 : Df l.prog w K mg base "_law_joined" _ 1 spJnd _ _ := ⟨at__law_joined, k__law_joined, b__law_joined, ok_jnd F__law_joined T⟩
  have D5 : Df l.prog w K mg base "_law_doors" _ 2 (spDrs K) _ _ := ⟨at__law_doors, k__law_doors, b__law_doors, ok_drs F__law_doors T D3 D4⟩
  have D8 : Df l.prog w K mg base "_law_same" _ 3 (spSame 2) _ _ := ⟨at__law_same, k__law_same, b__law_same, ok_same F__law_same T b__law_same at__law_same 2⟩
  have D7 : Df l.prog w K mg base "_law_last" _ 1 spLast _ _ := ⟨at__law_last, k__law_last, b__law_last, ok_llast F__law_last T⟩
  have D10 : Df l.prog w K mg base "_law_spelled" _ 1 (spSpell K) _ _ := ⟨at__law_spelled, k__law_spelled, b__law_spelled, ok_spell F__law_spelled T⟩
  have D11 : Df l.prog w K mg base "_law_pool" _ 2 (spPool K) _ _ := ⟨at__law_pool, k__law_pool, b__law_pool, ok_pool F__law_pool T D10⟩
  have D12 : Df l.prog w K mg base "_law_size" _ 1 spSize _ _ := ⟨at__law_size, k__law_size, b__law_size, ok_size F__law_size T⟩
  have D13 : Df l.prog w K mg base "_law_drawn" _ 2 (spDrawn K) _ _ := ⟨at__law_drawn, k__law_drawn, b__law_drawn, ok_drawn F__law_drawn T D10⟩
  have D14 : Df l.prog w K mg base "_law_other" _ 2 (spLot K) _ _ := ⟨at__law_other, k__law_other, b__law_other, ok_lot F__law_other T D7 D3⟩
  have A7 : Df l.prog w K mg base "alike" _ 5 (spAlk C) _ _ := ⟨at_alike, k_alike, b_alike, ok_alk F_alike A5⟩
  have F1 : Df l.prog w K mg base "_law_fewer" _ 1 (spFew K) _ _ := ⟨at__law_fewer, k__law_fewer, b__law_fewer, ok_few F__law_fewer T⟩
  have F2 : Df l.prog w K mg base "_law_openings" _ 1 spOps _ _ := ⟨at__law_openings, k__law_openings, b__law_openings, ok_ops F__law_openings T⟩
  have F3 : Df l.prog w K mg base "_law_areas" _ 1 spAre _ _ := ⟨at__law_areas, k__law_areas, b__law_areas, ok_are F__law_areas T⟩
  have F4 : Df l.prog w K mg base "_law_words_kept" _ 1 spWke _ _ := ⟨at__law_words_kept, k__law_words_kept, b__law_words_kept, ok_wke F__law_words_kept⟩
  have F5 : Df l.prog w K mg base "_law_heard_alike" _ 2 spHal _ _ := ⟨at__law_heard_alike, k__law_heard_alike, b__law_heard_alike, ok_hal F__law_heard_alike F2 F3 F4⟩
  have F6 : Df l.prog w K mg base "_law_alike_right" _ 6 (spAri C) _ _ := ⟨at__law_alike_right, k__law_alike_right, b__law_alike_right, ok_ari F__law_alike_right T A7 D8⟩
  have GI := ok_hinit F_m_init_ T U R1 R2
  exact ok_law F_law T U mk_ GI b_m_init_ MD D1 D2 D5 D11 D12 D13 D14 D7 F1 F5 F6 A7 D8
theorem walk {l : PySem.W.OpenLaw} {q : Program} {loose : List Str} {XP : (Str → Option Value) → Heap → Prop} {YP : World → Heap → Prop} {d : DefRec} {K : Params → PySem.W.Frag} (hn : l.most = some 63) (hdf : d.params.defaults = [])
    (hY : ∀ (w : World) (h : Heap), YP w h → (K w.params).In h)
    (F : ∀ (w : World) (mg : Str → Option Value) (fa : Addr) (h : Heap), (K w.params).In h → h.Ns mainGlobals mg → mg d.name = some (.ref fa) →
      ∃ fd : FuncData, (∀ (s : Shared) (u : Value), BindsTo s fd ⟨[u], []⟩ [("script", u)]) ∧ ∀ base : Heap, (K w.params).In base → base.Ns mainGlobals mg → FnOk l.prog w (K w.params) mg base CX0 7 fa fd ["script"] (spLaw (K w.params))) :
    PySem.W.WalkO q loose XP YP l.row.toRowW d [] (fun f vs => PySem.call f vs) :=
  L2.walk_of (n := 63) (k := 7) (x := "script") (CX := fun _ => CX0) (sp := fun w => spLaw (K w.params)) hn (by decide) hdf ⟨rfl, by decide, by decide⟩ hY F (fun _ _ a ns hl _ hS => ⟨a, ns, rfl, hS, hl, fun _ => rfl⟩) fun _ _ _ _ _ z => z
end My

open PySem PySem.W PyProof.Rows in
set_option maxRecDepth 100000 in
set_option maxHeartbeats 0 in
theorem PySem.Challenge.cw_callsheard_k09_whole_alike_by_openings_holds : PySem.Challenge.rw_callsheard_k09_whole_alike_by_openings.Holds := by
  w_on; o_law; k_head; (case hw => w_witness2)
  k_fill
  refine My.walk (l := PySem.Challenge.rw_callsheard_k09_whole_alike_by_openings) rfl rfl (fun w h Y => PySem.W.kIn_of Y) ?F
  case F =>
    intro w mg fa h KX G hmg
    refine' My.all_mk KX G hmg ?aC ?pg ?hd ?po ?sa ?mk ?kc ?a_last_calls ?l_last_calls ?c_last_calls ?k_last_calls ?a_words_of ?l_words_of ?c_words_of ?k_words_of ?a_check_room_count ?l_check_room_count ?c_check_room_count ?k_check_room_count ?a_checked_doors ?l_checked_doors ?c_checked_doors ?k_checked_doors ?a_first_path ?l_first_path ?c_first_path ?k_first_path ?a_first_paths ?l_first_paths ?c_first_paths ?k_first_paths ?a_last_places ?l_last_places ?c_last_places ?k_last_places ?a_crossed_pairs ?l_crossed_pairs ?c_crossed_pairs ?k_crossed_pairs ?a_hall ?l_hall ?c_hall ?k_hall ?a_parting_path ?l_parting_path ?c_parting_path ?k_parting_path ?a_unlike_room ?l_unlike_room ?c_unlike_room ?k_unlike_room ?a_alike ?l_alike ?c_alike ?k_alike ?a__law_cell ?l__law_cell ?c__law_cell ?k__law_cell ?a__law_numbers ?l__law_numbers ?c__law_numbers ?k__law_numbers ?a__law_names ?l__law_names ?c__law_names ?k__law_names ?a__law_joined ?l__law_joined ?c__law_joined ?k__law_joined ?a__law_doors ?l__law_doors ?c__law_doors ?k__law_doors ?a__law_fewer ?l__law_fewer ?c__law_fewer ?k__law_fewer ?a__law_openings ?l__law_openings ?c__law_openings ?k__law_openings ?a__law_same ?l__law_same ?c__law_same ?k__law_same ?a__law_last ?l__law_last ?c__law_last ?k__law_last ?a__law_spelled ?l__law_spelled ?c__law_spelled ?k__law_spelled ?a__law_pool ?l__law_pool ?c__law_pool ?k__law_pool ?a__law_size ?l__law_size ?c__law_size ?k__law_size ?a__law_drawn ?l__law_drawn ?c__law_drawn ?k__law_drawn ?a__law_other ?l__law_other ?c__law_other ?k__law_other ?a__law_areas ?l__law_areas ?c__law_areas ?k__law_areas ?a__law_words_kept ?l__law_words_kept ?c__law_words_kept ?k__law_words_kept ?a__law_heard_alike ?l__law_heard_alike ?c__law_heard_alike ?k__law_heard_alike ?a__law_alike_right ?l__law_alike_right ?c__law_alike_right ?k__law_alike_right ?a_law ?l_law ?c_law ?k_law ?a_m_init_ ?l_m_init_ ?c_m_init_ ?k_m_init_ ?i_m_init_ ?a_mneighbours ?l_mneighbours ?c_mneighbours ?k_mneighbours ?i_mneighbours ?a_mdoors ?l_mdoors ?c_mdoors ?k_mdoors ?i_mdoors ?n_rooms ?n__doors ?n__near ?cr1 ?cr2 ?cv_MOST_ROOMS ?gf_nb ?tk_nb ?fi_nb ?z_len ?z_abs ?z_int ?z_range ?z_list ?z_tuple ?z_min ?z_max ?z_sorted ?z_isinstance ?z_bool ?z_str ?z_set ?z_enumerate ?z_dict ?z_reversed
    (case aC => k_is)
    (case pg => k_is)
    (case hd => k_is)
    (case po => k_is)
    (case sa => k_is)
    (case mk => k_is)
    (case kc => k_is)
    (case a_last_calls => k_is)
    (case l_last_calls => k_is)
    (case c_last_calls => k_is)
    (case k_last_calls => k_is)
    (case a_words_of => k_is)
    (case l_words_of => k_is)
    (case c_words_of => k_is)
    (case k_words_of => k_is)
    (case a_check_room_count => k_is)
    (case l_check_room_count => k_is)
    (case c_check_room_count => k_is)
    (case k_check_room_count => k_is)
    (case a_checked_doors => k_is)
    (case l_checked_doors => k_is)
    (case c_checked_doors => k_is)
    (case k_checked_doors => k_is)
    (case a_first_path => k_is)
    (case l_first_path => k_is)
    (case c_first_path => k_is)
    (case k_first_path => k_is)
    (case a_first_paths => k_is)
    (case l_first_paths => k_is)
    (case c_first_paths => k_is)
    (case k_first_paths => k_is)
    (case a_last_places => k_is)
    (case l_last_places => k_is)
    (case c_last_places => k_is)
    (case k_last_places => k_is)
    (case a_crossed_pairs => k_is)
    (case l_crossed_pairs => k_is)
    (case c_crossed_pairs => k_is)
    (case k_crossed_pairs => k_is)
    (case a_hall => k_is)
    (case l_hall => k_is)
    (case c_hall => k_is)
    (case k_hall => k_is)
    (case a_parting_path => k_is)
    (case l_parting_path => k_is)
    (case c_parting_path => k_is)
    (case k_parting_path => k_is)
    (case a_unlike_room => k_is)
    (case l_unlike_room => k_is)
    (case c_unlike_room => k_is)
    (case k_unlike_room => k_is)
    (case a_alike => k_is)
    (case l_alike => k_is)
    (case c_alike => k_is)
    (case k_alike => k_is)
    (case a__law_cell => k_is)
    (case l__law_cell => k_is)
    (case c__law_cell => k_is)
    (case k__law_cell => k_is)
    (case a__law_numbers => k_is)
    (case l__law_numbers => k_is)
    (case c__law_numbers => k_is)
    (case k__law_numbers => k_is)
    (case a__law_names => k_is)
    (case l__law_names => k_is)
    (case c__law_names => k_is)
    (case k__law_names => k_is)
    (case a__law_joined => k_is)
    (case l__law_joined => k_is)
    (case c__law_joined => k_is)
    (case k__law_joined => k_is)
    (case a__law_doors => k_is)
    (case l__law_doors => k_is)
    (case c__law_doors => k_is)
    (case k__law_doors => k_is)
    (case a__law_fewer => k_is)
    (case l__law_fewer => k_is)
    (case c__law_fewer => k_is)
    (case k__law_fewer => k_is)
    (case a__law_openings => k_is)
    (case l__law_openings => k_is)
    (case c__law_openings => k_is)
    (case k__law_openings => k_is)
    (case a__law_same => k_is)
    (case l__law_same => k_is)
    (case c__law_same => k_is)
    (case k__law_same => k_is)
    (case a__law_last => k_is)
    (case l__law_last => k_is)
    (case c__law_last => k_is)
    (case k__law_last => k_is)
    (case a__law_spelled => k_is)
    (case l__law_spelled => k_is)
    (case c__law_spelled => k_is)
    (case k__law_spelled => k_is)
    (case a__law_pool => k_is)
    (case l__law_pool => k_is)
    (case c__law_pool => k_is)
    (case k__law_pool => k_is)
    (case a__law_size => k_is)
    (case l__law_size => k_is)
    (case c__law_size => k_is)
    (case k__law_size => k_is)
    (case a__law_drawn => k_is)
    (case l__law_drawn => k_is)
    (case c__law_drawn => k_is)
    (case k__law_drawn => k_is)
    (case a__law_other => k_is)
    (case l__law_other => k_is)
    (case c__law_other => k_is)
    (case k__law_other => k_is)
    (case a__law_areas => k_is)
    (case l__law_areas => k_is)
    (case c__law_areas => k_is)
    (case k__law_areas => k_is)
    (case a__law_words_kept => k_is)
    (case l__law_words_kept => k_is)
    (case c__law_words_kept => k_is)
    (case k__law_words_kept => k_is)
    (case a__law_heard_alike => k_is)
    (case l__law_heard_alike => k_is)
    (case c__law_heard_alike => k_is)
    (case k__law_heard_alike => k_is)
    (case a__law_alike_right => k_is)
    (case l__law_alike_right => k_is)
    (case c__law_alike_right => k_is)
    (case k__law_alike_right => k_is)
    (case a_law => k_is)
    (case l_law => k_is)
    (case c_law => k_is)
    (case k_law => k_is)
    (case a_m_init_ => k_is)
    (case l_m_init_ => k_is)
    (case c_m_init_ => k_is)
    (case k_m_init_ => k_is)
    (case i_m_init_ => k_is)
    (case a_mneighbours => k_is)
    (case l_mneighbours => k_is)
    (case c_mneighbours => k_is)
    (case k_mneighbours => k_is)
    (case i_mneighbours => k_is)
    (case a_mdoors => k_is)
    (case l_mdoors => k_is)
    (case c_mdoors => k_is)
    (case k_mdoors => k_is)
    (case i_mdoors => k_is)
    (case n_rooms => k_is)
    (case n__doors => k_is)
    (case n__near => k_is)
    (case cr1 => k_is)
    (case cr2 => k_is)
    (case cv_MOST_ROOMS => k_is)
    (case gf_nb => k_is)
    (case tk_nb => k_is)
    (case fi_nb => k_is)
    (case z_len => k_is)
    (case z_abs => k_is)
    (case z_int => k_is)
    (case z_range => k_is)
    (case z_list => k_is)
    (case z_tuple => k_is)
    (case z_min => k_is)
    (case z_max => k_is)
    (case z_sorted => k_is)
    (case z_isinstance => k_is)
    (case z_bool => k_is)
    (case z_str => k_is)
    (case z_set => k_is)
    (case z_enumerate => k_is)
    (case z_dict => k_is)
    (case z_reversed => k_is)


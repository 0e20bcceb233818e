import PyProof.Rows.All
import Wide.All
import OpenK.AllK
import Wide.FinOn
import HandS.ForMost
import HandS.SortRule
import HandS.IsInst
import HandS.Deep
import HandS.Property
import HandS.TupSets
import HandS.Style
import HandS.Conv
import HandS.Evl
import HandS.ClsMeth
import HandS.ExcInit
import HandS.ExcField
import HandS.ExcOwn
import HandS.WordsExc
import KE.KExcIs
import KE.KIsAll
import HandS.Codes
import HandS.ExcIs
import PySem.Challenge.RW_callsheard_k01_house_refused
set_option Elab.async false
set_option linter.all false
set_option maxRecDepth 100000
namespace My
open PySem PySem.Spec PyProof.Rows L2
theorem cxK {CX : CXT} {P : Program} {w : World} {K : PySem.W.Frag} {mg : Str → Option Value} {base : Heap} {N : List Str} {q : Str} {sc : Scope} {f : Addr} {cdv : Value} {A : Around} {outer : List Env} {s : Shared} {H : Hp} {E : XK} : (cxOf CX P w K mg base N q sc f cdv A outer s H E).nox.K = K := rfl
theorem cxK2 {CX : CXT} {P : Program} {w : World} {K : PySem.W.Frag} {mg : Str → Option Value} {base : Heap} {N : List Str} {q : Str} {sc : Scope} {f : Addr} {cdv : Value} {A : Around} {outer : List Env} {s : Shared} {H : Hp} {E : XK} : (cxOf CX P w K mg base N q sc f cdv A outer s H E).K = K := rfl
theorem cxP {CX : CXT} {P : Program} {w : World} {K : PySem.W.Frag} {mg : Str → Option Value} {base : Heap} {N : List Str} {q : Str} {sc : Scope} {f : Addr} {cdv : Value} {A : Around} {outer : List Env} {s : Shared} {H : Hp} {E : XK} : (cxOf CX P w K mg base N q sc f cdv A outer s H E).prog = P := rfl
theorem cxW {CX : CXT} {P : Program} {w : World} {K : PySem.W.Frag} {mg : Str → Option Value} {base : Heap} {N : List Str} {q : Str} {sc : Scope} {f : Addr} {cdv : Value} {A : Around} {outer : List Env} {s : Shared} {H : Hp} {E : XK} : (cxOf CX P w K mg base N q sc f cdv A outer s H E).w = w := rfl
/-- built-in names that the text has not bound -/
structure Bi (mg : Str → Option Value) : Prop where
  len : mg "len" = none
  abs : mg "abs" = none
  int : mg "int" = none
  range : mg "range" = none
  list : mg "list" = none
  tuple : mg "tuple" = none
  min : mg "min" = none
  max : mg "max" = none
  sorted : mg "sorted" = none
  isinstance : mg "isinstance" = none
  bool : mg "bool" = none
  str : mg "str" = none
  set : mg "set" = none
  enumerate : mg "enumerate" = none
/-- a def of the text, bound in the module, that keeps a promise -/
structure Df (P : Program) (w : World) (K : PySem.W.Frag) (mg : Str → Option Value) (base : Heap) (x : Str) (ps : List Str) (k : Nat) (sp : Sp) (f : Addr) (fd : FuncData) : Prop where
  at_ : mg x = some (.ref f)
  kp : PySem.W.keepIn K (.ref f) = true
  b : Binds K fd ps []
  ok : FnOk P w K mg base CX0 k f fd ps sp
local macro_rules | `(tactic| walk_at "rd") => `(tactic| try simp only [cxK, cxK2, cxP, cxW, L2.start, List.length_cons, List.length_nil, List.replicate_succ, List.replicate_zero, List.map_cons, List.map_nil, List.cons_append, List.nil_append, tVar, tC, tAdd, tSub, t2I, tIsN, tNotN, tB, tAnd, tOr, tNot, tAndV, tOrV, tNotV, tIf, tNext, tSeq, tBreak, tCont, tDrop, tRet, tRetN, tIfS, gName, gNil, gCons, gTup, gSub, tAsg, tOp, tUn, rI, rI0, rU, tTest, tChain, tNil, tCons, tTup, tLst, tCall, tCB, tNoPart, tPart, tSl, rIxL, rIxT, rIxS, rSetL, rAppend, rExtend, tBM, tBM0, tFld, tMeth, tMake, sFld, tYes, tLstRg, tRg1, tRg2, rSlL, iRng1, iRng2, iList, List.getElem?_cons_zero, List.getElem?_cons_succ, Option.some.injEq, List.cons.injEq, V.int.injEq, V.ref.injEq, V.bl.injEq, V.str.injEq, exists_eq_left', exists_eq_left, exists_eq_right, exists_eq_right', true_and, and_true, and_assoc, exists_and_left, exists_and_right, List.set_cons_zero, List.set_cons_succ, List.append_nil, reduceCtorEq, false_and, and_false, exists_false, or_false, false_or, decide_eq_true_eq, Nat.reduceAdd, Nat.reduceSub])
section
variable {X : Cx}
theorem cr_intI : CallR X (.type "int") (fun xs H Q => ∃ i, xs = [.int i] ∧ Q (.int i) H) := fun pins s σ H xs us Q I r h => call_int1 pins s σ H xs us Q I r (.inl h)
theorem op_eqI : OpR X (compareOp .Eq) (rI0 fun i j => .bl (decide (i = j))) := fun pins s σ H x y v u Q I rx ry h => by
  obtain ⟨i, j, rfl, rfl, q⟩ := h
  have e : decide (i = j) = decide (V.int i = V.int j) := by
    by_cases h : i = j
    · subst h
      rw [decide_eq_true rfl, decide_eq_true rfl]
    · rw [decide_eq_false h, decide_eq_false (fun z => h (V.int.inj z))]
  exact op_eq pins s σ H _ _ v u Q I rx ry ⟨rfl, by rw [← e]; exact q⟩
theorem op_neI : OpR X (compareOp .NotEq) (rI0 fun i j => .bl (!decide (i = j))) := fun pins s σ H x y v u Q I rx ry h => by
  obtain ⟨i, j, rfl, rfl, q⟩ := h
  have e : decide (i = j) = decide (V.int i = V.int j) := by
    by_cases h : i = j
    · subst h
      rw [decide_eq_true rfl, decide_eq_true rfl]
    · rw [decide_eq_false h, decide_eq_false (fun z => h (V.int.inj z))]
  exact op_ne pins s σ H _ _ v u Q I rx ry ⟨rfl, by rw [← e]; exact q⟩
def rIsT : R2 := fun x y H Q => ∃ b : Bool, y = .bl b ∧ Q (.bl (decide (x = .bl b))) H
/-- x is True, x is False -/
theorem op_isT : OpR X (compareOp .Is) rIsT := by
  intro pins s σ H x y v u Q I rx ry h
  obtain ⟨b, rfl, q⟩ := h
  cases (show u = Value.bool b from ry)
  cases x with
  | non => cases (show v = Value.none from rx); exact wpAny_is_other rfl (fun z => nomatch z) ⟨.bl false, H, I, rfl, by simpa using q⟩
  | bl a =>
    cases (show v = Value.bool a from rx)
    by_cases e : a = b
    · subst e
      exact wpAny_is_self rfl ⟨.bl true, H, I, rfl, by simpa using q⟩
    · exact wpAny_is_other rfl (fun z => e (Value.bool.inj z)) ⟨.bl false, H, I, rfl, by simpa [e] using q⟩
  | int i => obtain ⟨t, e⟩ := (show ∃ t, v = Value.int i t from rx); cases e; exact wpAny_is_other rfl (fun z => nomatch z) ⟨.bl false, H, I, rfl, by simpa using q⟩
  | str i => obtain ⟨t, e⟩ := (show ∃ t, v = Value.str i t from rx); cases e; exact wpAny_is_other rfl (fun z => nomatch z) ⟨.bl false, H, I, rfl, by simpa using q⟩
  | byt i => obtain ⟨t, e⟩ := (show ∃ t, v = Value.bytes i t from rx); cases e; exact wpAny_is_other rfl (fun z => nomatch z) ⟨.bl false, H, I, rfl, by simpa using q⟩
  | flt i => obtain ⟨t, e⟩ := (show ∃ t, v = Value.float i t from rx); cases e; exact wpAny_is_other rfl (fun z => nomatch z) ⟨.bl false, H, I, rfl, by simpa using q⟩
  | ref a => cases (show v = Value.ref a from rx); exact wpAny_is_other rfl (fun z => nomatch z) ⟨.bl false, H, I, rfl, by simpa using q⟩
  | ty n => cases (show v = Value.type n from rx); exact wpAny_is_other rfl (fun z => nomatch z) ⟨.bl false, H, I, rfl, by simpa using q⟩
end
theorem same_upd {H : Hp} {p : Addr} {o : HO} (h : H p = none) : Same H (upd H p o) := fun b x e => by
  rw [upd_ne (ne_of_none e h)]
  exact e
/-- a list that was new and is changed: what stood before stands -/
theorem same_ch {H0 H : Hp} {p : Addr} {o : HO} (s : Same H0 H) (n : H0 p = none) : Same H0 (upd H p o) := fun b x e => by
  rw [upd_ne (ne_of_none e n)]
  exact s _ _ e
theorem ixn {n j : Nat} {z : Int} (e : z = (j : Int)) (hj : j < n) : ixN n z = some j := by
  rw [e]
  unfold ixN
  rw [if_pos (by omega), if_pos (by omega)]
  simp
theorem len_big {n : Nat} (h : n ≤ 100000) : n < sizeLine := Nat.lt_of_le_of_lt h (by decide)
theorem mem_ix {α : Type} {l : List α} {i : Nat} (h : i < l.length) : ∃ x, l[i]? = some x ∧ x ∈ l := ⟨l[i], List.getElem?_eq_getElem h, List.getElem_mem h⟩

def topS (i : Nat) : Stmt := PySem.Challenge.pw_callsheard_k01_house_refused.main.body.getD i (.Pass ⟨0, 0, 0, 0⟩)
abbrev sCell : Stmt := topS 11
abbrev sNum : Stmt := topS 12
def cellN (ns : List Int) (k : Nat) : Int := (ns.getD k 0).natAbs
theorem cellN_nn (ns : List Int) (k : Nat) : 0 ≤ cellN ns k := Int.natCast_nonneg _
section
variable {P : Program} {w : World} {K : PySem.W.Frag} {mg : Str → Option Value} {base : Heap}
theorem scCell : FnScope ["script", "k"] ["script", "k"] (defScope sCell) := ⟨rfl, rfl, rfl, by decide +kernel, rfl, by decide +kernel, by decide +kernel⟩
def spCell (K : PySem.W.Frag) : Sp := fun vs H Q _ => ∃ (a : Addr) (ns : List Int) (k : Nat), vs = [.ref a, .int k] ∧ SqL K H a (ns.map V.int) ∧ ∀ c, 0 ≤ c → Q (.int c) H
theorem ok_cell {f : Addr} {fd : FuncData} (F : Fun K "_law_cell" "_law_cell" sCell f fd) (T : Bi mg) : FnOk P w K mg base CX0 1 f fd ["script", "k"] (spCell K) := by
  refine F.ok scCell (fun vs H Q E h => ?_) (fun cdv A outer s H vs Q E hr h => ?_)
  · obtain ⟨a, ns, k, rfl, _⟩ := h
    rfl
  · obtain ⟨a, ns, k, rfl, hS, q⟩ := h
    refine ⟨_, (pss_cons (ps_if (pt_cmpR op_lt (pv 1) (pe_callB call_len_seq (by rfl) T.len (by decide +kernel) (pa_cons (pv 0) pa_nil)) (nomark _))
      (pss_one (ps_ret (pe_callB call_abs (by rfl) T.abs (by decide +kernel) (pa_cons (pe_callTy cr_intI (by rfl) T.int (by decide +kernel) (pa_cons (pe_ix ix_list (pv 0) (pv 1) (fun _ _ => rfl)) pa_nil)) pa_nil))))
      pss_nil)
      (pss_one (ps_ret pe_int))), ?_⟩
    walk_at "rd"
    refine ⟨_, .inl hS, ?_⟩
    rw [List.length_map]
    refine ite2 (fun hk => ?_) (fun _ => q _ (Int.le_refl _))
    have hk2 : k < ns.length := by omega
    refine ⟨_, hS, V.int ns[k], atI_nat (by rw [List.getElem?_map, List.getElem?_eq_getElem hk2]; rfl), _, rfl, ?_⟩
    refine q _ ?_
    split <;> omega
theorem scNum : FnScope ["cell", "count", "numbers", "rest", "mixed", "k"] ["cell", "count"] (defScope sNum) := ⟨rfl, rfl, rfl, by decide +kernel, rfl, by decide +kernel, by decide +kernel⟩
/-- n ints from 0 on below 997 -/
def Nums (n : Nat) (ns : List Int) : Prop := ns.length = n ∧ ∀ x ∈ ns, 0 ≤ x ∧ x < 997
def spNum (K : PySem.W.Frag) : Sp := fun vs H Q _ => ∃ (c : Int) (n : Nat), vs = [.int c, .int n] ∧ n ≤ 1000 ∧ ∀ ns p H', Nums n ns → Same H H' → H p = none → H' p = some (.lst (ns.map V.int)) → Q (.ref p) H'
theorem ok_num {f : Addr} {fd : FuncData} (F : Fun K "_law_numbers" "_law_numbers" sNum f fd) (T : Bi mg) : FnOk P w K mg base CX0 1 f fd ["cell", "count"] (spNum K) := by
  refine F.ok scNum (fun vs H Q E h => ?_) (fun cdv A outer s H vs Q E hr h => ?_)
  · obtain ⟨c, n, rfl, _⟩ := h
    rfl
  · obtain ⟨c, n, rfl, hn, q⟩ := h
    refine ⟨_, (pss_cons (ps_set (i := 2) scNum.nd rfl (Or.inl rfl) (pe_lst pa_nil))
      (pss_cons (ps_set (i := 3) scNum.nd rfl (Or.inl rfl) (pv 0))
      (pss_cons (ps_set (i := 4) scNum.nd rfl (Or.inl rfl) (pe_op op_mod (pe_callTy cr_intI (by rfl) T.int (by decide +kernel) (pa_cons (pe_op op_add (pe_op op_mul (pv 0) pe_int) pe_int) pa_nil)) pe_int))
      (pss_cons (ps_for PassesOwn.never rfl (pi_range1 (by rfl) T.range (pa_cons (pv 1) pa_nil)) (pg_name (i := 5) scNum.nd rfl (Or.inl rfl))
      (pss_cons (ps_set (i := 4) scNum.nd rfl (Or.inl rfl) (pe_op op_mod (pe_callTy cr_intI (by rfl) T.int (by decide +kernel) (pa_cons (pe_op op_add (pe_op op_add (pe_op op_mul (pv 4) pe_int) (pe_op op_mul pe_int (pv 5))) pe_int) pa_nil)) pe_int))
        (pss_one (ps_if (pt_cmpR op_ge (pv 0) (pe_op op_pow pe_int pe_int) (nomark _))
        (pss_cons (ps_expr (pe_bm PySem.F.plainAttrs_list PySem.F.slot_list_append PySem.F.type_list_append mt_append (pv 2) (pa_cons (pe_op op_mod (pe_callTy cr_intI (by rfl) T.int (by decide +kernel) (pa_cons (pv 3) pa_nil)) pe_int) pa_nil)))
          (pss_one (ps_set (i := 3) scNum.nd rfl (Or.inl rfl) (pe_op op_fdiv (pv 3) pe_int))))
        (pss_one (ps_expr (pe_bm PySem.F.plainAttrs_list PySem.F.slot_list_append PySem.F.type_list_append mt_append (pv 2) (pa_cons (pe_op op_mod (pe_callTy cr_intI (by rfl) T.int (by decide +kernel) (pa_cons (pe_op op_fdiv (pv 4) pe_int) pa_nil)) pe_int) pa_nil))))))))
      (pss_one (ps_ret (pv 2))))))), ?_⟩
    walk_at "rd"
    refine ⟨by decide, fun p np => ⟨.inr (by decide), by decide, ?_⟩⟩
    refine ⟨_, rfl, _, rfl, by omega, by omega, for_range (lo := 0) (n := (n : Int).toNat) (fun i σ H' => ∃ (ns : List Int) (rest mixed : Int) (v : Option V), σ = [some (.int c), some (.int n), some (.ref p), some (.int rest), some (.int mixed), v] ∧ Nums i ns ∧ Same H H' ∧ H' p = some (.lst (ns.map V.int)))
      ⟨[], c, _, none, rfl, ⟨rfl, fun x hx => by cases hx⟩, same_upd np, upd_same⟩ ?_ ?_⟩
    · rintro i σ H' hi ⟨ns, rest, mixed, v, rfl, hns, sm, hp⟩
      have small : (List.map V.int ns).length < sizeLine := len_big (by rw [List.length_map, hns.1]; omega)
      have next : ∀ y, 0 ≤ y → y < 997 → Nums (i + 1) (ns ++ [y]) := fun y h0 h1 => by
        refine ⟨by rw [List.length_append, hns.1]; rfl, fun x hx => ?_⟩
        rcases List.mem_append.mp hx with hx | hx
        · exact hns.2 x hx
        · rw [List.mem_singleton.mp hx]
          exact ⟨h0, h1⟩
      have ty : tyV K "list" (.ref p) H' := .inl ⟨rfl, _, SqL.of hp⟩
      walk_at "rd"
      refine ⟨.inr (by decide), .inl (by decide), by decide, ⟨by decide, by decide, by decide⟩, ite2 (fun _ => ?_) (fun _ => ?_)⟩
      · refine ⟨ty, by decide, _, hp, small, ⟨by decide, by decide⟩, ns ++ [rest % 997], next _ (Int.emod_nonneg _ (by decide)) (Int.emod_lt_of_pos _ (by decide)), same_ch sm np, ?_⟩
        rw [upd_same, List.map_append]
        rfl
      · refine ⟨ty, ⟨by decide, by decide⟩, by decide, _, hp, small, ns ++ [(mixed * 48271 + 7919 * (0 + (i : Int)) + 12345) % 2147483647 / 1009 % 997], next _ (Int.emod_nonneg _ (by decide)) (Int.emod_lt_of_pos _ (by decide)), same_ch sm np, ?_⟩
        rw [upd_same, List.map_append]
        rfl
    · rintro σ H' ⟨ns, rest, mixed, v, rfl, hns, sm, hp⟩
      walk_at "rd"
      exact q ns p H' (by simpa using hns) sm np hp
end

/-! ### pairs of ints in the heap -/
abbrev Pr := Int × Int
/-- v is a tuple of the two ints -/
def IsP (H : Hp) (v : V) (d : Pr) : Prop := ∃ t, v = .ref t ∧ H t = some (.tup [.int d.1, .int d.2])
def PL (H : Hp) (vs : List V) (D : List Pr) : Prop := Paired (IsP H) vs D
def kH (H : Hp) (v : V) : Pr := match v with
  | .ref t => match H t with
    | some (.tup [.int x, .int y]) => (x, y)
    | _ => (0, 0)
  | _ => (0, 0)
theorem IsP.k {H : Hp} {v : V} {d : Pr} (h : IsP H v d) : kH H v = d := by
  obtain ⟨t, rfl, e⟩ := h
  unfold kH
  simp only [e]
/-- tuples stand -/
def KT (H H' : Hp) : Prop := ∀ t xs, H t = some (.tup xs) → H' t = some (.tup xs)
theorem KT.refl (H : Hp) : KT H H := fun _ _ h => h
theorem KT.trans {H H1 H2 : Hp} (a : KT H H1) (b : KT H1 H2) : KT H H2 := fun t xs h => b t xs (a t xs h)
theorem KT.same {H H' : Hp} (s : Same H H') : KT H H' := fun t xs h => s t _ h
theorem KT.new {H : Hp} {p : Addr} {o : HO} (n : H p = none) : KT H (upd H p o) := KT.same (same_upd n)
theorem KT.ch {H : Hp} {p : Addr} {o o' : HO} (n : H p = some o') (ho : ∀ xs, o' ≠ .tup xs) : KT H (upd H p o) := fun t xs h => by
  rw [upd_ne]
  · exact h
  · rintro rfl
    rw [h] at n
    exact ho xs (Option.some.inj n).symm
theorem KT.lst {H : Hp} {p : Addr} {o : HO} {vs : List V} (n : H p = some (.lst vs)) : KT H (upd H p o) := KT.ch n (fun _ h => by cases h)
theorem IsP.kt {H H' : Hp} {v : V} {d : Pr} (h : IsP H v d) (k : KT H H') : IsP H' v d := by
  obtain ⟨t, e, h⟩ := h
  exact ⟨t, e, k _ _ h⟩
theorem PL.kt {H H' : Hp} {vs : List V} {D : List Pr} (h : PL H vs D) (k : KT H H') : PL H' vs D := Paired.mapP h fun _ _ q => q.kt k
theorem PL.len {H : Hp} {vs : List V} {D : List Pr} (h : PL H vs D) : vs.length = D.length := Paired.length h
theorem PL.nil0 (H : Hp) : PL H [] [] := Paired.nil
theorem PL.snoc {H : Hp} {vs : List V} {D : List Pr} {v : V} {d : Pr} (h : PL H vs D) (q : IsP H v d) : PL H (vs ++ [v]) (D ++ [d]) := Paired.snoc h q
theorem PL.get : ∀ {H : Hp} {vs : List V} {D : List Pr} {i : Nat} {v : V}, PL H vs D → vs[i]? = some v → ∃ d, D[i]? = some d ∧ IsP H v d
  | _, _, _, _, _, Paired.nil, e => by simp at e
  | _, _, _, 0, v, .cons r _, e => by
    have e2 := Option.some.inj e
    subst e2
    exact ⟨_, rfl, r⟩
  | _, _, _, i + 1, v, .cons _ t, e => PL.get (i := i) t e
theorem PL.get2 : ∀ {H : Hp} {vs : List V} {D : List Pr} {i : Nat} {d : Pr}, PL H vs D → D[i]? = some d → ∃ v, vs[i]? = some v ∧ IsP H v d
  | _, _, _, _, _, Paired.nil, e => by simp at e
  | _, _, _, 0, v, .cons r _, e => by
    have e2 := Option.some.inj e
    subst e2
    exact ⟨_, rfl, r⟩
  | _, _, _, i + 1, v, .cons _ t, e => PL.get2 (i := i) t e
theorem PL.toK : ∀ {H : Hp} {vs : List V} {D : List Pr}, PL H vs D → D = vs.map (kH H) ∧ ∀ v ∈ vs, IsP H v (kH H v)
  | _, _, _, Paired.nil => ⟨rfl, fun v hv => by cases hv⟩
  | H, _, _, .cons r t => by
    obtain ⟨e, h⟩ := PL.toK t
    have q := r.k
    refine ⟨by rw [List.map_cons, ← e, q], fun v hv => ?_⟩
    rcases List.mem_cons.mp hv with rfl | hv
    · rw [q]
      exact r
    · exact h v hv
theorem PL.ofK {H : Hp} : ∀ {vs : List V}, (∀ v ∈ vs, IsP H v (kH H v)) → PL H vs (vs.map (kH H))
  | [], _ => Paired.nil
  | v :: vs, h => .cons (h v List.mem_cons_self) (PL.ofK fun u hu => h u (List.mem_cons_of_mem _ hu))
/-! ### sorted lists of pairs -/
def lt2 (p q : Pr) : Prop := p.1 < q.1 ∨ (p.1 = q.1 ∧ p.2 < q.2)
def Asc (D : List Pr) : Prop := D.Pairwise lt2
theorem lt2_irr (p : Pr) : ¬ lt2 p p := by
  unfold lt2
  omega
theorem lt2_ne {p q : Pr} (h : lt2 p q) : p ≠ q := by
  rintro rfl
  exact lt2_irr p h
theorem Asc.nodup {D : List Pr} (h : Asc D) : D.Nodup := List.Pairwise.imp lt2_ne h
theorem asc_of {D : List Pr} (nd : D.Nodup) (h : D.Pairwise fun x y => ¬ lt2 y x) : Asc D := by
  induction D with
  | nil => exact List.Pairwise.nil
  | cons p D ih =>
    obtain ⟨h1, h2⟩ := List.pairwise_cons.mp h
    obtain ⟨n1, n2⟩ := List.nodup_cons.mp nd
    refine List.pairwise_cons.mpr ⟨fun q hq => ?_, ih n2 h2⟩
    have a := h1 q hq
    have b : p ≠ q := fun e => n1 (by rw [e]; exact hq)
    unfold lt2 at a ⊢
    obtain ⟨p1, p2⟩ := p
    obtain ⟨q1, q2⟩ := q
    have c : ¬ (p1 = q1 ∧ p2 = q2) := fun ⟨e1, e2⟩ => b (by rw [e1, e2])
    simp only at a ⊢
    omega
/-- two ascending lists with the same pairs are one -/
theorem asc_uniq : ∀ {D E : List Pr}, Asc D → Asc E → (∀ p, p ∈ D ↔ p ∈ E) → D = E
  | [], [], _, _, _ => rfl
  | [], q :: E, _, _, h => by
    have := (h q).mpr List.mem_cons_self
    cases this
  | p :: D, [], _, _, h => by
    have := (h p).mp List.mem_cons_self
    cases this
  | p :: D, q :: E, hD, hE, h => by
    obtain ⟨a1, a2⟩ := List.pairwise_cons.mp hD
    obtain ⟨b1, b2⟩ := List.pairwise_cons.mp hE
    have e : p = q := by
      rcases List.mem_cons.mp ((h p).mp List.mem_cons_self) with e | hp
      · exact e
      · rcases List.mem_cons.mp ((h q).mpr List.mem_cons_self) with e | hq
        · exact e.symm
        · have c1 := b1 p hp
          have c2 := a1 q hq
          unfold lt2 at c1 c2
          omega
    subst e
    rw [asc_uniq a2 b2 fun z => ?_]
    constructor
    · intro hz
      rcases List.mem_cons.mp ((h z).mp (List.mem_cons_of_mem _ hz)) with e | hz2
      · subst e
        exact absurd (a1 z hz) (lt2_irr z)
      · exact hz2
    · intro hz
      rcases List.mem_cons.mp ((h z).mpr (List.mem_cons_of_mem _ hz)) with e | hz2
      · subst e
        exact absurd (b1 z hz) (lt2_irr z)
      · exact hz2
theorem srtd_asc {H : Hp} {ys : List V} (nd : (ys.map (kH H)).Nodup) (h : SrtO.Srtd (ltP (kH H)) ys) : Asc (ys.map (kH H)) := by
  refine asc_of nd (List.pairwise_map.mpr (List.Pairwise.imp (fun {x y} h => ?_) h))
  exact SrtO.lexB_no.mp h
/-- doors of a house with r rooms -/
structure Drs (r : Nat) (D : List Pr) : Prop where
  asc : Asc D
  ok : ∀ d ∈ D, 0 ≤ d.1 ∧ d.1 < d.2 ∧ d.2 < r
def cd (d : Pr) : Nat := (d.1 * 12 + d.2).toNat
theorem drs_len' {r : Nat} {D : List Pr} (hr : r ≤ 12) (nd : D.Nodup) (ok : ∀ d ∈ D, 0 ≤ d.1 ∧ d.1 < d.2 ∧ d.2 < r) : D.length ≤ 66 := by
  have h1 : (D.map cd).Nodup := by
    refine List.pairwise_map.mpr (List.Pairwise.imp_of_mem (fun {x y} hx hy hne e => ?_) nd)
    have a := ok x hx
    have b := ok y hy
    unfold cd at e
    obtain ⟨x1, x2⟩ := x
    obtain ⟨y1, y2⟩ := y
    simp only at a b e
    have : x1 = y1 ∧ x2 = y2 := by omega
    exact hne (by rw [this.1, this.2])
  have h2 : ∀ c ∈ D.map cd, c ∈ (List.range 144).filter fun c => c / 12 < c % 12 := fun c hc => by
    obtain ⟨d, hd, rfl⟩ := List.mem_map.mp hc
    have a := ok d hd
    refine List.mem_filter.mpr ⟨List.mem_range.mpr ?_, ?_⟩
    · unfold cd
      omega
    · rw [decide_eq_true_eq]
      unfold cd
      omega
  have h3 := nat_nodup_len (D.map cd) _ h1 h2
  rw [List.length_map] at h3
  exact Nat.le_trans h3 (by decide)
theorem Drs.len {r : Nat} {D : List Pr} (hr : r ≤ 12) (h : Drs r D) : D.length ≤ 66 := drs_len' hr h.asc.nodup h.ok

abbrev sNam : Stmt := topS 13
abbrev sJnd : Stmt := topS 14
theorem sub_lt_of {i n : Nat} (h : i < n) : (0 : Int) < (n : Int) - (i : Int) := by omega
/-- the ints from 0 on below n -/
def rg (n : Nat) : List Int := (List.range n).map Int.ofNat
theorem rg_len (n : Nat) : (rg n).length = n := by unfold rg; rw [List.length_map, List.length_range]
theorem rgV_rg (n : Nat) : rgV 0 (n : Int) = (rg n).map V.int := by
  unfold rgV rg
  rw [List.map_map]
  show List.map _ (List.range ((n : Int) - 0).toNat) = _
  rw [show ((n : Int) - 0).toNat = n by omega]
  refine List.map_congr_left fun i _ => ?_
  show V.int (0 + (i : Int)) = V.int (i : Int)
  rw [Int.zero_add]
theorem set_map {α β : Type} (f : α → β) (l : List α) (i : Nat) (x : α) : (l.map f).set i (f x) = (l.set i x).map f := by
  rw [List.map_set]
section
variable {P : Program} {w : World} {K : PySem.W.Frag} {mg : Str → Option Value} {base : Heap}
theorem scNam : FnScope ["numbers", "at", "rooms", "names", "k", "j", "kept"] ["numbers", "at", "rooms"] (defScope sNam) := ⟨rfl, rfl, rfl, by decide +kernel, rfl, by decide +kernel, by decide +kernel⟩
def spNam (K : PySem.W.Frag) : Sp := fun vs H Q _ => ∃ (a : Addr) (ns : List Int) (at_ r : Nat), vs = [.ref a, .int at_, .int r] ∧ SqL K H a (ns.map V.int) ∧ at_ + r ≤ ns.length ∧ r ≤ 1000 ∧
  ∀ xs p H', List.Perm xs (rg r) → Same H H' → H p = none → H' p = some (.lst (xs.map V.int)) → Q (.ref p) H'
theorem ok_nam {f : Addr} {fd : FuncData} (F : Fun K "_law_names" "_law_names" sNam f fd) (T : Bi mg) : FnOk P w K mg base CX0 1 f fd ["numbers", "at", "rooms"] (spNam K) := by
  refine F.ok scNam (fun vs H Q E h => ?_) (fun cdv A outer s H vs Q E hr h => ?_)
  · obtain ⟨a, ns, at_, r, rfl, _⟩ := h
    rfl
  · obtain ⟨a, ns, at_, r, rfl, hS, hat, hr1, q⟩ := h
    refine ⟨_, (pss_cons (ps_set (i := 3) scNam.nd rfl (Or.inl rfl) (pe_listRg rfl (by rfl) T.list (prg_1 (by rfl) T.range (pv 2))))
      (pss_cons (ps_for PassesOwn.never rfl (pi_range1 (by rfl) T.range (pa_cons (pv 2) pa_nil)) (pg_name (i := 4) scNam.nd rfl (Or.inl rfl))
      (pss_cons (ps_set (i := 5) scNam.nd rfl (Or.inl rfl) (pe_op op_add (pv 4) (pe_op op_mod (pe_callTy cr_intI (by rfl) T.int (by decide +kernel) (pa_cons (pe_ix ix_list (pv 0) (pe_op op_add (pv 1) (pv 4)) (fun _ _ => rfl)) pa_nil)) (pe_op op_sub (pv 2) (pv 4)))))
        (pss_cons (ps_set (i := 6) scNam.nd rfl (Or.inl rfl) (pe_ix ix_list (pv 3) (pv 4) (fun _ _ => rfl)))
        (pss_cons (ps_asg (pe_ix ix_list (pv 3) (pv 5) (fun _ _ => rfl)) (pg_sub (pv 3) (pv 4) set_list))
        (pss_one (ps_asg (pv 6) (pg_sub (pv 3) (pv 5) set_list)))))))
      (pss_one (ps_ret (pv 3))))), ?_⟩
    walk_at "rd"
    refine ⟨RgOk.of_le (by omega) (by omega) (by omega) (by omega), fun p np => ?_⟩
    refine ⟨_, rfl, r, rfl, by omega, by omega, for_range (lo := 0) (n := (r : Int).toNat) (fun i σ H' => ∃ (xs : List Int) (v1 v2 v3 : Option V), σ = [some (.ref a), some (.int at_), some (.int r), some (.ref p), v1, v2, v3] ∧ List.Perm xs (rg r) ∧ Same H H' ∧ H' p = some (.lst (xs.map V.int)))
      ⟨rg r, none, none, none, rfl, List.Perm.refl _, same_upd np, by rw [upd_same, rgV_rg]⟩ ?_ ?_⟩
    · rintro i σ H' hi ⟨xs, v1, v2, v3, rfl, pm, sm, hp⟩
      have hi2 : i < r := by omega
      have hl : xs.length = r := by rw [pm.length_eq, rg_len]
      have hS' := sm.seq hS
      have hn : at_ + i < ns.length := by omega
      have hq : SqL K H' p (xs.map V.int) := SqL.of hp
      walk_at "rd"
      have hj0 := Int.emod_nonneg ns[at_ + i] (show ((r : Int) - (0 + (i : Int))) ≠ 0 by omega)
      have hj1 := Int.emod_lt_of_pos ns[at_ + i] (show 0 < ((r : Int) - (0 + (i : Int))) by omega)
      obtain ⟨j, hj⟩ : ∃ j : Nat, (0 + (i : Int)) + ns[at_ + i] % ((r : Int) - (0 + (i : Int))) = j := ⟨((0 + (i : Int)) + ns[at_ + i] % ((r : Int) - (0 + (i : Int)))).toNat, by omega⟩
      have hjr : j < r := by omega
      have gi : (xs.map V.int)[i]? = some (.int xs[i]) := by rw [List.getElem?_map, List.getElem?_eq_getElem (by omega)]; rfl
      have gj : (xs.map V.int)[j]? = some (.int xs[j]) := by rw [List.getElem?_map, List.getElem?_eq_getElem (by omega)]; rfl
      refine ⟨_, hS', .int ns[at_ + i], at_of (j := at_ + i) (by omega) (by rw [List.getElem?_map, List.getElem?_eq_getElem hn]; rfl), _, rfl, by omega, _, hq, .int xs[i], at_of (by omega) gi, _, hq, .int xs[j], at_of hj gj, _, hp, i, ixn (by omega) (by rw [List.length_map]; omega), _, upd_same, j, ixn hj (by rw [List.length_set, List.length_map]; omega), (xs.set i xs[j]).set j xs[i], (List.set_set_perm (by omega) (by omega)).trans pm, same_ch (same_ch sm np) np, ?_⟩
      rw [upd_same, set_map, set_map]
    · rintro σ H' ⟨xs, v1, v2, v3, rfl, pm, sm, hp⟩
      walk_at "rd"
      exact q xs p H' pm sm np hp
theorem scJnd : FnScope ["kind", "a", "b", "rooms", "number", "parent"] ["kind", "a", "b", "rooms", "number", "parent"] (defScope sJnd) := ⟨rfl, rfl, rfl, by decide +kernel, rfl, by decide +kernel, by decide +kernel⟩
def spJnd : Sp := fun vs H Q _ => ∃ (kd a b r n p : Int), vs = [.int kd, .int a, .int b, .int r, .int n, .int p] ∧ 0 < b ∧ ∀ c, Q (.bl c) H
theorem ok_jnd {f : Addr} {fd : FuncData} (F : Fun K "_law_joined" "_law_joined" sJnd f fd) (T : Bi mg) : FnOk P w K mg base CX0 1 f fd ["kind", "a", "b", "rooms", "number", "parent"] spJnd := by
  refine F.ok scJnd (fun vs H Q E h => ?_) (fun cdv A outer s H vs Q E hr h => ?_)
  · obtain ⟨kd, a, b, r, n, p, rfl, _⟩ := h
    rfl
  · obtain ⟨kd, a, b, r, n, p, rfl, hb, q⟩ := h
    refine ⟨_, (pss_cons (ps_if (pt_cmpR op_eqI (pv 0) pe_int (nomark _))
      (pss_one (ps_ret (pe_cmpR op_eqI (pv 1) pe_int (nomark _))))
      pss_nil)
      (pss_cons (ps_if (pt_cmpR op_eqI (pv 0) pe_int (nomark _))
      (pss_one (ps_ret (pe_or (pe_cmpR op_eqI (pv 2) (pe_op op_add (pv 1) pe_int) (nomark _)) (pe_one (pe_and (pe_cmpR op_eqI (pv 1) pe_int (nomark _)) (pe_one (pe_cmpR op_eqI (pv 2) (pe_op op_sub (pv 3) pe_int) (nomark _))))))))
      pss_nil)
      (pss_cons (ps_if (pt_cmpR op_eqI (pv 0) pe_int (nomark _))
      (pss_one (ps_ret pe_bl))
      pss_nil)
      (pss_cons (ps_if (pt_cmpR op_eqI (pv 0) pe_int (nomark _))
      (pss_one (ps_ret (pe_cmpR op_eqI (pv 1) (pe_op op_mod (pe_callTy cr_intI (by rfl) T.int (by decide +kernel) (pa_cons (pv 5) pa_nil)) (pv 2)) (nomark _))))
      pss_nil)
      (pss_cons (ps_if (pt_cmpR op_eqI (pv 0) pe_int (nomark _))
      (pss_one (ps_ret (pe_cmpR op_eqI (pe_op op_mod (pe_callTy cr_intI (by rfl) T.int (by decide +kernel) (pa_cons (pv 4) pa_nil)) pe_int) pe_int (nomark _))))
      pss_nil)
      (pss_cons (ps_if (pt_cmpR op_eqI (pv 0) pe_int (nomark _))
      (pss_one (ps_ret (pe_cmpR op_eqI (pe_op op_mod (pe_callTy cr_intI (by rfl) T.int (by decide +kernel) (pa_cons (pv 4) pa_nil)) pe_int) pe_int (nomark _))))
      pss_nil)
      (pss_cons (ps_if (pt_cmpR op_eqI (pv 0) pe_int (nomark _))
      (pss_one (ps_ret (pe_cmpR op_neI (pe_op op_mod (pe_callTy cr_intI (by rfl) T.int (by decide +kernel) (pa_cons (pv 4) pa_nil)) pe_int) pe_int (nomark _))))
      pss_nil)
      (pss_one (ps_ret (pe_cmpR op_eqI (pv 2) (pe_op op_add (pv 1) pe_int) (nomark _))))))))))), ?_⟩
    walk_at "rd"
    repeat (first | exact q _ | exact hb | decide | refine ⟨?_, ?_⟩ | refine ite2 (fun _ => ?_) (fun _ => ?_) | split)
end

abbrev sDrs : Stmt := topS 15
/-- min and max of the two names -/
def mm (xs : List Int) (p : Nat × Nat) : Pr := (if xs.getD p.2 0 < xs.getD p.1 0 then xs.getD p.2 0 else xs.getD p.1 0, if xs.getD p.2 0 > xs.getD p.1 0 then xs.getD p.2 0 else xs.getD p.1 0)
/-- pairs that have been met when the outer loop stands at b, the inner at a -/
structure Vis (r b a : Nat) (L : List (Nat × Nat)) : Prop where
  ok : ∀ p ∈ L, p.1 < p.2 ∧ p.2 < r ∧ (p.2 < b ∨ (p.2 = b ∧ p.1 < a))
  nd : L.Nodup
theorem Vis.zero (r : Nat) : Vis r 1 0 [] := ⟨fun p h => (by cases h), List.nodup_nil⟩
theorem Vis.skip {r b a : Nat} {L : List (Nat × Nat)} (h : Vis r b a L) : Vis r b (a + 1) L := by
  refine ⟨fun p hp => ?_, h.nd⟩
  have := h.ok p hp
  omega
theorem Vis.row {r b : Nat} {L : List (Nat × Nat)} (h : Vis r b b L) : Vis r (b + 1) 0 L := by
  refine ⟨fun p hp => ?_, h.nd⟩
  have := h.ok p hp
  omega
theorem Vis.more {r b a : Nat} {L : List (Nat × Nat)} (h : Vis r b a L) (hb : b < r) (ha : a < b) : Vis r b (a + 1) (L ++ [(a, b)]) := by
  refine ⟨fun p hp => ?_, ?_⟩
  · rcases List.mem_append.mp hp with hp | hp
    · have := h.ok p hp
      omega
    · rw [List.mem_singleton.mp hp]
      exact ⟨ha, hb, .inr ⟨rfl, Nat.lt_succ_self a⟩⟩
  · refine List.nodup_append.mpr ⟨h.nd, by simp, fun p hp q hq => ?_⟩
    rw [List.mem_singleton.mp hq]
    rintro rfl
    have := h.ok _ hp
    simp only at this
    omega
theorem rg_nodup (n : Nat) : (rg n).Nodup := by
  unfold rg
  exact List.pairwise_map.mpr (List.Pairwise.imp (fun {x y} h e => h (Int.ofNat.inj e)) List.nodup_range)
theorem rg_mem {n : Nat} {x : Int} (h : x ∈ rg n) : 0 ≤ x ∧ x < n := by
  obtain ⟨i, hi, rfl⟩ := List.mem_map.mp h
  have := List.mem_range.mp hi
  show 0 ≤ (i : Int) ∧ (i : Int) < n
  omega
/-- names: each room once -/
structure Nms (r : Nat) (xs : List Int) : Prop where
  pm : xs.Perm (rg r)
theorem Nms.len {r : Nat} {xs : List Int} (h : Nms r xs) : xs.length = r := by rw [h.pm.length_eq, rg_len]
theorem Nms.nd {r : Nat} {xs : List Int} (h : Nms r xs) : xs.Nodup := h.pm.nodup_iff.mpr (rg_nodup r)
theorem Nms.bd {r : Nat} {xs : List Int} (h : Nms r xs) {i : Nat} (hi : i < r) : 0 ≤ xs.getD i 0 ∧ xs.getD i 0 < r := by
  have hl := h.len
  have e : xs.getD i 0 = xs[i] := by rw [List.getD_eq_getElem?_getD, List.getElem?_eq_getElem (by omega)]; rfl
  rw [e]
  exact rg_mem (h.pm.mem_iff.mp (List.getElem_mem _))
theorem Nms.inj {r : Nat} {xs : List Int} (h : Nms r xs) {i j : Nat} (hi : i < r) (hj : j < r) (e : xs.getD i 0 = xs.getD j 0) : i = j := by
  have hl := h.len
  have e1 : xs.getD i 0 = xs[i] := by rw [List.getD_eq_getElem?_getD, List.getElem?_eq_getElem (by omega)]; rfl
  have e2 : xs.getD j 0 = xs[j] := by rw [List.getD_eq_getElem?_getD, List.getElem?_eq_getElem (by omega)]; rfl
  rw [e1, e2] at e
  refine nd_ix h.nd (List.getElem?_eq_getElem (by omega)) ?_
  rw [e]
  exact List.getElem?_eq_getElem (by omega)
theorem mm_ok {r : Nat} {xs : List Int} (h : Nms r xs) {p : Nat × Nat} (h1 : p.1 < p.2) (h2 : p.2 < r) : 0 ≤ (mm xs p).1 ∧ (mm xs p).1 < (mm xs p).2 ∧ (mm xs p).2 < r := by
  have a := h.bd (i := p.1) (by omega)
  have b := h.bd (i := p.2) h2
  have ne : xs.getD p.1 0 ≠ xs.getD p.2 0 := fun e => by
    have := h.inj (i := p.1) (j := p.2) (by omega) h2 e
    omega
  unfold mm
  simp only
  split <;> split <;> omega
theorem mm_inj {r : Nat} {xs : List Int} (h : Nms r xs) {p q : Nat × Nat} (p1 : p.1 < p.2) (p2 : p.2 < r) (q1 : q.1 < q.2) (q2 : q.2 < r) (e : mm xs p = mm xs q) : p = q := by
  have e1 := congrArg Prod.fst e
  have e2 := congrArg Prod.snd e
  unfold mm at e1 e2
  simp only at e1 e2
  have k : (xs.getD p.1 0 = xs.getD q.1 0 ∧ xs.getD p.2 0 = xs.getD q.2 0) ∨ (xs.getD p.1 0 = xs.getD q.2 0 ∧ xs.getD p.2 0 = xs.getD q.1 0) := by
    split at e1 <;> split at e1 <;> split at e2 <;> split at e2 <;> omega
  rcases k with ⟨k1, k2⟩ | ⟨k1, k2⟩
  · have a := h.inj (by omega) (by omega) k1
    have b := h.inj (by omega) (by omega) k2
    exact Prod.ext a b
  · have a := h.inj (by omega) (by omega) k1
    have b := h.inj (by omega) (by omega) k2
    omega
theorem vis_nd {r b a : Nat} {xs : List Int} {L : List (Nat × Nat)} (h : Nms r xs) (v : Vis r b a L) : (L.map (mm xs)).Nodup := by
  refine List.pairwise_map.mpr (List.Pairwise.imp_of_mem (fun {p q} hp hq hne e => ?_) v.nd)
  have a := v.ok p hp
  have b := v.ok q hq
  exact hne (mm_inj h a.1 a.2.1 b.1 b.2.1 e)
theorem vis_ok {r b a : Nat} {xs : List Int} {L : List (Nat × Nat)} (h : Nms r xs) (v : Vis r b a L) : ∀ d ∈ L.map (mm xs), 0 ≤ d.1 ∧ d.1 < d.2 ∧ d.2 < r := fun d hd => by
  obtain ⟨p, hp, rfl⟩ := List.mem_map.mp hd
  have a := v.ok p hp
  exact mm_ok h a.1 a.2.1
theorem tri {b : Nat} (h : b ≤ 11) : (b : Int) * ((b : Int) - 1) / 2 ≤ 55 ∧ 0 ≤ (b : Int) * ((b : Int) - 1) / 2 := by
  have : b = 0 ∨ b = 1 ∨ b = 2 ∨ b = 3 ∨ b = 4 ∨ b = 5 ∨ b = 6 ∨ b = 7 ∨ b = 8 ∨ b = 9 ∨ b = 10 ∨ b = 11 := by omega
  rcases this with rfl | rfl | rfl | rfl | rfl | rfl | rfl | rfl | rfl | rfl | rfl | rfl <;> decide
section
variable {P : Program} {w : World} {K : PySem.W.Frag} {mg : Str → Option Value} {base : Heap}
theorem scDrs : FnScope ["numbers", "rooms", "kind", "names", "doors", "b", "first", "a"] ["numbers", "rooms"] (defScope sDrs) := ⟨rfl, rfl, rfl, by decide +kernel, rfl, by decide +kernel, by decide +kernel⟩
def spDrs (K : PySem.W.Frag) : Sp := fun vs H Q _ => ∃ (a : Addr) (ns : List Int) (r : Nat), vs = [.ref a, .int r] ∧ SqL K H a (ns.map V.int) ∧ 79 ≤ ns.length ∧ 1 ≤ r ∧ r ≤ 12 ∧
  ∀ D vs p H', Drs r D → Same H H' → H p = none → H' p = some (.lst vs) → PL H' vs D → Q (.ref p) H'
theorem ok_drs {f fN fJ : Addr} {fd fdN fdJ : FuncData} (F : Fun K "_law_doors" "_law_doors" sDrs f fd) (T : Bi mg) (d__law_names : Df P w K mg base "_law_names" ["numbers", "at", "rooms"] 1 (spNam K) fN fdN)
    (d__law_joined : Df P w K mg base "_law_joined" ["kind", "a", "b", "rooms", "number", "parent"] 1 spJnd fJ fdJ) : FnOk P w K mg base CX0 2 f fd ["numbers", "rooms"] (spDrs K) := by
  refine F.ok scDrs (fun vs H Q E h => ?_) (fun cdv A outer s H vs Q E hr h => ?_)
  · obtain ⟨a, ns, r, rfl, _⟩ := h
    rfl
  · obtain ⟨a, ns, r, rfl, hS, hn, hr1, hr12, q⟩ := h
    refine ⟨_, (pss_cons (ps_set (i := 2) scDrs.nd rfl (Or.inl rfl) (pe_op op_mod (pe_callTy cr_intI (by rfl) T.int (by decide +kernel) (pa_cons (pe_ix ix_list (pv 0) pe_int (fun _ _ => rfl)) pa_nil)) pe_int))
      (pss_cons (ps_set (i := 3) scDrs.nd rfl (Or.inl rfl) (pe_call d__law_names.ok (hr.mono (by decide)) (by rfl) d__law_names.at_ d__law_names.kp d__law_names.b .nil pass0 (pa_cons (pv 0) (pa_cons pe_int (pa_cons (pv 1) pa_nil)))))
      (pss_cons (ps_set (i := 4) scDrs.nd rfl (Or.inl rfl) (pe_lst pa_nil))
      (pss_cons (ps_for PassesOwn.never rfl (pi_range2 (by rfl) T.range (pa_cons pe_int (pa_cons (pv 1) pa_nil))) (pg_name (i := 5) scDrs.nd rfl (Or.inl rfl))
      (pss_cons (ps_set (i := 6) scDrs.nd rfl (Or.inl rfl) (pe_op op_add (pe_op op_add pe_int (pv 1)) (pe_op op_fdiv (pe_op op_mul (pv 5) (pe_op op_sub (pv 5) pe_int)) pe_int)))
        (pss_one (ps_for PassesOwn.never rfl (pi_range1 (by rfl) T.range (pa_cons (pv 5) pa_nil)) (pg_name (i := 7) scDrs.nd rfl (Or.inl rfl))
        (pss_one (ps_if (pt_truth (pe_call d__law_joined.ok (hr.mono (by decide)) (by rfl) d__law_joined.at_ d__law_joined.kp d__law_joined.b .nil pass0 (pa_cons (pv 2) (pa_cons (pv 7) (pa_cons (pv 5) (pa_cons (pv 1) (pa_cons (pe_ix ix_list (pv 0) (pe_op op_add (pv 6) (pv 7)) (fun _ _ => rfl)) (pa_cons (pe_ix ix_list (pv 0) (pv 6) (fun _ _ => rfl)) pa_nil))))))) (by intro _; rfl))
          (pss_one (ps_expr (pe_bm PySem.F.plainAttrs_list PySem.F.slot_list_append PySem.F.type_list_append mt_append (pv 4) (pa_cons (pe_tup (pa_cons (pe_callB (call_min2 rfl) (by rfl) T.min (by decide +kernel) (pa_cons (pe_ix ix_list (pv 3) (pv 7) (fun _ _ => rfl)) (pa_cons (pe_ix ix_list (pv 3) (pv 5) (fun _ _ => rfl)) pa_nil))) (pa_cons (pe_callB (call_max2 rfl) (by rfl) T.max (by decide +kernel) (pa_cons (pe_ix ix_list (pv 3) (pv 7) (fun _ _ => rfl)) (pa_cons (pe_ix ix_list (pv 3) (pv 5) (fun _ _ => rfl)) pa_nil))) pa_nil))) pa_nil))))
          pss_nil))))))
      (pss_one (ps_ret (pe_callB cr_sortedPO (by rfl) T.sorted (by decide +kernel) (pa_cons (pv 4) pa_nil)))))))), ?_⟩
    have at_n : ∀ (k : Nat) (hk : k < ns.length), (ns.map V.int)[k]? = some (.int ns[k]) := fun k hk => by
      rw [List.getElem?_map, List.getElem?_eq_getElem hk]
      rfl
    walk_at "rd"
    refine ⟨_, hS, .int ns[0], at_of (j := 0) rfl (at_n 0 (by omega)), _, rfl, by decide, a, ns, 1, r, rfl, hS, by omega, by omega, fun xs pn H1 pm s1 nn hN => ?_⟩
    have N : Nms r xs := ⟨pm⟩
    have hl := N.len
    walk_at "rd"
    refine ⟨Nat.zero_le _, fun p np => ?_⟩
    obtain ⟨Pv, hPv⟩ : ∃ Pv : Nat → L2.St → Hp → Prop, Pv = (fun i σ H' => ∃ (L : List (Nat × Nat)) (vs : List V) (v5 v6 v7 : Option V), σ = [some (.ref a), some (.int r), some (.int (ns[0] % 8)), some (.ref pn), some (.ref p), v5, v6, v7] ∧ Vis r (i + 1) 0 L ∧ Same H1 H' ∧ H' p = some (.lst vs) ∧ PL H' vs (L.map (mm xs))) := ⟨_, rfl⟩
    refine ⟨_, rfl, 1, (r : Int), rfl, ⟨by omega, by omega, by omega, by omega⟩, for_range (lo := 1) (n := ((r : Int) - 1).toNat) Pv (by rw [hPv]; exact ⟨[], [], none, none, none, rfl, Vis.zero r, same_upd np, upd_same, PL.nil0 _⟩) ?_ ?_⟩
    · rintro i σ H' hi pv
      have nxt : ∀ L vs v5 v6 v7 H', Vis r (i + 1 + 1) 0 L → Same H1 H' → H' p = some (.lst vs) → PL H' vs (L.map (mm xs)) → Pv (i + 1) [some (.ref a), some (.int r), some (.int (ns[0] % 8)), some (.ref pn), some (.ref p), v5, v6, v7] H' := fun L vs v5 v6 v7 H' h1 h2 h3 h4 => by
        rw [hPv]
        exact ⟨L, vs, v5, v6, v7, rfl, h1, h2, h3, h4⟩
      rw [hPv] at pv
      obtain ⟨L, vs, v5, v6, v7, rfl, vis, s2, hp, pl⟩ := pv
      have hb : i + 1 ≤ 11 := by omega
      have tr := tri hb
      have eb : (1 : Int) + (i : Int) = ((i + 1 : Nat) : Int) := by omega
      obtain ⟨fi, hfi⟩ : ∃ fi : Nat, (1 : Int) + (r : Int) + (1 + (i : Int)) * (1 + (i : Int) - 1) / 2 = fi ∧ fi ≤ 68 := by
        rw [eb]
        exact ⟨(1 + (r : Int) + ((i + 1 : Nat) : Int) * (((i + 1 : Nat) : Int) - 1) / 2).toNat, by omega, by omega⟩
      walk_at "rd"
      refine ⟨.inl (by omega), ⟨by decide, by decide⟩, ?_⟩
      rw [hfi.1]
      obtain ⟨Pw, hPw⟩ : ∃ Pw : Nat → L2.St → Hp → Prop, Pw = (fun j σ H' => ∃ (L : List (Nat × Nat)) (vs : List V) (v7 : Option V), σ = [some (.ref a), some (.int r), some (.int (ns[0] % 8)), some (.ref pn), some (.ref p), some (.int (1 + (i : Int))), some (.int fi), v7] ∧ Vis r (i + 1) j L ∧ Same H1 H' ∧ H' p = some (.lst vs) ∧ PL H' vs (L.map (mm xs))) := ⟨_, rfl⟩
      refine ⟨_, rfl, 1 + (i : Int), rfl, by omega, by omega, for_range (lo := 0) (n := (1 + (i : Int)).toNat) Pw (by rw [hPw]; exact ⟨L, vs, v7, rfl, vis, s2, hp, pl⟩) ?_ ?_⟩
      · clear hp pl s2 vis vs L v7
        rintro j σ H' hj pv
        have nxw : ∀ L vs v7 H', Vis r (i + 1) (j + 1) L → Same H1 H' → H' p = some (.lst vs) → PL H' vs (L.map (mm xs)) → Pw (j + 1) [some (.ref a), some (.int r), some (.int (ns[0] % 8)), some (.ref pn), some (.ref p), some (.int (1 + (i : Int))), some (.int fi), v7] H' := fun L vs v7 H' h1 h2 h3 h4 => by
          rw [hPw]
          exact ⟨L, vs, v7, rfl, h1, h2, h3, h4⟩
        rw [hPw] at pv
        obtain ⟨L, vs, v7, rfl, vis, s2, hp, pl⟩ := pv
        have hjb : j < i + 1 := by omega
        have hS' : SqL K H' a (ns.map V.int) := s2.seq (s1.seq hS)
        have hN' : SqL K H' pn (xs.map V.int) := s2.seq (SqL.of hN)
        have gj : (xs.map V.int)[j]? = some (.int (xs.getD j 0)) := by rw [List.getElem?_map, List.getElem?_eq_getElem (by omega), List.getD_eq_getElem?_getD, List.getElem?_eq_getElem (by omega)]; rfl
        have gi : (xs.map V.int)[i + 1]? = some (.int (xs.getD (i + 1) 0)) := by rw [List.getElem?_map, List.getElem?_eq_getElem (by omega), List.getD_eq_getElem?_getD, List.getElem?_eq_getElem (by omega)]; rfl
        have small : vs.length ≤ 66 := by
          rw [pl.len]
          exact drs_len' hr12 (vis_nd N vis) (vis_ok N vis)
        walk_at "rd"
        refine ⟨_, hS', .int ns[fi + j], at_of (j := fi + j) (by omega) (at_n _ (by omega)), _, hS', .int ns[fi], at_of (j := fi) rfl (at_n _ (by omega)), ?_⟩
        refine ⟨_, _, _, _, _, _, rfl, by omega, fun c => ?_⟩
        refine ⟨_, rfl, ite2 (fun _ => ?_) (fun _ => nxw L vs _ _ vis.skip s2 hp pl)⟩
        refine ⟨.inl ⟨rfl, _, SqL.of hp⟩, _, hN', .int (xs.getD j 0), at_of (j := j) (by omega) gj, _, hN', .int (xs.getD (i + 1) 0), at_of (j := i + 1) (by omega) gi, ?_⟩
        refine ⟨_, rfl, _, rfl, _, hN', .int (xs.getD j 0), at_of (j := j) (by omega) gj, _, hN', .int (xs.getD (i + 1) 0), at_of (j := i + 1) (by omega) gi, _, rfl, _, rfl, ?_⟩
        refine ⟨by decide, fun t nt => ⟨vs, ?_, len_big (by omega), ?_⟩⟩
        · rw [upd_ne (ne_of_none hp nt)]
          exact hp
        · have np' : p ≠ t := ne_of_none hp nt
          refine nxw (L ++ [(j, i + 1)]) (vs ++ [.ref t]) _ _ (vis.more (by omega) hjb) (same_ch (s2.trans (same_upd nt)) np) upd_same ?_
          rw [List.map_append]
          refine PL.snoc ((pl.kt (KT.new nt)).kt (KT.lst (by rw [upd_ne np']; exact hp))) ⟨t, rfl, ?_⟩
          rw [upd_ne np'.symm, upd_same]
          rfl
      · clear hp pl s2 vis vs L v7
        rintro σ H' pv
        rw [hPw] at pv
        obtain ⟨L, vs, v7, rfl, vis, s2, hp, pl⟩ := pv
        have e : (1 + (i : Int)).toNat = i + 1 := by omega
        rw [e] at vis
        exact nxt L vs _ _ _ _ vis.row s2 hp pl
    · rintro σ H' pv
      rw [hPv] at pv
      obtain ⟨L, vs, v5, v6, v7, rfl, vis, s2, hp, pl⟩ := pv
      walk_at "rd"
      obtain ⟨k1, k2⟩ := pl.toK
      refine ⟨p, vs, kH H', rfl, SqL.of hp, k2, fun ys t so st nt => ?_⟩
      have pmy := st.perm
      have hy : ∀ v ∈ ys, IsP H' v (kH H' v) := fun v hv => k2 v (pmy.mem_iff.mp hv)
      have nd : (ys.map (kH H')).Nodup := by
        refine (pmy.map _).nodup_iff.mpr ?_
        rw [← k1]
        exact vis_nd N vis
      refine q (ys.map (kH H')) ys t _ ⟨srtd_asc nd so, fun d hd => ?_⟩ ?_ ?_ upd_same ((PL.ofK hy).kt (KT.new nt))
      · refine vis_ok N vis d ?_
        rw [k1]
        exact (pmy.map _).mem_iff.mp hd
      · exact ((s1.trans s2).trans (same_upd nt))
      · exact (s1.trans s2).free nt
end

abbrev sSame : Stmt := topS 16
/-- isinstance of built-in kinds -/
def isTy (m n : String) : Bool := m == n || (m == "bool" && n == "int")
theorem kit5 {K : PySem.W.Frag} {m n : String} (hm : m = "bool" ∨ m = "int" ∨ m = "str" ∨ m = "list" ∨ m = "tuple") (hn : n = "bool" ∨ n = "int" ∨ n = "str" ∨ n = "list" ∨ n = "tuple") : PySem.W.kitOne K (.type m) (.type n) = some (isTy m n) := by
  rcases hm with rfl | rfl | rfl | rfl | rfl <;> rcases hn with rfl | rfl | rfl | rfl | rfl <;> exact kit_ty (by decide +kernel)
def rIs5 (K : PySem.W.Frag) : List V → Hp → VK → Prop := fun xs H Q => ∃ (x : V) (n m : String), xs = [x, .ty n] ∧ TyX K H x (.type m) ∧ (m = "bool" ∨ m = "int" ∨ m = "str" ∨ m = "list" ∨ m = "tuple") ∧ (n = "bool" ∨ n = "int" ∨ n = "str" ∨ n = "list" ∨ n = "tuple") ∧ Q (.bl (isTy m n)) H
theorem cr_is5 {X : Cx} : CallR X (.builtin "isinstance") (rIs5 X.K) := fun pins s σ H xs us Q I r h => by
  obtain ⟨x, n, m, rfl, ty, hm, hn, q⟩ := h
  exact call_isi pins s σ H _ us Q I r ⟨x, .ty n, _, _, _, rfl, .ty n, ty, kit5 hm hn, q⟩
theorem is5_of {K : PySem.W.Frag} {H : Hp} {x : V} {n m : String} {Q : VK} (ty : TyX K H x (.type m)) (hm : m = "bool" ∨ m = "int" ∨ m = "str" ∨ m = "list" ∨ m = "tuple") (hn : n = "bool" ∨ n = "int" ∨ n = "str" ∨ n = "list" ∨ n = "tuple") (q : Q (.bl (isTy m n)) H) : rIs5 K [x, .ty n] H Q :=
  ⟨x, n, m, rfl, ty, hm, hn, q⟩
theorem eqS_of {H : Hp} {x : V} {Q : VK} (h : scal x x = true) (q : Q (.bl true) H) : rEq x x H Q := ⟨h, by rw [decide_eq_true rfl]; exact q⟩
local macro_rules | `(tactic| walk_at "i5") => `(tactic| ((first | refine is5_of (.base (.int _)) (by decide) (by decide) ?_ | refine is5_of (.base (.str _)) (by decide) (by decide) ?_ | refine is5_of (.base (.bl _)) (by decide) (by decide) ?_ | refine is5_of (.base (.lst (by assumption))) (by decide) (by decide) ?_ | refine is5_of (.base (.tup (by assumption))) (by decide) (by decide) ?_)))
local macro_rules | `(tactic| walk_at "i6") => `(tactic| (simp only [rIsT, isTy, String.reduceBEq, Bool.or_false, Bool.or_true, Bool.and_false, Bool.and_true, Bool.true_or, Bool.false_or, Bool.true_and, Bool.false_and, reduceCtorEq, decide_false, decide_true, V.bl.injEq, exists_eq_left', if_true, if_false, Bool.false_eq_true, ↓reduceIte, Bool.not_true, Bool.not_false, ite_self]))
def flat4 : V → Bool
  | .non => true
  | .bl _ => true
  | .int _ => true
  | .str _ => true
  | _ => false
/-- the same data, of at most this depth, the lists and tuples tracked -/
def Sm (H : Hp) : Nat → V → V → Prop
  | 0, x, y => x = y ∧ flat4 x = true
  | n + 1, x, y => (x = y ∧ flat4 x = true) ∨ ∃ a b xs ys, x = .ref a ∧ y = .ref b ∧ ((H a = some (.lst xs) ∧ H b = some (.lst ys)) ∨ (H a = some (.tup xs) ∧ H b = some (.tup ys))) ∧ Paired (Sm H n) xs ys ∧ xs.length ≤ 100000
theorem Sm.flat {H : Hp} {n : Nat} {x : V} (h : flat4 x = true) : Sm H n x x := by
  cases n with
  | zero => exact ⟨rfl, h⟩
  | succ n => exact .inl ⟨rfl, h⟩
theorem paired_get {α β : Type} {F : α → β → Prop} : ∀ {xs : List α} {ys : List β} {i : Nat}, Paired F xs ys → i < xs.length → ∃ x y, xs[i]? = some x ∧ ys[i]? = some y ∧ F x y
  | _, _, _, .nil, h => by cases h
  | _, _, 0, .cons r _, _ => ⟨_, _, rfl, rfl, r⟩
  | _, _, i + 1, .cons _ t, h => paired_get (i := i) t (Nat.lt_of_succ_lt_succ h)
section
variable {P : Program} {w : World} {K : PySem.W.Frag} {mg : Str → Option Value} {base : Heap}
theorem scSame : FnScope ["got", "due", "k"] ["got", "due"] (defScope sSame) := ⟨rfl, rfl, rfl, by decide +kernel, rfl, by decide +kernel, by decide +kernel⟩
def spSame (n : Nat) : Sp := fun vs H Q _ => ∃ x y, vs = [x, y] ∧ Sm H n x y ∧ Q (.bl true) H
theorem ok_same {f : Addr} {fd : FuncData} (F : Fun K "_law_same" "_law_same" sSame f fd) (T : Bi mg) (bd : Binds K fd ["got", "due"] []) (hmg : mg "_law_same" = some (.ref f)) : ∀ n, FnOk P w K mg base CX0 (n + 1) f fd ["got", "due"] (spSame n) := by
  intro n
  induction n with
  | zero =>
    refine F.ok scSame (fun vs H Q E h => ?_) (fun cdv A outer s H vs Q E hr h => ?_)
    · obtain ⟨x, y, rfl, _⟩ := h
      rfl
    · obtain ⟨x, y, rfl, ⟨rfl, hf⟩, q⟩ := h
      refine ⟨_, (pss_cons (ps_if (pt_cmpR op_isN (pv 1) pe_non (nomark _))
      (pss_one (ps_ret (pe_cmpR op_isN (pv 0) pe_non (nomark _))))
      pss_nil)
      (pss_cons (ps_if (pt_cmpR op_isT (pv 1) pe_bl (nomark _))
      (pss_one (ps_ret (pe_cmpR op_isT (pv 0) pe_bl (nomark _))))
      pss_nil)
      (pss_cons (ps_if (pt_cmpR op_isT (pv 1) pe_bl (nomark _))
      (pss_one (ps_ret (pe_cmpR op_isT (pv 0) pe_bl (nomark _))))
      pss_nil)
      (pss_cons (ps_if (pt_val (pe_callB cr_is5 (by rfl) T.isinstance (by decide +kernel) (pa_cons (pv 1) (pa_cons (pe_bltn (v := .ty "int") (by rfl) T.int (by decide +kernel) rfl) pa_nil))))
      (pss_one (ps_ret (pe_and (pe_callB cr_is5 (by rfl) T.isinstance (by decide +kernel) (pa_cons (pv 0) (pa_cons (pe_bltn (v := .ty "int") (by rfl) T.int (by decide +kernel) rfl) pa_nil))) (pe_and (pe_not (pe_callB cr_is5 (by rfl) T.isinstance (by decide +kernel) (pa_cons (pv 0) (pa_cons (pe_bltn (v := .ty "bool") (by rfl) T.bool (by decide +kernel) rfl) pa_nil)))) (pe_one (pe_cmpR op_eq (pv 0) (pv 1) (nomark _)))))))
      pss_nil)
      (pss_cons (ps_if (pt_val (pe_callB cr_is5 (by rfl) T.isinstance (by decide +kernel) (pa_cons (pv 1) (pa_cons (pe_bltn (v := .ty "str") (by rfl) T.str (by decide +kernel) rfl) pa_nil))))
      (pss_one (ps_ret (pe_and (pe_callB cr_is5 (by rfl) T.isinstance (by decide +kernel) (pa_cons (pv 0) (pa_cons (pe_bltn (v := .ty "str") (by rfl) T.str (by decide +kernel) rfl) pa_nil))) (pe_one (pe_cmpR op_eq (pv 0) (pv 1) (nomark _))))))
      pss_nil)
      (pss_cons (ps_if (PW.pt (pw_and (pt_val (pe_callB cr_is5 (by rfl) T.isinstance (by decide +kernel) (pa_cons (pv 1) (pa_cons (pe_bltn (v := .ty "list") (by rfl) T.list (by decide +kernel) rfl) pa_nil)))) (pw_and1 (pt_not (pt_val (pe_callB cr_is5 (by rfl) T.isinstance (by decide +kernel) (pa_cons (pv 0) (pa_cons (pe_bltn (v := .ty "list") (by rfl) T.list (by decide +kernel) rfl) pa_nil))))))))
      (pss_one (ps_ret pe_bl))
      pss_nil)
      (pss_cons (ps_if (PW.pt (pw_and (pt_val (pe_callB cr_is5 (by rfl) T.isinstance (by decide +kernel) (pa_cons (pv 1) (pa_cons (pe_bltn (v := .ty "tuple") (by rfl) T.tuple (by decide +kernel) rfl) pa_nil)))) (pw_and1 (pt_not (pt_val (pe_callB cr_is5 (by rfl) T.isinstance (by decide +kernel) (pa_cons (pv 0) (pa_cons (pe_bltn (v := .ty "tuple") (by rfl) T.tuple (by decide +kernel) rfl) pa_nil))))))))
      (pss_one (ps_ret pe_bl))
      pss_nil)
      (pss_cons (ps_if (pt_cmpR op_neI (pe_callB call_len_seq (by rfl) T.len (by decide +kernel) (pa_cons (pv 0) pa_nil)) (pe_callB call_len_seq (by rfl) T.len (by decide +kernel) (pa_cons (pv 1) pa_nil)) (nomark _))
      (pss_one (ps_ret pe_bl))
      pss_nil)
      (pss_cons (ps_never)
      (pss_one (ps_ret pe_bl))))))))))), ?_⟩
      walk_at "rd"
      cases x with
      | non => walk_at "i6"; exact q
      | bl b =>
        cases b with
        | true => walk_at "i6"; exact q
        | false => walk_at "i6"; exact q
      | int i =>
        walk_at "i6"
        repeat (walk_at "i5"; walk_at "i6")
        exact eqS_of rfl q
      | str z =>
        walk_at "i6"
        repeat (walk_at "i5"; walk_at "i6")
        exact eqS_of rfl q
      | _ => cases hf
  | succ n ih =>
    refine F.ok scSame (fun vs H Q E h => ?_) (fun cdv A outer s H vs Q E hr h => ?_)
    · obtain ⟨x, y, rfl, _⟩ := h
      rfl
    · obtain ⟨x, y, rfl, hs, q⟩ := h
      refine ⟨_, (pss_cons (ps_if (pt_cmpR op_isN (pv 1) pe_non (nomark _))
      (pss_one (ps_ret (pe_cmpR op_isN (pv 0) pe_non (nomark _))))
      pss_nil)
      (pss_cons (ps_if (pt_cmpR op_isT (pv 1) pe_bl (nomark _))
      (pss_one (ps_ret (pe_cmpR op_isT (pv 0) pe_bl (nomark _))))
      pss_nil)
      (pss_cons (ps_if (pt_cmpR op_isT (pv 1) pe_bl (nomark _))
      (pss_one (ps_ret (pe_cmpR op_isT (pv 0) pe_bl (nomark _))))
      pss_nil)
      (pss_cons (ps_if (pt_val (pe_callB cr_is5 (by rfl) T.isinstance (by decide +kernel) (pa_cons (pv 1) (pa_cons (pe_bltn (v := .ty "int") (by rfl) T.int (by decide +kernel) rfl) pa_nil))))
      (pss_one (ps_ret (pe_and (pe_callB cr_is5 (by rfl) T.isinstance (by decide +kernel) (pa_cons (pv 0) (pa_cons (pe_bltn (v := .ty "int") (by rfl) T.int (by decide +kernel) rfl) pa_nil))) (pe_and (pe_not (pe_callB cr_is5 (by rfl) T.isinstance (by decide +kernel) (pa_cons (pv 0) (pa_cons (pe_bltn (v := .ty "bool") (by rfl) T.bool (by decide +kernel) rfl) pa_nil)))) (pe_one (pe_cmpR op_eq (pv 0) (pv 1) (nomark _)))))))
      pss_nil)
      (pss_cons (ps_if (pt_val (pe_callB cr_is5 (by rfl) T.isinstance (by decide +kernel) (pa_cons (pv 1) (pa_cons (pe_bltn (v := .ty "str") (by rfl) T.str (by decide +kernel) rfl) pa_nil))))
      (pss_one (ps_ret (pe_and (pe_callB cr_is5 (by rfl) T.isinstance (by decide +kernel) (pa_cons (pv 0) (pa_cons (pe_bltn (v := .ty "str") (by rfl) T.str (by decide +kernel) rfl) pa_nil))) (pe_one (pe_cmpR op_eq (pv 0) (pv 1) (nomark _))))))
      pss_nil)
      (pss_cons (ps_if (PW.pt (pw_and (pt_val (pe_callB cr_is5 (by rfl) T.isinstance (by decide +kernel) (pa_cons (pv 1) (pa_cons (pe_bltn (v := .ty "list") (by rfl) T.list (by decide +kernel) rfl) pa_nil)))) (pw_and1 (pt_not (pt_val (pe_callB cr_is5 (by rfl) T.isinstance (by decide +kernel) (pa_cons (pv 0) (pa_cons (pe_bltn (v := .ty "list") (by rfl) T.list (by decide +kernel) rfl) pa_nil))))))))
      (pss_one (ps_ret pe_bl))
      pss_nil)
      (pss_cons (ps_if (PW.pt (pw_and (pt_val (pe_callB cr_is5 (by rfl) T.isinstance (by decide +kernel) (pa_cons (pv 1) (pa_cons (pe_bltn (v := .ty "tuple") (by rfl) T.tuple (by decide +kernel) rfl) pa_nil)))) (pw_and1 (pt_not (pt_val (pe_callB cr_is5 (by rfl) T.isinstance (by decide +kernel) (pa_cons (pv 0) (pa_cons (pe_bltn (v := .ty "tuple") (by rfl) T.tuple (by decide +kernel) rfl) pa_nil))))))))
      (pss_one (ps_ret pe_bl))
      pss_nil)
      (pss_cons (ps_if (pt_cmpR op_neI (pe_callB call_len_seq (by rfl) T.len (by decide +kernel) (pa_cons (pv 0) pa_nil)) (pe_callB call_len_seq (by rfl) T.len (by decide +kernel) (pa_cons (pv 1) pa_nil)) (nomark _))
      (pss_one (ps_ret pe_bl))
      pss_nil)
      (pss_cons (ps_for PassesOwn.never rfl (pi_range1 (by rfl) T.range (pa_cons (pe_callB call_len_seq (by rfl) T.len (by decide +kernel) (pa_cons (pv 1) pa_nil)) pa_nil)) (pg_name (i := 2) scSame.nd rfl (Or.inl rfl))
      (pss_one (ps_if (pt_not (pt_val (pe_call ih hr (by rfl) hmg F.kp bd .nil pass0 (pa_cons (pe_ix ix_seq (pv 0) (pv 2) (fun _ _ => rfl)) (pa_cons (pe_ix ix_seq (pv 1) (pv 2) (fun _ _ => rfl)) pa_nil)))))
        (pss_one (ps_ret pe_bl))
        pss_nil)))
      (pss_one (ps_ret pe_bl))))))))))), ?_⟩
      walk_at "rd"
      rcases hs with ⟨rfl, hf⟩ | ⟨a, b, xs, ys, rfl, rfl, hk, pr, hl⟩
      · skip
        cases x with
        | non => walk_at "i6"; exact q
        | bl b =>
          cases b with
          | true => walk_at "i6"; exact q
          | false => walk_at "i6"; exact q
        | int i =>
          walk_at "i6"
          repeat (walk_at "i5"; walk_at "i6")
          exact eqS_of rfl q
        | str z =>
          walk_at "i6"
          repeat (walk_at "i5"; walk_at "i6")
          exact eqS_of rfl q
        | _ => cases hf
      · have el : xs.length = ys.length := pr.length
        have hx : SqL K H a xs ∨ SqT K H a xs := by
          rcases hk with ⟨ha, _⟩ | ⟨ha, _⟩
          · exact .inl (SqL.of ha)
          · exact .inr (SqT.of ha)
        have hy : SqL K H b ys ∨ SqT K H b ys := by
          rcases hk with ⟨_, ha⟩ | ⟨_, ha⟩
          · exact .inl (SqL.of ha)
          · exact .inr (SqT.of ha)
        have ix : ∀ {zs : List V} {k : Nat} {p : Addr} {v : V} {Q : VK}, (SqL K H p zs ∨ SqT K H p zs) → zs[k]? = some v → Q v H → rIx K (.ref p) (.int k) H Q := fun hz hv hq => by
          rcases hz with hz | hz
          · exact .inl ⟨_, _, _, _, rfl, rfl, hz, atI_nat hv, hq⟩
          · exact .inr (.inl ⟨_, _, _, _, rfl, rfl, hz, atI_nat hv, hq⟩)
        rcases hk with ⟨ha, hb⟩ | ⟨ha, hb⟩
        all_goals
          walk_at "i6"
          repeat (walk_at "i5"; walk_at "i6")
          refine ⟨_, rfl, _, hx, _, rfl, _, hy, ?_⟩
          rw [el, decide_eq_true rfl]
          refine iteF ?_
          obtain ⟨Pv, hPv⟩ : ∃ Pv : Nat → L2.St → Hp → Prop, Pv = (fun i σ H' => ∃ v : Option V, σ = [some (.ref a), some (.ref b), v] ∧ H' = H) := ⟨_, rfl⟩
          refine ⟨_, rfl, b, rfl, ys, hy, ys.length, rfl, by omega, by omega, for_range (lo := 0) (n := ((ys.length : Nat) : Int).toNat) Pv (by rw [hPv]; exact ⟨none, rfl, rfl⟩) ?_ ?_⟩
          · rintro i σ H' hi pv
            have nxt : ∀ v, Pv (i + 1) [some (.ref a), some (.ref b), v] H := fun v => by
              rw [hPv]
              exact ⟨v, rfl, rfl⟩
            rw [hPv] at pv
            obtain ⟨v, rfl, rfl⟩ := pv
            obtain ⟨x1, y1, g1, g2, sm⟩ := paired_get (i := i) pr (by omega)
            walk_at "rd"
            rw [Int.zero_add]
            refine ix hx g1 (ix hy g2 ⟨_, _, rfl, sm, ?_⟩)
            exact ⟨true, rfl, iteF (nxt _)⟩
          · rintro σ H' pv
            rw [hPv] at pv
            obtain ⟨v, rfl, rfl⟩ := pv
            walk_at "rd"
            exact q
end

/-! ### a set of tuples of ints, whatever their number (the table's masks: 7, 31, 127) -/
structure PsR (P : Program) (w : World) (h : Heap) (a : Addr) (L : List (Addr × List Int)) (es : Array (Int × Value)) (ep : Nat) (t : SetTable) : Prop where
  obj : ∃ o, h.get? a = some o ∧ o.ExactSet ∧ o.data = .set es ep t
  rw_ : es.toList = rowsOf P w L
  tb : TabOk t (L.map fun p => thash P w p.2)
  nod : (L.map (·.2)).Nodup
  tps : ∀ p ∈ L, IsT P w h p.2 p.1
  pln : t.plain = true
  ld : w.params.followText "set-order" = true ∨ t.led = true
  rm : L.length * 5 < t.mask * 3
section
variable {P : Program} {w : World} {A : Around} {E : Value → Shared → Prop} {s : Shared}
variable {a : Addr} {L : List (Addr × List Int)} {es : Array (Int × Value)} {ep : Nat} {t : SetTable}
theorem PsR.sz (R : PsR P w s.heap a L es ep t) : es.size = L.length := by
  have e := congrArg List.length R.rw_
  rw [Array.length_toList] at e
  rw [e]
  exact List.length_map _
theorem PsR.psz (R : PsR P w s.heap a L es ep t) : t.place.size = L.length := by
  have e := R.tb.sz
  rw [List.length_map] at e
  exact e
theorem PsR.fts (R : PsR P w s.heap a L es ep t) : t.fits es.size = true := by
  have e1 := R.psz
  have e2 := R.sz
  have e3 := R.rm
  have e4 : t.fill = t.place.size := by
    show t.place.size + t.dummies.size = t.place.size
    rw [R.tb.dm]
    rfl
  show (t.place.size == es.size && decide (t.fill ≤ t.mask)) = true
  rw [e4, e1, e2, beq_self_eq_true, Bool.true_and, decide_eq_true_eq]
  omega
theorem PsR.ent (R : PsR P w s.heap a L es ep t) {i : Nat} {p : Addr × List Int} (g : L[i]? = some p) : es[i]? = some (thash P w p.2, Value.ref p.1) := by
  have e : (rowsOf P w L)[i]? = some (thash P w p.2, Value.ref p.1) := by
    show (L.map _)[i]? = _
    rw [List.getElem?_map, g]
    rfl
  rw [← R.rw_, Array.getElem?_toList] at e
  exact e
theorem PsR.odd (R : PsR P w s.heap a L es ep t) : ¬ t.gaveWay = true := fun z => by
  have m := mask_odd R.tb.mok
  have z2 : (t.mask % 2 == 0) = true := z
  rw [m] at z2
  cases z2
/-- the c-th state of the search for the tuple k -/
abbrev stAt (P : Program) (w : World) (t : SetTable) (k : List Int) (c : Nat) : SetTable.Probe := nth t.mask (t.probeStart (thash P w k)) c
abbrev slAt (P : Program) (w : World) (t : SetTable) (k : List Int) (c : Nat) : Nat := (stAt P w t k c).j
theorem stAt_dm (k : List Int) (c : Nat) : (stAt P w t k c).dummy = none := by
  have all : ∀ (n : Nat) (p : SetTable.Probe), p.dummy = none → (nth t.mask p n).dummy = none := by
    intro n
    induction n with
    | zero => exact fun _ e => e
    | succ n ih =>
      intro p e
      show (nth t.mask (adv t.mask p) n).dummy = none
      exact ih _ (by rw [← adv_eq, advance_dummy]; exact e)
  exact all c _ rfl
theorem stAt_add (k : List Int) (c q : Nat) : nth t.mask (stAt P w t k c) q = stAt P w t k (c + q) := (nth_add t.mask c _ q).symm
theorem psearch (R : PsR P w s.heap a L es ep t) {x : Addr} {k : List Int} (hx : IsT P w s.heap k x) (hu : A.units < cLine) (ad : Bool) {N : Nat} (hN : N < 10 * SetTable.turns t.mask)
    (free : slAt P w t k N ∉ t.place.toList) (full : ∀ c, c < N → slAt P w t k c ∈ t.place.toList) {Q : SetFound → Shared → Prop}
    (yes : ∀ i, k ∈ L.map (·.2) → Q (.there (if ad then none else some i)) s) (no : k ∉ L.map (·.2) → Q (.free (slAt P w t k N) false) s) :
    ∀ (f c : Nat) (st : Option SetTable.Probe), st.getD (t.probeStart (thash P w k)) = stAt P w t k c → c ≤ N → N < f + c →
      (∀ (i : Nat) p, L[i]? = some p → p.2 = k → ∃ c', c ≤ c' ∧ c' < N ∧ t.place.toList[i]? = some (slAt P w t k c')) →
      wpAny (model P w) A (setSearchFrom a (.ref x) (thash P w k) ad f st) Q E s := by
  intro f
  induction f with
  | zero => intro c st _ h1 h2 _; omega
  | succ f ih =>
    intro c st est hc hf ahead
    obtain ⟨o, ho, hex, hd⟩ := R.obj
    rw [setSearchFrom_succ]
    refine wpAny_bind (wpAny_setState_of ho hd R.fts ?_)
    dsimp only
    refine wp_if_neg R.odd ?_
    try refine wpAny_bind (wpAny_pure ?_)
    have hashes : ∀ (i : Nat) p, L[i]? = some p → (es[i]?.map (·.1)).getD 0 = thash P w p.2 := fun i p g => by
      rw [R.ent g]
      rfl
    have spec := go_spec t R.tb.ris R.tb.dm (fun i => (es[i]?.map (·.1)).getD 0) (thash P w k) (10 * SetTable.turns t.mask) (N - c) (stAt P w t k c) (stAt_dm k c) (by omega)
      (fun q hq => by rw [stAt_add]; exact full (c + q) (by omega)) (by rw [stAt_add, Nat.add_sub_cancel' hc]; exact free)
    rw [est]
    simp only [stAt_add] at spec
    rcases spec with ⟨q, i, hq, hi, _, early, pr⟩ | ⟨early, pr⟩
    · -- an entry of this hash stands there
      have pr2 : t.probe (fun i => (es[i]?.map (·.1)).getD 0) (thash P w k) (stAt P w t k c) = _ := pr
      rw [pr2]
      dsimp only
      have il : i < L.length := by
        have e := (List.getElem?_eq_some_iff.mp hi).1
        rw [Array.length_toList, R.psz] at e
        exact e
      obtain ⟨p, gp⟩ : ∃ p, L[i]? = some p := ⟨_, List.getElem?_eq_getElem il⟩
      have mp : p ∈ L := List.mem_of_getElem? gp
      have live : t.slot (slAt P w t k (c + q)) = .live i := slot_live R.tb.ris hi
      have go : wpAny (model P w) A (searchRest a (.ref x) (thash P w k) ad f es t (slAt P w t k (c + q)) i (stAt P w t k (c + (q + 1)))) Q E s := by
        unfold searchRest
        rw [R.ent gp]
        dsimp only
        refine wpAny_bind (wpAny_holding (wpAny_eqBool_tuple hu (R.tps p mp) hx ?_))
        refine wpAny_bind (wpAny_setState_of ho hd R.fts ?_)
        dsimp only
        have later : p.2 ≠ k → wpAny (model P w) A (setSearchFrom a (.ref x) (thash P w k) ad f (some (stAt P w t k (c + (q + 1))))) Q E s := fun ne => by
          refine ih (c + (q + 1)) _ rfl (by omega) (by omega) fun i2 p2 g2 e2 => ?_
          obtain ⟨c2, b1, b2, b3⟩ := ahead i2 p2 g2 e2
          refine ⟨c2, ?_, b2, b3⟩
          refine Classical.byContradiction fun lt => ?_
          by_cases hc2 : c2 < c + q
          · refine early (c2 - c) i2 (by omega) (by rw [Nat.add_sub_cancel' b1]; exact b3) ?_
            rw [hashes i2 p2 g2, e2]
          · have e3 : c2 = c + q := by omega
            rw [e3] at b3
            have l2 := slot_live R.tb.ris b3
            rw [live] at l2
            injection l2 with l2
            rw [← l2, gp] at g2
            rw [Option.some.inj g2] at ne
            exact ne e2
        by_cases hk : p.2 = k
        · have mk : k ∈ L.map (·.2) := List.mem_map.mpr ⟨p, mp, hk⟩
          cases ad with
          | true =>
            refine wp_if_pos (by simp [hk]) ?_
            exact wpAny_pure (yes i mk)
          | false =>
            refine wp_if_neg (by simp) ?_
            try refine wpAny_bind (wpAny_pure ?_)
            rw [sameMem]
            dsimp only
            simp only [if_true, live, R.ent gp]
            refine wpAny_bind (wpAny_isSame_ref_self (wpAny_bind (wpAny_pure ?_)))
            rw [if_pos rfl]
            dsimp only
            rw [if_pos (decide_eq_true hk)]
            exact wpAny_pure (yes i mk)
        · refine wp_if_neg (by simp [hk]) ?_
          try refine wpAny_bind (wpAny_pure ?_)
          rw [sameMem]
          dsimp only
          simp only [if_true, live, R.ent gp]
          refine wpAny_bind (wpAny_isSame_ref_self (wpAny_bind (wpAny_pure ?_)))
          rw [if_pos rfl]
          dsimp only
          rw [if_neg (by rw [decide_eq_true_eq]; exact hk)]
          exact later hk
      by_cases hl : t.led = true
      · refine wp_if_neg (by rw [hl]; decide) ?_
        try refine wpAny_bind (wpAny_pure ?_)
        exact go
      · refine wp_if_pos (by simp [hl]) ?_
        refine wpAny_bind (seen_tup hx (fun y hy => ?_) ?_)
        · obtain ⟨e, he, rfl⟩ := List.mem_map.mp hy
          have he2 : e ∈ es.toList := by
            have := (Array.mem_filter.mp (Array.mem_toList_iff.mp he)).1
            exact Array.mem_toList_iff.mpr this
          rw [R.rw_] at he2
          obtain ⟨p2, m2, rfl⟩ := List.mem_map.mp he2
          exact ⟨p2.2, p2.1, rfl, R.tps p2 m2⟩
        · refine wp_if_neg Bool.false_ne_true ?_
          try refine wpAny_bind (wpAny_pure ?_)
          exact go
    · -- the empty slot
      have pr2 : t.probe (fun i => (es[i]?.map (·.1)).getD 0) (thash P w k) (stAt P w t k c) = _ := pr
      rw [pr2, Nat.add_sub_cancel' hc]
      dsimp only
      refine wpAny_pure (no fun hm => ?_)
      obtain ⟨p, mp, e⟩ := List.mem_map.mp hm
      obtain ⟨i, gp⟩ := List.getElem?_of_mem mp
      obtain ⟨c2, b1, b2, b3⟩ := ahead i p gp e
      refine early (c2 - c) i (by omega) (by rw [Nat.add_sub_cancel' b1]; exact b3) ?_
      rw [hashes i p gp, e]
/-- the search as it is asked for -/
theorem psearch0 (R : PsR P w s.heap a L es ep t) {x : Addr} {k : List Int} (hx : IsT P w s.heap k x) (hu : A.units < cLine) (ad : Bool) {Q : SetFound → Shared → Prop}
    (yes : ∀ i, k ∈ L.map (·.2) → Q (.there (if ad then none else some i)) s)
    (no : ∀ N, k ∉ L.map (·.2) → slAt P w t k N ∉ t.place.toList → (∀ c, c < N → slAt P w t k c ∈ t.place.toList) → Q (.free (slAt P w t k N) false) s) :
    wpAny (model P w) A (setSearch a (.ref x) (thash P w k) ad) Q E s := by
  have few := R.rm
  obtain ⟨N, n1, n2, n3⟩ := R.tb.first (by rw [List.length_map]; omega) (thash P w k)
  have n4 : N < 100000 := by
    have e : 10 * SetTable.turns t.mask ≤ 1420 := by
      unfold SetTable.turns
      rcases R.tb.mok with e | e | e <;> omega
    omega
  unfold setSearch
  refine psearch R hx hu ad n1 n2 n3 yes (fun z => no N z n2 n3) 100000 0 none rfl (Nat.zero_le _) (by omega) fun i p gp e => ?_
  have g1 : (L.map fun p => thash P w p.2)[i]? = some (thash P w k) := by
    rw [List.getElem?_map, gp, ← e]
    rfl
  have g2 : i < t.place.toList.length := by
    rw [Array.length_toList, R.psz]
    exact (List.getElem?_eq_some_iff.mp gp).1
  obtain ⟨c, c1, c2⟩ := R.tb.before n2 g1 (List.getElem?_eq_getElem g2)
  refine ⟨c, Nat.zero_le _, c1, ?_⟩
  rw [List.getElem?_eq_getElem g2]
  exact congrArg some c2.symm
end

section
variable {P : Program} {w : World} {A : Around} {E : Value → Shared → Prop} {s : Shared}
variable {a : Addr} {L : List (Addr × List Int)} {es : Array (Int × Value)} {ep : Nat} {t : SetTable}
theorem PsR.ty (R : PsR P w s.heap a L es ep t) : s.TypeIs (.ref a) "set" := by
  obtain ⟨o, ho, hx, _⟩ := R.obj
  exact ⟨o, ho, hx.1⟩
theorem PsR.nodict (R : PsR P w s.heap a L es ep t) : ∀ b, Value.ref a = .ref b → ∃ ob, s.heap.get? b = some ob ∧ ob.dict = none := fun b e => by
  injection e with e
  subst e
  obtain ⟨o, ho, hx, _⟩ := R.obj
  exact ⟨o, ho, hx.2.1⟩
/-- who is sought among tuples -/
theorem pfind (R : PsR P w s.heap a L es ep t) {x : Addr} {k : List Int} (hx : IsT P w s.heap k x) (hu : A.units < cLine) {Q : Option Nat → Shared → Prop}
    (h : ∀ r : Option Nat, r.isSome = decide (k ∈ L.map (·.2)) → Q r s) : wpAny (model P w) A (setFind a (.ref x) (thash P w k)) Q E s := by
  obtain ⟨o, ho, hex, hd⟩ := R.obj
  show wpAny (model P w) A (setFindIn a (.ref x) (thash P w k) (99999 + 1)) Q E s
  unfold setFindIn
  refine wpAny_bind (wpAny_setState_of ho hd R.fts ?_)
  dsimp only
  refine wp_if_neg (by simp [byScan, Value.scannable]) ?_
  try refine wpAny_bind (wpAny_pure ?_)
  refine wpAny_bind (psearch0 R hx hu false (fun i m => ?_) fun N m _ _ => ?_)
  · dsimp only
    exact wpAny_pure (h (some i) (by rw [decide_eq_true m]; rfl))
  · dsimp only
    exact wpAny_pure (h none (by rw [decide_eq_false m]; rfl))
theorem pis_in (R : PsR P w s.heap a L es ep t) {x : Addr} {k : List Int} (hx : IsT P w s.heap k x) (hu : A.units + 4 < cLine) {Q : Value → Shared → Prop}
    (h : Q (.bool (decide (k ∈ L.map (·.2)))) { s with toks := s.toks + (k.length + 1) }) : wpAny (model P w) A (compareOp .In (.ref x) (.ref a)) Q E s := by
  have ty := R.ty
  have ask : wpAny (model P w) A.in1 (Builtin.«frozenset.__contains__» ⟨[.ref a, .ref x], []⟩) (fun fin s' => ∃ v, fin = .done (.ret v) ∧ wpAny (model P w) A (truthy v) (fun c s' => wpAny (model P w) A (pure (Value.bool c)) Q E s') E s') E s := by
    simp only [Builtin.«frozenset.__contains__», Builtin.Frozenset.oneOther, Builtin.Frozenset.addrOf, Builtin.Frozenset.withSetAsKey, setContains, List.isEmpty_nil, bind_assoc]
    refine wpAny_bind (wpAny_pure ?_); try dsimp only
    refine wpAny_bind (wpAny_pure ?_); try dsimp only
    refine wpAny_bind (wpAny_tryCatch (wpAny_holding (wpAny_bind (wpAny_pyHash_tuple (by show A.units + 1 < cLine; omega) hx ?_))))
    refine wpAny_bind (pfind (s := { s with toks := s.toks + (k.length + 1) }) R hx (by show A.units + 1 < cLine; omega) fun r er => wpAny_pure ?_)
    show wpAny _ _ (ret (Value.bool r.isSome)) _ _ _
    rw [er]
    exact wpAny_pure ⟨_, rfl, wpAny_truthy_bool (wpAny_pure h)⟩
  show wpAny _ _ (contains (.ref a) (.ref x) >>= fun b => pure (Value.bool b)) Q E s
  refine wpAny_bind ?_
  unfold contains
  try with_reducible refine wpAny_holding ?_
  refine wpAny_bind (wpAny_specialOf ty F.slot_set_contains.lookup ?_)
  refine wp_if_neg (by rw [beq_builtin_none]; decide) (wpAny_bind (wpAny_callSpecialUnlessNone?_slot (name := Str.ofString "__contains__") ty F.slot_set_contains (wpAny_call_entry F.slot_set_contains ty entry_set_contains ask (F.args_set_contains_2 _ _))))
end

section
variable {P : Program} {w : World} {A : Around} {E : Value → Shared → Prop} {s : Shared}
variable {a : Addr} {L : List (Addr × List Int)} {es : Array (Int × Value)} {ep : Nat} {t : SetTable}
theorem PsR.small {h : Heap} (R : PsR P w h a L es ep t) (few : L.length < 64) : SetTR P w h a L es ep t := ⟨R.obj, R.rw_, R.tb, R.nod, R.tps, R.pln, R.ld, R.rm, few⟩
theorem PsR.of {h : Heap} (R : SetTR P w h a L es ep t) : PsR P w h a L es ep t := ⟨R.ob, R.rows, R.tab, R.nd, R.tup, R.plain, R.led, R.room⟩
/-- one more tuple -/
theorem padd (R : PsR P w s.heap a L es ep t) {x : Addr} {k : List Int} (hx : IsT P w s.heap k x) (hu : A.units < cLine) (bnd : L.length + 1 ≤ 76) {Q : Bool → Shared → Prop}
    (h : ∀ b h' L' es' ep' t', Heap.SameBut a s.heap h' → PsR P w h' a L' es' ep' t' → (k ∈ L.map (·.2) → L' = L) → (k ∉ L.map (·.2) → L'.Perm ((x, k) :: L)) → Q b { s with heap := h' }) :
    wpAny (model P w) A (setAddHashed a (.ref x) (thash P w k)) Q E s := by
  by_cases few : L.length + 1 < 64
  · exact add_at (R.small (by omega)) hx hu few fun b h' L' es' ep' t' sb R' c1 c2 => h b h' L' es' ep' t' sb (PsR.of R') c1 c2
  · obtain ⟨o, ho, hex, hd⟩ := R.obj
    have m127 : t.mask = 127 := by
      have := R.rm
      rcases R.tb.mok with e | e | e <;> omega
    unfold setAddHashed
    refine wpAny_holding ?_
    show wpAny (model P w) A (setAddHashedIn a (.ref x) (thash P w k) (99999 + 1)) Q E s
    rw [setAddHashedIn_succ]
    refine wpAny_bind (wpAny_setState_of ho hd R.fts ?_)
    dsimp only
    refine wp_if_neg (by simp [byScan, Value.scannable]) ?_
    try refine wpAny_bind (wpAny_pure ?_)
    refine wpAny_bind (psearch0 R hx hu true (fun i m => ?_) fun N m n1 n2 => ?_)
    · dsimp only
      exact wpAny_pure (h false s.heap L es ep t (Heap.SameBut.refl a s.heap) R (fun _ => rfl) fun z => absurd m z)
    · dsimp only
      refine wpAny_bind (wpAny_setState_of ho hd R.fts ?_)
      dsimp only
      obtain ⟨q1, q2, q3, q4, q5, q6, q7, q8, q9⟩ := R.tb.put n1 n2
      have e0 : way t.mask (thash P w k) N = slAt P w t k N := rfl
      rw [e0] at q1 q2 q3 q4 q5 q6 q7 q8 q9
      generalize slAt P w t k N = sl at q1 q2 q3 q4 q5 q6 q7 q8 q9 ⊢
      rw [q1]
      generalize (t.put sl).1 = t1 at q3 q4 q5 q6 q7 q8 q9 ⊢
      generalize SetTable.below t.place sl = b at q2 q3 ⊢
      have plain1 : t1.plain = true := by rw [q6]; exact R.pln
      refine wp_if_pos plain1 (wpAny_bind (hashBy_tup hx ?_))
      simp only [if_true, Bool.not_false, Bool.true_and]
      have pm : (L.take b ++ (x, k) :: L.drop b).Perm ((x, k) :: L) := put_perm L b (x, k)
      have rows : (SetTable.insertAt es b (thash P w k, Value.ref x)).toList = rowsOf P w (L.take b ++ (x, k) :: L.drop b) := by
        rw [rows_put, ← R.rw_]
        exact SetTable.toList_insertAt _ _ _
      have tabs : TabOk t1 ((L.take b ++ (x, k) :: L.drop b).map fun p => thash P w p.2) := by
        rw [List.map_append, List.map_cons, List.map_take, List.map_drop]
        exact q3
      generalize SetTable.insertAt es b (thash P w k, Value.ref x) = es1 at rows ⊢
      generalize L.take b ++ (x, k) :: L.drop b = L1 at pm rows tabs
      have len1 : L1.length = L.length + 1 := pm.length_eq
      have size1 : es1.size = L.length + 1 := by
        have e := congrArg List.length rows
        rw [Array.length_toList] at e
        rw [e, ← len1]
        exact List.length_map _
      have notFull : ¬ t1.tooFull = true := fun z => by
        have z2 : decide (t1.fill * 5 ≥ t1.mask * 3) = true := z
        rw [decide_eq_true_eq, q9, List.length_map, q4, m127] at z2
        omega
      refine wpAny_bind (wpAny_storeSet_of ho hd ?_ (by rw [size1, sizeLine_eq]; omega))
      refine wp_if_neg notFull ?_
      have sb : Heap.SameBut a s.heap (s.heap.update a (Obj.putSet es1 t1)) := Heap.SameBut.update ..
      refine wpAny_pure (h true _ L1 es1 (ep + 1) t1 sb ⟨⟨_, store_at ho hd, ⟨hex.1, hex.2.1, hex.2.2⟩, rfl⟩, rows, tabs, ?_, fun p hp => ?_, plain1, by rw [q5]; exact R.ld, by rw [len1, q4, m127]; omega⟩ (fun z => absurd z m) fun _ => pm)
      · refine (pm.map (·.2)).nodup_iff.mpr ?_
        rw [List.map_cons]
        exact List.nodup_cons.mpr ⟨m, R.nod⟩
      · rcases List.mem_cons.mp (pm.mem_iff.mp hp) with e | hp2
        · rw [e]
          exact isT_same hx ho hd sb
        · exact isT_same (R.tps p hp2) ho hd sb
end

/-! ### as rules of the layer: a set of pairs of ints -/
theorem perm_map {α β : Type} {f : α → β} {l m : List β} (h : l.Perm m) : ∀ L : List α, m = L.map f → ∃ L' : List α, List.Perm L' L ∧ l = List.map f L' := by
  induction h with
  | nil => intro L e; exact ⟨[], by rw [List.map_eq_nil_iff.mp e.symm], rfl⟩
  | cons x _ ih =>
    intro L e
    cases L with
    | nil => cases e
    | cons y L =>
      obtain ⟨e1, e2⟩ := List.cons.inj e
      obtain ⟨L', p, e3⟩ := ih L e2
      exact ⟨y :: L', p.cons y, by rw [List.map_cons, e1, e3]⟩
  | swap x y l =>
    intro L e
    match L, e with
    | y' :: x' :: L, e =>
      obtain ⟨e1, e2⟩ := List.cons.inj e
      obtain ⟨e3, e4⟩ := List.cons.inj e2
      exact ⟨x' :: y' :: L, List.Perm.swap y' x' L, by rw [List.map_cons, List.map_cons, ← e1, ← e3, ← e4]⟩
  | trans _ _ ih1 ih2 =>
    intro L e
    obtain ⟨L1, p1, e1⟩ := ih2 L e
    obtain ⟨L2, p2, e2⟩ := ih1 L1 e1
    exact ⟨L2, p2.trans p1, e2⟩
def pr2 : List Int → Pr
  | [x, y] => (x, y)
  | _ => (0, 0)
section
variable {P : Program} {w : World} {A : Around} {E : Value → Shared → Prop} {s : Shared}
variable {a : Addr} {L : List (Addr × List Int)} {es : Array (Int × Value)} {ep : Nat} {t : SetTable}
theorem IsT.pair {h : Heap} {b : Addr} {x y : Int} (q : IsT P w h [x, y] b) : Srt.IsPair h (.ref b) x y := by
  obtain ⟨o, items, n, ho, hc, hd, hi⟩ := q
  obtain ⟨its⟩ := items
  cases hi with
  | cons h1 h2 =>
    cases h2 with
    | cons h3 h4 =>
      cases h4
      obtain ⟨t1, rfl⟩ := Value.isInt_shape h1
      obtain ⟨t2, rfl⟩ := Value.isInt_shape h3
      exact ⟨b, o, t1, t2, n, rfl, ho, hc, hd⟩
/-- the pair that stands at a value -/
def kL (L : List (Addr × List Int)) (v : Value) : Pr := match v with
  | .ref b => pr2 ((L.lookup b).getD [])
  | _ => (0, 0)
theorem kL_of {h : Heap} (tps : ∀ p ∈ L, IsT P w h p.2 p.1) {q : Addr × List Int} (m : q ∈ L) : kL L (.ref q.1) = pr2 q.2 := by
  have key : ∀ L : List (Addr × List Int), (∀ p ∈ L, IsT P w h p.2 p.1) → q ∈ L → L.lookup q.1 = some q.2 := by
    intro L
    induction L with
    | nil => intro _ z; cases z
    | cons p L ih =>
      intro tps m
      obtain ⟨b, k⟩ := p
      by_cases e : q.1 = b
      · have t1 := tps _ m
        have t2 := tps (b, k) List.mem_cons_self
        rw [e] at t1
        have e2 : q.2 = k := t1.inj t2
        rw [List.lookup_cons, e, beq_self_eq_true, e2]
      · have m2 : q ∈ L := by
          rcases List.mem_cons.mp m with z | z
          · rw [z] at e
            exact absurd rfl e
          · exact z
        rw [List.lookup_cons, beq_eq_false_iff_ne.mpr e]
        exact ih (fun p hp => tps p (List.mem_cons_of_mem _ hp)) m2
  show pr2 ((L.lookup q.1).getD []) = _
  rw [key L tps m]
  rfl
/-- sorted(set) -/
theorem psorted (R : PsR P w s.heap a L es ep t) (hh : A.handled = none) (two : ∀ p ∈ L, ∃ x y, p.2 = [x, y]) (few : L.length ≤ 1000) {Q : Value → Shared → Prop}
    (h : ∀ s' p c (L' : List (Addr × List Int)), (∀ b o, s.heap.get? b = some o → s'.heap.get? b = some o) → s'.gens = s.gens → s'.os = s.os → s.heap.objs.size ≤ p → s'.heap.get? p = some (seqObj "list" (L'.map fun q => Value.ref q.1).toArray c) → L'.Perm L →
      L'.Pairwise (fun q r => ¬ lt2 (pr2 r.2) (pr2 q.2)) → Q (.ref p) s') : wpAny (model P w) A (call (.builtin "sorted") [.ref a]) Q E s := by
  obtain ⟨o, ho, hex, hd⟩ := R.obj
  have sz := R.sz
  refine Calls.call_function_entry kind_sorted plain_sorted entry_sorted (args_sorted1 _) ?_
  unfold Builtin.«sorted»; refine wpAny_bind (m := checkCount "sorted" 1 1 _) (wpAny_pure ?_)
  refine wpAny_bind (collect_set (A := A.in1) hh ⟨o, ho, hex.1, hd⟩ R.fts (by rw [sz]; unfold scanBound; omega) R.tb.ris R.ld fun s1 vs keep grow g1 o1 pm => ?_)
  have e1 : es.toList.map (·.2) = L.map fun q => Value.ref q.1 := by
    rw [R.rw_]
    show List.map _ (L.map _) = _
    rw [List.map_map]
    rfl
  rw [e1] at pm
  have lv : vs.length ≤ sizeLine := by
    rw [pm.length_eq, List.length_map, sizeLine_eq]
    omega
  refine wpAny_bind (wpAny_newList ?_ lv)
  have new : (s1.heap.push (seqObj "list" vs.toArray 0)).get? s1.heap.objs.size = some (seqObj "list" vs.toArray 0) := Heap.get?_push_size _ rfl
  have pairs : ∀ v ∈ vs, Srt.IsPair (s1.heap.push (seqObj "list" vs.toArray 0)) v (kL L v).1 (kL L v).2 := fun v hv => by
    obtain ⟨q, hq, rfl⟩ := List.mem_map.mp (pm.mem_iff.mp hv)
    rw [kL_of R.tps hq]
    obtain ⟨x, y, e2⟩ := two q hq
    have t1 := R.tps q hq
    rw [e2] at t1 ⊢
    exact Srt.IsPair.keeps (IsT.pair t1) fun b u e _ => Heap.get?_push_of_some _ (keep b u e)
  refine wpAny_bind (wpAny_holding (wpAny_call_entry slot_list_sort ⟨_, new, rfl⟩ entry_list_sort (SrtO.list_sort_ord (s := { s1 with heap := s1.heap.push (seqObj "list" vs.toArray 0) }) (SrtO.swo_lex (kL L)) new lv (fun h2 => SrtO.pairs_sortableO (by omega) pairs fun o e c => ?_) fun out so st => ⟨_, rfl, ?_⟩) (args_list_sort _)))
  · have e3 : some o = some (seqObj "list" vs.toArray 0) := e.symm.trans new
    cases e3
    exact absurd (Value.type.inj c) (by decide)
  · obtain ⟨L', p1, p2⟩ := perm_map (st.perm.trans pm) L rfl
    obtain ⟨c, hc⟩ := sortedHeap_at (vs := vs) (out := out.toArray) new
    refine wpAny_pure ⟨_, rfl, h _ s1.heap.objs.size c L' (fun b u e => ?_) g1 o1 grow ?_ p1 ?_⟩
    · have e4 := keep b u e
      have lt := Heap.lt_size e4
      show (sortedHeap (s1.heap.push (seqObj "list" vs.toArray 0)) s1.heap.objs.size vs out.toArray).get? b = some u
      rw [sortedHeap_old (Nat.ne_of_lt lt) (by rw [size_push']; exact Nat.lt_succ_of_lt lt)]
      exact Heap.get?_push_of_some _ e4
    · rw [← p2]
      exact hc
    · rw [p2] at so
      refine List.Pairwise.imp_of_mem (fun {q r} hq hr z => ?_) (List.pairwise_map.mp so)
      have z2 : SrtO.lexB (kL L (Value.ref r.1)) (kL L (Value.ref q.1)) = false := z
      rw [kL_of R.tps (p1.mem_iff.mp hq), kL_of R.tps (p1.mem_iff.mp hr)] at z2
      exact SrtO.lexB_no.mp z2
end
/-- the set at a without its tuples -/
structure Ps0 (P : Program) (w : World) (h : Heap) (a : Addr) (L : List (Addr × List Int)) : Prop where
  ex : ∃ (es : Array (Int × Value)) (ep : Nat) (t : SetTable), (∃ o, h.get? a = some o ∧ o.ExactSet ∧ o.data = .set es ep t) ∧ es.toList = rowsOf P w L ∧ TabOk t (L.map fun p => thash P w p.2) ∧ (L.map (·.2)).Nodup ∧ t.plain = true ∧ (w.params.followText "set-order" = true ∨ t.led = true) ∧ L.length * 5 < t.mask * 3
def PsO (P : Program) (w : World) (a : Addr) (L : List (Addr × List Int)) : HO := .ext fun h => Ps0 P w h a L
theorem PsR.p0 {P : Program} {w : World} {h : Heap} {a : Addr} {L : List (Addr × List Int)} {es : Array (Int × Value)} {ep : Nat} {t : SetTable} (R : PsR P w h a L es ep t) : Ps0 P w h a L := ⟨es, ep, t, R.obj, R.rw_, R.tb, R.nod, R.pln, R.ld, R.rm⟩
theorem Ps0.full {P : Program} {w : World} {h : Heap} {a : Addr} {L : List (Addr × List Int)} (R : Ps0 P w h a L) (tp : ∀ p ∈ L, IsT P w h p.2 p.1) : ∃ es ep t, PsR P w h a L es ep t := by
  obtain ⟨es, ep, t, h1, h2, h3, h4, h5, h6, h7⟩ := R.ex
  exact ⟨es, ep, t, ⟨h1, h2, h3, h4, tp, h5, h6, h7⟩⟩
theorem psO_new {P : Program} {w : World} {H : Hp} {h : Heap} {a : Addr} {L : List (Addr × List Int)} (R : Ps0 P w h a L) : ObjOk P w H h a (PsO P w a L) := by
  refine ⟨R, ?_, fun h1 h2 p k => ?_⟩
  · obtain ⟨_, _, _, ⟨o, ho, _⟩, _⟩ := R.ex
    exact ⟨o, ho⟩
  · obtain ⟨es, ep, t, ⟨o, ho, r⟩, q⟩ := Ps0.ex p
    exact ⟨es, ep, t, ⟨o, k o ho, r⟩, q⟩
section
variable {X : Cx}
theorem ps_get {pins : List (Addr × Obj)} {σ : L2.St} {H : Hp} {s : Shared} {a : Addr} {L : List (Addr × List Int)} (I : Inv X pins σ H s) (ha : H a = some (PsO X.prog X.w a L)) (tp : ∀ p ∈ L, SqT X.K H p.1 (p.2.map V.int)) : ∃ es ep t, PsR X.prog X.w s.heap a L es ep t :=
  Ps0.full (I.hok a _ ha).1 fun p hp => I.isT (tp p hp)
/-- set(), to be filled with pairs -/
def rPs0 (P : Program) (w : World) : List V → Hp → VK → Prop := fun xs H Q => xs = [] ∧ ∀ p, H p = none → Q (.ref p) (upd H p (PsO P w p []))
theorem cr_ps0 : CallR X (.type "set") (rPs0 X.prog X.w) := by
  intro pins s σ H xs us Q I r h
  obtain ⟨rfl, q⟩ := h
  cases r
  refine setR_new fun _ => ?_
  exact ⟨.ref _, upd H s.heap.objs.size (PsO X.prog X.w s.heap.objs.size []), I.laid (t' := s.toks) (fun b u e => Heap.get?_push_of_some _ e) (Nat.le_refl _) (psO_new (PsR.of (setTR_fresh (Heap.get?_push_size _ rfl))).p0), rfl, q _ (I.hok.fresh (Nat.le_refl _))⟩
/-- (a, b) in seen -/
def rPsIn (K : PySem.W.Frag) (P : Program) (w : World) : V → V → Hp → VK → Prop := fun x y H Q => ∃ b k a L, x = V.ref b ∧ y = V.ref a ∧ H a = some (PsO P w a L) ∧ (∀ p ∈ L, SqT K H p.1 (p.2.map V.int)) ∧ SqT K H b (k.map V.int) ∧ Q (.bl (decide (k ∈ L.map (·.2)))) H
theorem op_psIn (hu : X.A.units + 64 < cLine) : OpR X (compareOp .In) (rPsIn X.K X.prog X.w) := by
  intro pins s σ H x y v u Q I rx ry h
  obtain ⟨b, k, a, L, rfl, rfl, ha, tp, hb, q⟩ := h
  cases (show v = Value.ref b from rx)
  cases (show u = Value.ref a from ry)
  obtain ⟨es, ep, t, R⟩ := ps_get I ha tp
  exact pis_in R (I.isT hb) (by omega) ⟨.bl _, H, I.tok _, rfl, q⟩
/-- seen.add((a, b)) -/
def rPsAdd (K : PySem.W.Frag) (P : Program) (w : World) : V → List V → Hp → VK → Prop := fun x xs H Q => ∃ b k a L, x = V.ref a ∧ xs = [V.ref b] ∧ H a = some (PsO P w a L) ∧ (∀ p ∈ L, SqT K H p.1 (p.2.map V.int)) ∧ SqT K H b (k.map V.int) ∧ L.length + 1 ≤ 76 ∧
  ∀ L', (k ∈ L.map (·.2) → L' = L) → (k ∉ L.map (·.2) → L'.Perm ((b, k) :: L)) → Q .non (upd H a (PsO P w a L'))
theorem mt_psAdd (hu : X.A.units + 64 < cLine) : MtR X "set.add" (rPsAdd X.K X.prog X.w) := by
  intro pins s σ H x xs v us Q I rx rxs h
  obtain ⟨b, k, a, L, rfl, rfl, ha, tp, hb, bnd, q⟩ := h
  cases rx
  cases rxs with
  | cons ry rt =>
    cases rt
    cases (show _ = Value.ref b from ry)
    obtain ⟨es, ep, t, R⟩ := ps_get I ha tp
    have hx := I.isT hb
    refine wpAny_call_entry F.slot_set_add R.ty F.entry_set_add ?_ (F.args_set_add_2 _ _)
    simp only [Builtin.«set.add», Builtin.Frozenset.oneOther, Builtin.Frozenset.addrOf, setAdd, List.isEmpty_nil, bind_assoc]
    refine wpAny_bind (wpAny_pure ?_); try dsimp only
    refine wpAny_bind (wpAny_pure ?_); try dsimp only
    refine wpAny_bind (wpAny_holding (wpAny_bind (wpAny_pyHash_tuple (by show X.A.units + 1 < cLine; omega) hx ?_)))
    refine padd (s := { s with toks := s.toks + (k.length + 1) }) R hx (by show X.A.units + 1 < cLine; omega) bnd fun c h' L' es' ep' t' sb R' c1 c2 => ?_
    show wpAny _ _ (ret Value.none) _ _ _
    have he : ∃ u, h'.get? a = some u := by
      obtain ⟨o, ho, _⟩ := R'.obj
      exact ⟨o, ho⟩
    exact wpAny_pure ⟨_, rfl, .non, upd H a (PsO X.prog X.w a L'), I.write (e := a) (t' := s.toks + (k.length + 1)) (by rw [ha]; trivial) (.inl rfl) (fun b u hb hu => (sb.2 b hb).trans hu) he (psO_new R'.p0), rfl, q L' c1 c2⟩
/-- sorted(seen) -/
def rPsSort (K : PySem.W.Frag) (P : Program) (w : World) : List V → Hp → VK → Prop := fun vs H Q => ∃ a L, vs = [V.ref a] ∧ H a = some (PsO P w a L) ∧ (∀ p ∈ L, SqT K H p.1 (p.2.map V.int)) ∧ (∀ p ∈ L, ∃ x y, p.2 = [x, y]) ∧ L.length ≤ 1000 ∧
  ∀ (L' : List (Addr × List Int)) (p : Addr), L'.Perm L → (L'.map (·.2)).Nodup → L'.Pairwise (fun q r => ¬ lt2 (pr2 r.2) (pr2 q.2)) → H p = none → Q (.ref p) (upd H p (.lst (L'.map fun q => V.ref q.1)))
theorem cr_psSort (hc : X.calm = true) : CallR X (.builtin "sorted") (rPsSort X.K X.prog X.w) := by
  intro pins s σ H vs us Q I r h
  obtain ⟨a, L, rfl, ha, tp, two, few, q⟩ := h
  obtain ⟨es, ep, t, R⟩ := ps_get I ha tp
  rw [Vals.ref1 r]
  refine psorted R (I.ok.hd hc) two few fun s' p c L' keep g o hp hg pm pw => ?_
  have hn : H p = none := I.hok.fresh hp
  have ll : (L'.map fun q => V.ref q.1).length ≤ sizeLine := by
    rw [List.length_map, pm.length_eq, sizeLine_eq]
    omega
  have J : Inv X pins σ (upd H p (.lst (L'.map fun q => V.ref q.1))) { s with heap := s'.heap, gens := s'.gens, drawn := s'.drawn, toks := s'.toks } :=
    I.call (ch := []) (Un.laid keep hp hn) (I.hok.laid keep hp ⟨ll, _, c, vals_of_refs L', hg⟩) (by rw [g]; exact I.bare) (fun _ z => nomatch z)
  have e : s' = { s with heap := s'.heap, gens := s'.gens, drawn := s'.drawn, toks := s'.toks } := by
    cases s'
    cases s
    cases o
    rfl
  rw [e]
  exact ⟨.ref p, _, J, rfl, q L' p pm ((pm.map (·.2)).nodup_iff.mpr R.nod) pw hn⟩
/-- the call of the method -/
def tPsAdd (K : PySem.W.Frag) (P : Program) (w : World) (to : TE) (t : TA) : TE := fun σ H Q => to σ H fun x H1 => (∃ a L, x = V.ref a ∧ H1 a = some (PsO P w a L)) ∧ t σ H1 fun xs H2 => rPsAdd K P w x xs H2 Q
theorem ps_look {pins : List (Addr × Obj)} {σ : L2.St} {H : Hp} {s : Shared} {a : Addr} {L : List (Addr × List Int)} (I : Inv X pins σ H s) (ha : H a = some (PsO X.prog X.w a L)) : s.TypeIs (.ref a) "set" ∧ ∀ b, Value.ref a = .ref b → ∃ ob, s.heap.get? b = some ob ∧ ob.dict = none := by
  obtain ⟨_, _, _, ⟨o, ho, hx, _⟩, _⟩ := Ps0.ex (I.hok a _ ha).1
  refine ⟨⟨o, ho, hx.1⟩, fun b e => ?_⟩
  injection e with e
  subst e
  exact ⟨o, ho, hx.2.1⟩
theorem pe_psAdd {o e : Expr} {es : List Expr} {to : TE} {t : TA} {apos cpos : Pos} (hu : X.A.units + 64 < cLine) (ho : PE X o to) (ha : PA X (e :: es) t)
    (b1 : attributeBase o "add" X.env (eval o X.env) = eval o X.env := by rfl)
    (b2 : ((backTo cpos (starEach (e :: es) X.env)).all (fun x => !x.1) && (backToKw cpos (keywordEach [] X.env)).all (fun x => x.1.isSome) && decide ((e :: es).length + ([] : List Keyword).length + (if ([] : List Keyword).isEmpty then 0 else 1) < 30)) = true := by rfl)
    (b3 : (apos.endLine == cpos.line) = true := by rfl) (b4 : starEach (e :: es) X.env = (false, eval e X.env) :: starEach es X.env := by rfl) (b5 : (backTo cpos (starEach es X.env)).any (·.1) = false := by rfl) :
    PE X (.Call (.Attribute o "add" apos) (e :: es) [] cpos) (tPsAdd X.K X.prog X.w to t) := by
  refine ⟨fun pins s σ H Q I h => wpAny_Call_method_late b1 b2 b3 rfl (thn (ho.run pins s σ H _ I h) ?_)⟩
  rintro v s1 ⟨x, H1, I1, r1, ⟨a, L, rfl, hka⟩, q1⟩
  cases r1
  obtain ⟨k1, k2⟩ := ps_look I1 hka
  refine ⟨"set", "set.add", F.plainAttrs_set, F.slot_set_add, F.type_set_add, k1, k2, ?_⟩
  have run := ha.run cpos pins s1 σ H1 _ I1 q1
  rw [b4] at run ⊢
  refine Calls.callWith_builtin ?_ (Calls.evalArgs_plain (thn run ?_))
  · show (false || (backTo cpos (starEach es X.env)).any (·.1)) = false
    rw [b5]
    rfl
  · rintro us s2 ⟨vs, H2, I2, r2, q2⟩
    exact mt_psAdd hu pins s2 σ H2 (.ref a) vs (.ref a) us Q I2 rfl r2 q2
end

abbrev sHouse : Stmt := topS 6
abbrev sHinit : Stmt := inClass sHouse 2
abbrev sHcount : Stmt := inClass sHouse 3
abbrev sHdoors : Stmt := inClass sHouse 4
abbrev sHnear : Stmt := inClass sHouse 5
abbrev sHhas : Stmt := inClass sHouse 6
abbrev sRoom : Stmt := topS 7
abbrev sChk : Stmt := topS 8
/-- what the walk asks of the class House -/
structure Hs (K : PySem.W.Frag) (mg : Str → Option Value) (C : Addr) : Prop where
  cl : Cls K C
  nR : NoAttr K C "rooms"
  nD : NoAttr K C "_doors"
  nN : NoAttr K C "_near"
  mgC : mg "House" = some (.ref C)
  rd : ∃ mc u, ClX.CRead K C mc ∧ ClX.CVal K C mc "MOST_ROOMS" (.int 12) u
theorem for_enum {K : PySem.W.Frag} {a : Addr} {xs : List V} {g : TG} {tb : TS} {D : Ends} {σ : L2.St} {H : Hp} (Pv : Nat → L2.St → Hp → Prop) (h0 : Pv 0 σ H) (hl : ∀ i σ H, Pv i σ H → SqL K H a xs)
    (hs : ∀ (i : Nat) (x : V) (t : Addr) (σ : L2.St) (H : Hp), xs[i]? = some x → Pv i σ H → H t = none → g (.ref t) σ (upd H t (.tup [.int (i : Nat), x])) fun σ2 H2 => tb { D with nx := Pv (i + 1), ct := Pv (i + 1), bk := D.nx } σ2 H2) (hd : ∀ σ H, Pv xs.length σ H → D.nx σ H) :
    tFor (fun _ H R => R (Ite K a) H) g tb D σ H := by
  refine ⟨fun i m σ H => m = xs.length - i ∧ i ≤ xs.length ∧ Pv i σ H, ⟨xs.length, rfl, Nat.zero_le _, h0⟩, ?_⟩
  rintro i m σ H ⟨rfl, hi, p⟩
  have q := hl i σ H p
  by_cases lt : i < xs.length
  · refine .inr ⟨⟨xs, xs[i], q, List.getElem?_eq_getElem lt⟩, Pv (i + 1), fun σ' H' p' => ⟨xs.length - (i + 1), by omega, rfl, lt, p'⟩, ?_⟩
    rintro v H' ⟨t, x, rfl, nt, rfl, f⟩
    exact hs i x t σ H (f xs q) p nt
  · have e : i = xs.length := by omega
    subst e
    exact .inl ⟨⟨xs, q, Nat.le_refl _⟩, hd σ H p⟩
section
variable {P : Program} {w : World} {K : PySem.W.Frag} {mg : Str → Option Value} {base : Heap}
theorem scRoom : FnScope ["rooms"] ["rooms"] (defScope sRoom) := ⟨rfl, rfl, rfl, by decide +kernel, rfl, by decide +kernel, by decide +kernel⟩
def spRoom : Sp := fun vs H Q _ => ∃ r : Int, vs = [.int r] ∧ 1 ≤ r ∧ r ≤ 12 ∧ Q .non H
theorem ok_room {f C : Addr} {fd : FuncData} (F : Fun K "check_room_count" "check_room_count" sRoom f fd) (T : Hs K mg C) : FnOk P w K mg base CX0 1 f fd ["rooms"] spRoom := by
  refine F.ok scRoom (fun vs H Q E h => ?_) (fun cdv A outer s H vs Q E hr h => ?_)
  · obtain ⟨r, rfl, _⟩ := h
    rfl
  · obtain ⟨r, rfl, h1, h2, q⟩ := h
    refine ⟨_, (pss_one (ps_if (pt_not (pt_chain op_le op_le pe_int (pv 0) (ClX.pe_cval (pe_glob (v := .ref C) (by rfl) T.mgC rfl))))
      (pss_one (ps_never))
      pss_nil)), ?_⟩
    obtain ⟨mc, u, c1, c2⟩ := T.rd
    walk_at "rd"
    rw [if_pos h1]
    refine ⟨C, mc, .int 12, u, rfl, c1, c2, 12, rfl, ?_⟩
    rw [decide_eq_true h2]
    exact iteF q
theorem scChk : FnScope ["rooms", "doors", "seen", "place", "a", "b"] ["rooms", "doors"] (defScope sChk) := ⟨rfl, rfl, rfl, by decide +kernel, rfl, by decide +kernel, by decide +kernel⟩
def two (d : Pr) : List Int := [d.1, d.2]
theorem psO_ne {P : Program} {w : World} {a : Addr} {L : List (Addr × List Int)} {xs : List V} : PsO P w a L ≠ .tup xs := fun h => by
  unfold PsO at h
  cases h
theorem two_inj {d e : Pr} (h : two d = two e) : d = e := by
  unfold two at h
  obtain ⟨h1, h2⟩ := List.cons.inj h
  exact Prod.ext h1 (List.cons.inj h2).1
theorem not_taken {D : List Pr} (nd : D.Nodup) {i : Nat} {d : Pr} (g : D[i]? = some d) : d ∉ D.take i := fun z => by
  obtain ⟨j, gj⟩ := List.getElem?_of_mem z
  have lt : j < (D.take i).length := (List.getElem?_eq_some_iff.mp gj).1
  rw [List.length_take] at lt
  rw [List.getElem?_take_of_lt (by omega)] at gj
  have := nd_ix nd gj g
  omega
def spChk : Sp := fun vs H Q _ => ∃ (r : Nat) (l : Addr) (us : List V) (D : List Pr), vs = [.int r, .ref l] ∧ H l = some (.lst us) ∧ PL H us D ∧ D.Nodup ∧ (∀ d ∈ D, 0 ≤ d.1 ∧ d.1 < d.2 ∧ d.2 < r) ∧ r ≤ 12 ∧
  ∀ D' ws p H', Asc D' → (∀ d, d ∈ D' ↔ d ∈ D) → Same H H' → H p = none → H' p = some (.lst ws) → PL H' ws D' → Q (.ref p) H'
theorem ok_chk {f : Addr} {fd : FuncData} (F : Fun K "checked_doors" "checked_doors" sChk f fd) (T : Bi mg) : FnOk P w K mg base CX0 1 f fd ["rooms", "doors"] spChk := by
  refine F.ok scChk (fun vs H Q E h => ?_) (fun cdv A outer s H vs Q E hr h => ?_)
  · obtain ⟨r, l, us, D, rfl, _⟩ := h
    rfl
  · obtain ⟨r, l, us, D, rfl, hl, pl, nd, ok, hr12, q⟩ := h
    refine ⟨_, (pss_cons (ps_set (i := 2) scChk.nd rfl (Or.inl rfl) (pe_callTy0 cr_ps0 (by rfl) T.set (by decide +kernel)))
      (pss_cons (ps_for PassesOwn.never rfl (pi_enum (by rfl) T.enumerate (pa_cons (pv 1) pa_nil)) (pg_tup rfl (pgs_cons (pg_name (i := 3) scChk.nd rfl (Or.inl rfl)) (pgs_cons (pg_tup rfl (pgs_cons (pg_name (i := 4) scChk.nd rfl (Or.inl rfl)) (pgs_cons (pg_name (i := 5) scChk.nd rfl (Or.inl rfl)) pgs_nil))) pgs_nil)))
      (pss_cons (ps_if (PW.pt (pw_or (pt_not (PW.pt (pw_and (pt_chain op_le op_lt pe_int (pv 4) (pv 0)) (pw_and1 (pt_chain op_le op_lt pe_int (pv 5) (pv 0)))))) (pw_or (pt_cmpR op_eqI (pv 4) (pv 5) (nomark _)) (pw_or1 (pt_cmpR (op_psIn hr.units) (pe_tup (pa_cons (pv 4) (pa_cons (pv 5) pa_nil))) (pv 2) (by rfl))))))
        (pss_one (ps_never))
        pss_nil)
        (pss_one (ps_expr (pe_psAdd hr.units (pv 2) (pa_cons (pe_tup (pa_cons (pv 4) (pa_cons (pv 5) pa_nil))) pa_nil))))))
      (pss_one (ps_ret (pe_callB (cr_psSort rfl) (by rfl) T.sorted (by decide +kernel) (pa_cons (pv 2) pa_nil)))))), ?_⟩
    walk_at "rd"
    refine ⟨rfl, fun p np => ?_⟩
    obtain ⟨Pv, hPv⟩ : ∃ Pv : Nat → L2.St → Hp → Prop, Pv = (fun i σ H' => ∃ (L : List (Addr × List Int)) (v3 v4 v5 : Option V), σ = [some (.int r), some (.ref l), some (.ref p), v3, v4, v5] ∧ Same H H' ∧ H' p = some (PsO P w p L) ∧ (∀ q ∈ L, H' q.1 = some (.tup (q.2.map V.int))) ∧ List.Perm (L.map (·.2)) ((D.take i).map two)) := ⟨_, rfl⟩
    have hul : us.length = D.length := pl.len
    have dlen := drs_len' hr12 nd ok
    refine ⟨_, rfl, l, us, rfl, SqL.of (same_upd np l _ hl), for_enum (xs := us) Pv (by rw [hPv]; exact ⟨[], none, none, none, rfl, same_upd np, upd_same, fun q hq => (by cases hq), List.Perm.refl _⟩) (fun i σ H' pv => ?_) ?_ ?_⟩
    · rw [hPv] at pv
      obtain ⟨L, v3, v4, v5, _, sm, _⟩ := pv
      exact SqL.of (sm l _ hl)
    · rintro i v t σ H' gv pv nt
      have nxt : ∀ (L : List (Addr × List Int)) (v3 v4 v5 : Option V) (H' : Hp), Same H H' → H' p = some (PsO P w p L) → (∀ q ∈ L, H' q.1 = some (.tup (q.2.map V.int))) → List.Perm (L.map (·.2)) ((D.take (i + 1)).map two) → Pv (i + 1) [some (.int r), some (.ref l), some (.ref p), v3, v4, v5] H' := fun L v3 v4 v5 H' h1 h2 h3 h4 => by
        rw [hPv]
        exact ⟨L, v3, v4, v5, rfl, h1, h2, h3, h4⟩
      rw [hPv] at pv
      obtain ⟨L, v3, v4, v5, rfl, sm, hp, tp, pm⟩ := pv
      obtain ⟨d, gd, td, rfl, htd⟩ := pl.get gv
      have hid : i < D.length := (List.getElem?_eq_some_iff.mp gd).1
      have md : d ∈ D := List.mem_of_getElem? gd
      have okd := ok d md
      have hl1 := sm l _ hl
      have htd1 := sm td _ htd
      have ntd : td ≠ t := ne_of_none htd1 nt
      have htd2 : upd H' t (HO.tup [V.int i, V.ref td]) td = some (.tup [.int d.1, .int d.2]) := by rw [upd_ne ntd]; exact htd1
      walk_at "rd"
      refine ⟨[.int i, .ref td], SqT.of upd_same, rfl, .int i, [.ref td], rfl, .ref td, [], rfl, td, rfl, [.int d.1, .int d.2], SqT.of htd2, rfl, .int d.1, [.int d.2], rfl, .int d.2, [], rfl, rfl, rfl, d.1, rfl, ?_⟩
      rw [if_pos okd.1]
      refine ⟨d.1, rfl, ?_⟩
      rw [if_pos (show d.1 < (r : Int) by omega)]
      refine ⟨d.2, rfl, ?_⟩
      rw [if_pos (show 0 ≤ d.2 by omega)]
      refine ⟨d.2, rfl, ?_⟩
      rw [decide_eq_true okd.2.2]
      refine iteF ?_
      refine ⟨d.1, rfl, d.2, rfl, ?_⟩
      rw [if_neg (show ¬ d.1 = d.2 by omega)]
      refine ⟨by decide, fun t1 nt1 => ?_⟩
      have ne1 : t1 ≠ p := fun e => by
        rw [e, upd_ne (show p ≠ t from ne_of_none hp nt), hp] at nt1
        cases nt1
      have s1 : Same H' (upd (upd H' t (HO.tup [V.int i, V.ref td])) t1 (HO.tup [V.int d.1, V.int d.2])) := (same_upd nt).trans (same_upd nt1)
      have out : two d ∉ L.map (·.2) := fun z => by
        obtain ⟨e, he, ee⟩ := List.mem_map.mp (pm.mem_iff.mp z)
        rw [two_inj ee] at he
        exact not_taken nd gd he
      have lenL : L.length ≤ 66 := by
        have e := pm.length_eq
        rw [List.length_map, List.length_map, List.length_take] at e
        omega
      refine ⟨t1, two d, p, L, rfl, rfl, s1 p _ hp, fun q hq => SqT.of (s1 _ _ (tp q hq)), SqT.of upd_same, ?_⟩
      rw [decide_eq_false out]
      refine ⟨false, rfl, iteF ?_⟩
      generalize upd (upd H' t (HO.tup [V.int i, V.ref td])) t1 (HO.tup [V.int d.1, V.int d.2]) = H1 at s1
      have hp1 := s1 p _ hp
      refine ⟨_, rfl, ⟨p, L, rfl, hp1⟩, _, rfl, _, rfl, (by show 2 ≤ sizeLine; decide), fun t2 nt2 => ?_⟩
      have s2 : Same H1 (upd H1 t2 (HO.tup [V.int d.1, V.int d.2])) := same_upd nt2
      have hp2 := s2 p _ hp1
      refine ⟨t2, two d, p, L, rfl, rfl, hp2, fun q hq => SqT.of (s2 _ _ (s1 _ _ (tp q hq))), SqT.of upd_same, by omega, fun L' _ c2 => ?_⟩
      have pm2 := c2 out
      have keep : ∀ b xs, upd H1 t2 (HO.tup [V.int d.1, V.int d.2]) b = some (.tup xs) → upd (upd H1 t2 (HO.tup [V.int d.1, V.int d.2])) p (PsO P w p L') b = some (.tup xs) := fun b xs e => by
        rw [upd_ne]
        · exact e
        · rintro rfl
          rw [hp2] at e
          exact psO_ne (Option.some.inj e)
      refine nxt L' _ _ _ _ (same_ch ((sm.trans s1).trans s2) np) upd_same (fun q hq => ?_) ?_
      · refine keep _ _ ?_
        rcases List.mem_cons.mp (pm2.mem_iff.mp hq) with e | hq2
        · rw [e]
          exact upd_same
        · exact s2 _ _ (s1 _ _ (tp q hq2))
      · refine (pm2.map (·.2)).trans ?_
        rw [List.map_cons, List.take_add_one, gd, List.map_append]
        exact (List.Perm.cons _ pm).trans (List.perm_append_singleton _ _).symm
    · intro σ H' pv
      rw [hPv] at pv
      obtain ⟨L, v3, v4, v5, rfl, sm, hp, tp, pm⟩ := pv
      rw [hul, List.take_length] at pm
      have shape : ∀ q ∈ L, ∃ d ∈ D, q.2 = two d := fun q hq => by
        obtain ⟨d, hd, e⟩ := List.mem_map.mp (pm.mem_iff.mp (List.mem_map.mpr ⟨q, hq, rfl⟩))
        exact ⟨d, hd, e.symm⟩
      have lenL : L.length = D.length := by
        have e := pm.length_eq
        rw [List.length_map, List.length_map] at e
        exact e
      walk_at "rd"
      refine ⟨p, L, rfl, hp, fun q hq => SqT.of (tp q hq), fun q hq => ?_, by omega, fun L' t p1 n1 w1 nt => ?_⟩
      · obtain ⟨d, _, e⟩ := shape q hq
        exact ⟨d.1, d.2, e⟩
      · have hl' : ∀ q ∈ L', pr2 q.2 ∈ D ∧ H' q.1 = some (.tup [.int (pr2 q.2).1, .int (pr2 q.2).2]) := fun q hq => by
          have hq2 := p1.mem_iff.mp hq
          obtain ⟨d, hd, e⟩ := shape q hq2
          have e2 := tp q hq2
          rw [e] at e2 ⊢
          exact ⟨hd, e2⟩
        have back : ∀ q ∈ L', two (pr2 q.2) = q.2 := fun q hq => by
          obtain ⟨d, hd, e⟩ := shape q (p1.mem_iff.mp hq)
          rw [e]
          rfl
        refine q (L'.map fun q => pr2 q.2) (L'.map fun q => V.ref q.1) t _ (asc_of ?_ ?_) (fun d => ?_) (sm.trans (same_upd nt)) (sm.free nt) upd_same ?_
        · refine List.pairwise_map.mpr (List.Pairwise.imp_of_mem (fun {x y} hx hy hne e => hne ?_) (List.pairwise_map.mp n1))
          rw [← back x hx, ← back y hy, e]
        · exact List.pairwise_map.mpr w1
        · constructor
          · intro hd
            obtain ⟨q, hq, rfl⟩ := List.mem_map.mp hd
            exact (hl' q hq).1
          · intro hd
            have m1 : two d ∈ L.map (·.2) := pm.mem_iff.mpr (List.mem_map.mpr ⟨d, hd, rfl⟩)
            obtain ⟨q, hq, e⟩ := List.mem_map.mp m1
            refine List.mem_map.mpr ⟨q, p1.mem_iff.mpr hq, ?_⟩
            rw [e]
            rfl
        · have all : ∀ M : List (Addr × List Int), (∀ q ∈ M, H' q.1 = some (.tup [.int (pr2 q.2).1, .int (pr2 q.2).2])) → PL H' (M.map fun q => V.ref q.1) (M.map fun q => pr2 q.2) := by
            intro M
            induction M with
            | nil => intro _; exact Paired.nil
            | cons q M ih => intro h; exact Paired.cons ⟨q.1, rfl, h q List.mem_cons_self⟩ (ih fun z hz => h z (List.mem_cons_of_mem _ hz))
          exact (all L' fun q hq => (hl' q hq).2).kt (KT.new nt)
end

/-! ### the house as an object -/
def hf (r : Int) (l m : Addr) : List (Str × V) := putF "_near" (.ref m) (putF "_doors" (.ref l) (putF "rooms" (.int r) []))
theorem hn1 : ¬ (("rooms" : Str) = "_doors") := by decide +kernel
theorem hn2 : ¬ (("rooms" : Str) = "_near") := by decide +kernel
theorem hn3 : ¬ (("_doors" : Str) = "_near") := by decide +kernel
theorem hf_rooms (r : Int) (l m : Addr) : (hf r l m).lookup ("rooms" : Str) = some (.int r) := by
  unfold hf
  rw [lookup_putF, if_neg hn2, lookup_putF, if_neg hn1, lookup_putF, if_pos rfl]
theorem hf_doors (r : Int) (l m : Addr) : (hf r l m).lookup ("_doors" : Str) = some (.ref l) := by
  unfold hf
  rw [lookup_putF, if_neg hn3, lookup_putF, if_pos rfl]
theorem hf_near (r : Int) (l m : Addr) : (hf r l m).lookup ("_near" : Str) = some (.ref m) := by
  unfold hf
  rw [lookup_putF, if_pos rfl]
theorem hf_no (r : Int) (l m : Addr) {x : Str} (h1 : ¬ x = "_near") (h2 : ¬ x = "_doors") (h3 : ¬ x = "rooms") : (hf r l m).lookup x = none := by
  unfold hf
  rw [lookup_putF, if_neg h1, lookup_putF, if_neg h2, lookup_putF, if_neg h3]
  rfl
/-- the neighbours of room i by the doors D, in the order in which they are met -/
def nearF (i : Int) (D : List Pr) : List Int := D.filterMap fun d => if d.1 = i then some d.2 else if d.2 = i then some d.1 else none
/-- a house with these rooms and doors stands at p -/
structure HouseAt (C : Addr) (H : Hp) (p : Addr) (r : Nat) (D : List Pr) (own : List Addr) : Prop where
  ex : ∃ (dx l m : Addr) (ls : List V) (ns : List Addr), H p = some (.ins C dx (hf r l m)) ∧ H l = some (.lst ls) ∧ PL H ls D ∧ H m = some (.lst (ns.map V.ref)) ∧ ns.length = r ∧ (∀ i n, ns[i]? = some n → H n = some (.lst ((nearF (i : Nat) D).map V.int))) ∧ own = p :: l :: m :: ns
  ok : Drs r D
  r1 : 1 ≤ r
  r12 : r ≤ 12
theorem nearF_snoc (j : Int) (D : List Pr) (d : Pr) : nearF j (D ++ [d]) = nearF j D ++ (if d.1 = j then [d.2] else if d.2 = j then [d.1] else []) := by
  unfold nearF
  rw [List.filterMap_append]
  congr 1
  show List.filterMap _ [d] = _
  rw [List.filterMap_cons]
  by_cases h1 : d.1 = j
  · simp [h1]
  · by_cases h2 : d.2 = j
    · simp [h1, h2]
    · simp [h1, h2]
def mm2 (d : Pr) : Pr := (if d.2 < d.1 then d.2 else d.1, if d.2 > d.1 then d.2 else d.1)
section
variable {P : Program} {w : World} {K : PySem.W.Frag} {mg : Str → Option Value} {base : Heap}
theorem scHinit : FnScope ["self", "rooms", "doors", "a", "b", "_"] ["self", "rooms", "doors"] (defScope sHinit) := ⟨rfl, rfl, rfl, by decide +kernel, rfl, by decide +kernel, by decide +kernel⟩
def spHinit (C : Addr) : Sp := fun vs H Q _ => ∃ (p dx l : Addr) (r : Nat) (us : List V) (D E : List Pr), vs = [.ref p, .int r, .ref l] ∧ H p = some (.ins C dx []) ∧ H l = some (.lst us) ∧ PL H us D ∧ D.map mm2 = E ∧ E.Nodup ∧ (∀ d ∈ E, 0 ≤ d.1 ∧ d.1 < d.2 ∧ d.2 < r) ∧ 1 ≤ r ∧ r ≤ 12 ∧
  ∀ D' own H', (∀ d, d ∈ D' ↔ d ∈ E) → HouseAt C H' p r D' own → (∀ b o, H b = some o → b ≠ p → H' b = some o) → (∀ b ∈ own, b ≠ p → H b = none) → Q .non H'
theorem ok_hinit {f C fR fC : Addr} {fd fdR fdC : FuncData} (F : Fun K "__init__" "House.__init__" sHinit f fd) (T : Bi mg) (U : Hs K mg C) (d_check_room_count : Df P w K mg base "check_room_count" ["rooms"] 1 spRoom fR fdR)
    (d_checked_doors : Df P w K mg base "checked_doors" ["rooms", "doors"] 1 spChk fC fdC) : FnOk P w K mg base CX0 2 f fd ["self", "rooms", "doors"] (spHinit C) := by
  refine F.ok scHinit (fun vs H Q E h => ?_) (fun cdv A outer s H vs Q E hr h => ?_)
  · obtain ⟨p, dx, l, r, us, D, E, rfl, _⟩ := h
    rfl
  · obtain ⟨p, dx, l, r, us, D, E, rfl, hp, hl, pl, eE, nd, ok, hr1, hr12, q⟩ := h
    refine ⟨_, (pss_cons (ps_expr (pe_call d_check_room_count.ok (hr.mono (by decide)) (by rfl) d_check_room_count.at_ d_check_room_count.kp d_check_room_count.b .nil pass0 (pa_cons (pv 1) pa_nil)))
      (pss_cons (ps_fld (pv 0) (pv 1) rfl)
      (pss_cons (ps_fld (pv 0) (pe_call d_checked_doors.ok (hr.mono (by decide)) (by rfl) d_checked_doors.at_ d_checked_doors.kp d_checked_doors.b .nil pass0 (pa_cons (pv 1) (pa_cons (pe_lc (own := [("a", 3), ("b", 4)]) (g := gTup K 2 (gCons (gName 3) (gCons (gName 4) gNil))) (by rfl) scHinit.nd (pi_list (pv 2)) (blkOk_by (N := ["self", "rooms", "doors", "a", "b", "_"]) (sc := defScope sHinit) (by decide +kernel)) (fun _ _ _ _ _ => pg_tup rfl (pgs_cons (pg_name (i := 3) scHinit.nd rfl (Or.inl rfl)) (pgs_cons (pg_name (i := 4) scHinit.nd rfl (Or.inl rfl)) pgs_nil))) (fun _ _ _ _ _ => pts_nil) (fun _ _ _ _ _ => (pe_tup (pa_cons (pe_callB (call_min2 rfl) (by rfl) T.min (by decide +kernel) (pa_cons (pv 3) (pa_cons (pv 4) pa_nil))) (pa_cons (pe_callB (call_max2 rfl) (by rfl) T.max (by decide +kernel) (pa_cons (pv 3) (pa_cons (pv 4) pa_nil))) pa_nil))))) pa_nil))) rfl)
      (pss_cons (ps_fld (pv 0) (pe_lc (own := [("_", 5)]) (by rfl) scHinit.nd (pi_range1 (by rfl) T.range (pa_cons (pv 1) pa_nil)) (blkOk_by (N := ["self", "rooms", "doors", "a", "b", "_"]) (sc := defScope sHinit) (by decide +kernel)) (fun _ _ _ _ _ => pg_name (i := 5) scHinit.nd rfl (Or.inl rfl)) (fun _ _ _ _ _ => pts_nil) (fun _ _ _ _ _ => (pe_lst pa_nil))) rfl)
      (pss_one (ps_for PassesOwn.never rfl (pi_list (pe_fld (pv 0) rfl)) (pg_tup rfl (pgs_cons (pg_name (i := 3) scHinit.nd rfl (Or.inl rfl)) (pgs_cons (pg_name (i := 4) scHinit.nd rfl (Or.inl rfl)) pgs_nil)))
      (pss_cons (ps_expr (pe_bm PySem.F.plainAttrs_list PySem.F.slot_list_append PySem.F.type_list_append mt_append (pe_ix ix_list (pe_fld (pv 0) rfl) (pv 3) (fun _ _ => rfl)) (pa_cons (pv 4) pa_nil)))
        (pss_one (ps_expr (pe_bm PySem.F.plainAttrs_list PySem.F.slot_list_append PySem.F.type_list_append mt_append (pe_ix ix_list (pe_fld (pv 0) rfl) (pv 4) (fun _ _ => rfl)) (pa_cons (pv 3) pa_nil))))))))))), ?_⟩
    walk_at "rd"
    refine ⟨r, rfl, by omega, by omega, ?_⟩
    have npl : l ≠ p := ne_of hl hp (by intro z; cases z)
    refine ⟨C, dx, [], hp, U.cl, U.nR, (by show 0 < 1000; decide), ?_⟩
    have hl1 : upd H p (HO.ins C dx (putF "rooms" (V.int r) [])) l = some (.lst us) := by rw [upd_ne npl]; exact hl
    have pl1 : PL (upd H p (HO.ins C dx (putF "rooms" (V.int r) []))) us D := pl.kt (KT.ch hp (fun _ z => by cases z))
    have hp1 : upd H p (HO.ins C dx (putF "rooms" (V.int r) [])) p = some (HO.ins C dx (putF "rooms" (V.int r) [])) := upd_same
    have old1 : ∀ b o, H b = some o → b ≠ p → upd H p (HO.ins C dx (putF "rooms" (V.int r) [])) b = some o := fun b o e h => by rw [upd_ne h]; exact e
    have free1 : ∀ b, upd H p (HO.ins C dx (putF "rooms" (V.int r) [])) b = none → H b = none ∧ b ≠ p := fun b e => by
      have h : b ≠ p := fun z => by
        rw [z, upd_same] at e
        cases e
      rw [upd_ne h] at e
      exact ⟨e, h⟩
    generalize upd H p (HO.ins C dx (putF "rooms" (V.int r) [])) = H1 at hl1 pl1 hp1 old1 free1
    have dlen : D.length ≤ 66 := by
      have e := drs_len' hr12 nd ok
      rw [← eE, List.length_map] at e
      exact e
    have ul : us.length = D.length := pl.len
    -- [(min(a, b), max(a, b)) for a, b in doors]
    refine ⟨_, rfl, l, rfl, ⟨_, SqL.of hl1⟩, fun c nc => ?_⟩
    obtain ⟨Pv, hPv⟩ : ∃ Pv : Nat → Hp → Prop, Pv = (fun i H' => ∃ ws, Same H1 H' ∧ H' c = some (.lst ws) ∧ PL H' ws ((D.take i).map mm2)) := ⟨_, rfl⟩
    refine lc_list (K := K) (a := l) (xs := us) Pv (by rw [hPv]; exact ⟨[], same_upd nc, upd_same, PL.nil0 _⟩) (fun i H' _ pv => by rw [hPv] at pv; obtain ⟨_, sm, _⟩ := pv; exact SqL.of (sm _ _ hl1)) (fun i v H' gv pv => ?_) (fun H' pv => ?_)
    · have nxt : ∀ ws H', Same H1 H' → H' c = some (.lst ws) → PL H' ws ((D.take (i + 1)).map mm2) → Pv (i + 1) H' := fun ws H' h1 h2 h3 => by
        rw [hPv]
        exact ⟨ws, h1, h2, h3⟩
      rw [hPv] at pv
      obtain ⟨ws, sm, hc, pw⟩ := pv
      obtain ⟨d, gd, td, rfl, htd⟩ := pl1.get gv
      have hid : i < D.length := (List.getElem?_eq_some_iff.mp gd).1
      have htd1 := sm _ _ htd
      have lw : ws.length ≤ 66 := by
        rw [pw.len, List.length_map, List.length_take]
        omega
      simp only [wipe]
      walk_at "rd"
      refine ⟨_, SqT.of htd1, rfl, _, _, rfl, _, _, rfl, rfl, ?_⟩
      walk_at "rd"
      refine ⟨(by show 2 ≤ sizeLine; decide), fun t nt => ?_⟩
      have nct : c ≠ t := ne_of_none hc nt
      refine ⟨ws, by rw [upd_ne nct]; exact hc, len_big (by omega), nxt (ws ++ [.ref t]) _ (same_ch (sm.trans (same_upd nt)) nc) upd_same ?_⟩
      rw [List.take_add_one, gd, List.map_append]
      refine PL.snoc ((pw.kt (KT.new nt)).kt (KT.lst (by rw [upd_ne nct]; exact hc))) ⟨t, rfl, ?_⟩
      rw [upd_ne nct.symm, upd_same]
      rfl
    · rw [hPv] at pv
      obtain ⟨ws, s2, hc, pw⟩ := pv
      rw [ul, List.take_length, eE] at pw
      -- checked_doors
      refine ⟨r, c, ws, E, rfl, hc, pw, nd, ok, hr12, fun D' ls q0 H2 asc mem s3 nq hq pq => ?_⟩
      have s13 : Same H1 H2 := s2.trans s3
      have hp2 := s13 _ _ hp1
      have nqp : q0 ≠ p := ne_of hq hp2 (by intro z; cases z)
      refine ⟨C, dx, _, hp2, U.cl, U.nD, (by show 1 < 1000; decide), ?_⟩
      have hq3 : upd H2 p (HO.ins C dx (putF "_doors" (V.ref q0) (putF "rooms" (V.int r) []))) q0 = some (.lst ls) := by rw [upd_ne nqp]; exact hq
      have hp3 : upd H2 p (HO.ins C dx (putF "_doors" (V.ref q0) (putF "rooms" (V.int r) []))) p = some (HO.ins C dx (putF "_doors" (V.ref q0) (putF "rooms" (V.int r) []))) := upd_same
      have pq3 : PL (upd H2 p (HO.ins C dx (putF "_doors" (V.ref q0) (putF "rooms" (V.int r) [])))) ls D' := pq.kt (KT.ch hp2 (fun _ z => by cases z))
      have old3 : ∀ b o, H b = some o → b ≠ p → upd H2 p (HO.ins C dx (putF "_doors" (V.ref q0) (putF "rooms" (V.int r) []))) b = some o := fun b o e h => by
        rw [upd_ne h]
        exact s13 _ _ (old1 b o e h)
      have free3 : ∀ b, upd H2 p (HO.ins C dx (putF "_doors" (V.ref q0) (putF "rooms" (V.int r) []))) b = none → H b = none ∧ b ≠ p := fun b e => by
        have h : b ≠ p := fun z => by
          rw [z, upd_same] at e
          cases e
        rw [upd_ne h] at e
        exact free1 b (s13.free e)
      have fq : H q0 = none := (free1 q0 (s2.free nq)).1
      generalize upd H2 p (HO.ins C dx (putF "_doors" (V.ref q0) (putF "rooms" (V.int r) []))) = H3 at hq3 hp3 pq3 old3 free3
      -- [[] for _ in range(rooms)]
      refine ⟨_, rfl, r, rfl, by omega, by omega, fun m nm => ?_⟩
      obtain ⟨Pv, hPv⟩ : ∃ Pv : Nat → Hp → Prop, Pv = (fun i H' => ∃ ns : List Addr, Same H3 H' ∧ H' m = some (.lst (ns.map V.ref)) ∧ ns.length = i ∧ ns.Nodup ∧ (∀ n ∈ ns, H' n = some (.lst []) ∧ H3 n = none ∧ n ≠ m)) := ⟨_, rfl⟩
      refine lc_range (lo := 0) (n := ((r : Nat) : Int).toNat) Pv (by rw [hPv]; exact ⟨[], same_upd nm, upd_same, rfl, List.nodup_nil, fun n hn => by cases hn⟩) (fun i H' hi pv => ?_) (fun H' pv => ?_)
      · have nxt : ∀ (ns : List Addr) H', Same H3 H' → H' m = some (.lst (ns.map V.ref)) → ns.length = i + 1 → ns.Nodup → (∀ n ∈ ns, H' n = some (.lst []) ∧ H3 n = none ∧ n ≠ m) → Pv (i + 1) H' := fun ns H' h1 h2 h3 h4 h5 => by
          rw [hPv]
          exact ⟨ns, h1, h2, h3, h4, h5⟩
        rw [hPv] at pv
        obtain ⟨ns, sm, hm, ln, nn, hn⟩ := pv
        simp only [wipe]
        walk_at "rd"
        refine ⟨by decide, fun e ne => ?_⟩
        have nem : m ≠ e := ne_of_none hm ne
        refine ⟨ns.map V.ref, by rw [upd_ne nem]; exact hm, len_big (by rw [List.length_map]; omega), nxt (ns ++ [e]) _ (same_ch (sm.trans (same_upd ne)) nm) (by rw [upd_same, List.map_append]; rfl) (by rw [List.length_append, ln]; rfl) ?_ fun n hn2 => ?_⟩
        · refine List.nodup_append.mpr ⟨nn, by simp, fun a ha b hb => ?_⟩
          rw [List.mem_singleton.mp hb]
          exact ne_of_none (hn a ha).1 ne
        · rcases List.mem_append.mp hn2 with h | h
          · obtain ⟨h1, h2, h3⟩ := hn n h
            refine ⟨?_, h2, h3⟩
            rw [upd_ne h3, upd_ne (ne_of_none h1 ne)]
            exact h1
          · rw [List.mem_singleton.mp h]
            refine ⟨?_, sm.free ne, nem.symm⟩
            rw [upd_ne nem.symm, upd_same]
      · rw [hPv] at pv
        obtain ⟨ns, s4, hm, ln, nn, hn⟩ := pv
        have hp4 := s4 _ _ hp3
        have nmp : m ≠ p := (ne_of_none hp3 nm).symm
        refine ⟨C, dx, _, hp4, U.cl, U.nN, (by show 2 < 1000; decide), ?_⟩
        have ehf : putF "_near" (V.ref m) (putF "_doors" (V.ref q0) (putF "rooms" (V.int r) [])) = hf r q0 m := rfl
        rw [ehf]
        have npn : ∀ n ∈ ns, n ≠ p := fun n h => (ne_of_none hp3 (hn n h).2.1).symm
        have nqn : ∀ n ∈ ns, n ≠ q0 := fun n h => (ne_of_none hq3 (hn n h).2.1).symm
        have hp5 : upd H' p (HO.ins C dx (hf r q0 m)) p = some (HO.ins C dx (hf r q0 m)) := upd_same
        have hq5 : upd H' p (HO.ins C dx (hf r q0 m)) q0 = some (.lst ls) := by rw [upd_ne nqp]; exact s4 _ _ hq3
        have hm5 : upd H' p (HO.ins C dx (hf r q0 m)) m = some (.lst (ns.map V.ref)) := by rw [upd_ne nmp]; exact hm
        have hn5 : ∀ n ∈ ns, upd H' p (HO.ins C dx (hf r q0 m)) n = some (.lst []) := fun n h => by rw [upd_ne (npn n h)]; exact (hn n h).1
        have pq5 : PL (upd H' p (HO.ins C dx (hf r q0 m))) ls D' := (pq3.kt (KT.same s4)).kt (KT.ch hp4 (fun _ z => by cases z))
        have old5 : ∀ b o, H b = some o → b ≠ p → upd H' p (HO.ins C dx (hf r q0 m)) b = some o := fun b o e h => by
          rw [upd_ne h]
          exact s4 _ _ (old3 b o e h)
        have fm : H m = none := (free3 m nm).1
        have fn : ∀ n ∈ ns, H n = none := fun n h => (free3 n (hn n h).2.1).1
        have nmn : ∀ n ∈ ns, n ≠ m := fun n h => (hn n h).2.2
        generalize upd H' p (HO.ins C dx (hf r q0 m)) = H5 at hp5 hq5 hm5 hn5 pq5 old5
        have drs : Drs r D' := ⟨asc, fun d hd => ok d ((mem d).mp hd)⟩
        have dl : D'.length ≤ 66 := drs.len hr12
        have ll : ls.length = D'.length := pq.len
        -- the rooms' neighbours
        obtain ⟨Pw, hPw⟩ : ∃ Pw : Nat → L2.St → Hp → Prop, Pw = (fun i σ H' => ∃ v3 v4 : Option V, σ = [some (.ref p), some (.int r), some (.ref l), v3, v4, none] ∧ (∀ b o, H5 b = some o → b ∉ ns → H' b = some o) ∧ (∀ (j : Nat) n, ns[j]? = some n → H' n = some (.lst ((nearF (j : Nat) (D'.take i)).map V.int)))) := ⟨_, rfl⟩
        refine ⟨_, rfl, p, C, dx, _, .ref q0, rfl, hp5, U.cl, U.nD, hf_doors _ _ _, q0, rfl, ⟨_, SqL.of hq5⟩, for_list (K := K) (a := q0) (xs := ls) Pw (by rw [hPw]; exact ⟨none, none, rfl, fun b o e _ => e, fun j n g => hn5 n (List.mem_of_getElem? g)⟩) (fun i σ H' _ pv => ?_) (fun i v σ H' gv pv => ?_) (fun σ H' pv => ?_)⟩
        · rw [hPw] at pv
          obtain ⟨_, _, _, k1, _⟩ := pv
          exact SqL.of (k1 _ _ hq5 fun z => nqn _ z rfl)
        · have nxt : ∀ v3 v4 H', (∀ b o, H5 b = some o → b ∉ ns → H' b = some o) → (∀ (j : Nat) n, ns[j]? = some n → H' n = some (.lst ((nearF (j : Nat) (D'.take (i + 1))).map V.int))) → Pw (i + 1) [some (.ref p), some (.int r), some (.ref l), v3, v4, none] H' := fun v3 v4 H' h1 h2 => by
            rw [hPw]
            exact ⟨v3, v4, rfl, h1, h2⟩
          rw [hPw] at pv
          obtain ⟨v3, v4, rfl, k1, k2⟩ := pv
          obtain ⟨d, gd, td, rfl, htd⟩ := pq5.get gv
          have okd := drs.ok d (List.mem_of_getElem? gd)
          have htd1 : H' td = some (.tup [.int d.1, .int d.2]) := k1 _ _ htd fun z => by
            have e := hn5 td z
            rw [htd] at e
            cases e
          obtain ⟨ja, eja⟩ : ∃ ja : Nat, d.1 = ja := ⟨d.1.toNat, by omega⟩
          obtain ⟨jb, ejb⟩ : ∃ jb : Nat, d.2 = jb := ⟨d.2.toNat, by omega⟩
          obtain ⟨na, gna⟩ : ∃ n, ns[ja]? = some n := ⟨_, List.getElem?_eq_getElem (by omega)⟩
          obtain ⟨nb, gnb⟩ : ∃ n, ns[jb]? = some n := ⟨_, List.getElem?_eq_getElem (by omega)⟩
          have nab : na ≠ nb := fun z => by
            rw [← z] at gnb
            have := nd_ix nn gna gnb
            omega
          have mna := List.mem_of_getElem? gna
          have mnb := List.mem_of_getElem? gnb
          have hp6 := k1 _ _ hp5 fun z => npn _ z rfl
          have hm6 := k1 _ _ hm5 fun z => nmn _ z rfl
          have short : ∀ j : Int, (nearF j (D'.take i)).length ≤ 66 := fun j => by
            have := List.length_filterMap_le (fun d : Pr => if d.1 = j then some d.2 else if d.2 = j then some d.1 else none) (D'.take i)
            rw [List.length_take] at this
            show (List.filterMap _ _).length ≤ 66
            omega
          have ga := k2 ja na gna
          have gb := k2 jb nb gnb
          walk_at "rd"
          refine ⟨_, SqT.of htd1, rfl, _, _, rfl, _, _, rfl, rfl, ?_⟩
          walk_at "rd"
          have npa : p ≠ na := fun z => npn na mna z.symm
          have nma : m ≠ na := fun z => nmn na mna z.symm
          have big : ∀ j : Int, ((nearF j (D'.take i)).map V.int).length < sizeLine := fun j => len_big (by rw [List.length_map]; have := short j; omega)
          refine ⟨C, dx, _, hp6, U.cl, U.nN, .ref m, hf_near _ _ _, m, rfl, _, SqL.of hm6, .ref na, at_of (j := ja) eja (by rw [List.getElem?_map, gna]; rfl), .inl ⟨rfl, _, SqL.of ga⟩, na, rfl, _, ga, big _, ?_⟩
          refine ⟨C, dx, _, by rw [upd_ne npa]; exact hp6, U.cl, U.nN, .ref m, hf_near _ _ _, m, rfl, _, SqL.of (by rw [upd_ne nma]; exact hm6), .ref nb, at_of (j := jb) ejb (by rw [List.getElem?_map, gnb]; rfl), ?_⟩
          have gb2 : upd H' na (HO.lst ((nearF (ja : Nat) (D'.take i)).map V.int ++ [V.int d.2])) nb = some (.lst ((nearF (jb : Nat) (D'.take i)).map V.int)) := by rw [upd_ne nab.symm]; exact gb
          refine ⟨.inl ⟨rfl, _, SqL.of gb2⟩, nb, rfl, _, gb2, big _, ?_⟩
          refine nxt _ _ _ (fun b o e h => ?_) (fun j n gn => ?_)
          · rw [upd_ne (show b ≠ nb from fun z => h (by rw [z]; exact mnb)), upd_ne (show b ≠ na from fun z => h (by rw [z]; exact mna))]
            exact k1 b o e h
          · rw [List.take_add_one, gd]
            show _ = some (HO.lst ((nearF (j : Nat) (D'.take i ++ [d])).map V.int))
            rw [nearF_snoc]
            by_cases e1 : n = nb
            · subst e1
              have ej := nd_ix nn gn gnb
              subst ej
              rw [upd_same, if_neg (by omega), if_pos ejb, List.map_append, eja]
              rfl
            · rw [upd_ne e1]
              by_cases e2 : n = na
              · subst e2
                have ej := nd_ix nn gn gna
                subst ej
                rw [upd_same, if_pos eja, List.map_append]
                rfl
              · have j1 : ¬ d.1 = (j : Int) := fun z => e2 (by
                  have ej : j = ja := by omega
                  rw [ej, gna] at gn
                  exact (Option.some.inj gn).symm)
                have j2 : ¬ d.2 = (j : Int) := fun z => e1 (by
                  have ej : j = jb := by omega
                  rw [ej, gnb] at gn
                  exact (Option.some.inj gn).symm)
                rw [upd_ne e2, if_neg j1, if_neg j2, List.append_nil]
                exact k2 j n gn
        · rw [hPw] at pv
          obtain ⟨v3, v4, rfl, k1, k2⟩ := pv
          rw [ll, List.take_length] at k2
          refine q D' (p :: q0 :: m :: ns) H' mem ⟨⟨dx, q0, m, ls, ns, k1 _ _ hp5 fun z => npn _ z rfl, k1 _ _ hq5 fun z => nqn _ z rfl, ?_, k1 _ _ hm5 fun z => nmn _ z rfl, by omega, k2, rfl⟩, drs, hr1, hr12⟩ (fun b o e h => ?_) fun b hb h => ?_
          · refine Paired.mapP pq5 fun v d ⟨t, e, ht⟩ => ⟨t, e, k1 _ _ ht fun z => ?_⟩
            have e2 := hn5 t z
            rw [ht] at e2
            cases e2
          · refine k1 _ _ (old5 b o e h) fun z => ?_
            rw [fn b z] at e
            cases e
          · rcases List.mem_cons.mp hb with z | hb
            · exact absurd z h
            · rcases List.mem_cons.mp hb with z | hb
              · rw [z]; exact fq
              · rcases List.mem_cons.mp hb with z | hb
                · rw [z]; exact fm
                · exact fn b hb
end

theorem HouseAt.keep {C : Addr} {H H' : Hp} {p : Addr} {r : Nat} {D : List Pr} {own : List Addr} (h : HouseAt C H p r D own) (k : ∀ b o, b ∈ own → H b = some o → H' b = some o) (kt : KT H H') : HouseAt C H' p r D own := by
  obtain ⟨dx, l, m, ls, ns, h1, h2, h3, h4, h5, h6, rfl⟩ := h.ex
  refine ⟨⟨dx, l, m, ls, ns, k _ _ List.mem_cons_self h1, k _ _ (by simp) h2, h3.kt kt, k _ _ (by simp) h4, h5, fun i n g => k _ _ (by have := List.mem_of_getElem? g; simp [this]) (h6 i n g), rfl⟩, h.ok, h.r1, h.r12⟩
theorem HouseAt.same {C : Addr} {H H' : Hp} {p : Addr} {r : Nat} {D : List Pr} {own : List Addr} (h : HouseAt C H p r D own) (s : Same H H') : HouseAt C H' p r D own := h.keep (fun b o _ e => s b o e) (KT.same s)
theorem HouseAt.stands {C : Addr} {H : Hp} {p : Addr} {r : Nat} {D : List Pr} {own : List Addr} (h : HouseAt C H p r D own) : ∀ b ∈ own, ∃ o, H b = some o := by
  obtain ⟨dx, l, m, ls, ns, h1, h2, h3, h4, h5, h6, rfl⟩ := h.ex
  intro b hb
  rcases List.mem_cons.mp hb with z | hb
  · exact ⟨_, by rw [z]; exact h1⟩
  · rcases List.mem_cons.mp hb with z | hb
    · exact ⟨_, by rw [z]; exact h2⟩
    · rcases List.mem_cons.mp hb with z | hb
      · exact ⟨_, by rw [z]; exact h4⟩
      · obtain ⟨i, g⟩ := List.getElem?_of_mem hb
        exact ⟨_, h6 i b g⟩
section
variable {P : Program} {w : World} {K : PySem.W.Frag} {mg : Str → Option Value} {base : Heap}
theorem scHcount : FnScope ["self"] ["self"] (defScope sHcount) := ⟨rfl, rfl, rfl, by decide +kernel, rfl, by decide +kernel, by decide +kernel⟩
def spHcount (C : Addr) : Sp := fun vs H Q _ => ∃ (p : Addr) (r : Nat) (D : List Pr) (own : List Addr), vs = [.ref p] ∧ HouseAt C H p r D own ∧ Q (.int D.length) H
theorem ok_hcount {f C : Addr} {fd : FuncData} (F : Fun K "door_count" "House.door_count" sHcount f fd) (T : Bi mg) (U : Hs K mg C) : FnOk P w K mg base CX0 1 f fd ["self"] (spHcount C) := by
  refine F.ok scHcount (fun vs H Q E h => ?_) (fun cdv A outer s H vs Q E hr h => ?_)
  · obtain ⟨p, r, D, own, rfl, _⟩ := h
    rfl
  · obtain ⟨p, r, D, own, rfl, hh, q⟩ := h
    obtain ⟨dx, l, m, ls, ns, h1, h2, h3, h4, h5, h6, rfl⟩ := hh.ex
    refine ⟨_, (pss_one (ps_ret (pe_callB call_len_seq (by rfl) T.len (by decide +kernel) (pa_cons (pe_fld (pv 0) rfl) pa_nil)))), ?_⟩
    walk_at "rd"
    refine ⟨C, dx, _, h1, U.cl, U.nD, .ref l, hf_doors _ _ _, l, rfl, _, .inl (SqL.of h2), ?_⟩
    rw [h3.len]
    exact q
theorem scHdoors : FnScope ["self"] ["self"] (defScope sHdoors) := ⟨rfl, rfl, rfl, by decide +kernel, rfl, by decide +kernel, by decide +kernel⟩
def spHdoors (C : Addr) : Sp := fun vs H Q _ => ∃ (p : Addr) (r : Nat) (D : List Pr) (own : List Addr), vs = [.ref p] ∧ HouseAt C H p r D own ∧ ∀ ls q, PL H ls D → H q = none → Q (.ref q) (upd H q (.lst ls))
theorem ok_hdoors {f C : Addr} {fd : FuncData} (F : Fun K "doors" "House.doors" sHdoors f fd) (T : Bi mg) (U : Hs K mg C) : FnOk P w K mg base CX0 1 f fd ["self"] (spHdoors C) := by
  refine F.ok scHdoors (fun vs H Q E h => ?_) (fun cdv A outer s H vs Q E hr h => ?_)
  · obtain ⟨p, r, D, own, rfl, _⟩ := h
    rfl
  · obtain ⟨p, r, D, own, rfl, hh, q⟩ := h
    obtain ⟨dx, l, m, ls, ns, h1, h2, h3, h4, h5, h6, rfl⟩ := hh.ex
    refine ⟨_, (pss_one (ps_ret (pe_callTy call_list_of (by rfl) T.list (by decide +kernel) (pa_cons (pe_fld (pv 0) rfl) pa_nil)))), ?_⟩
    walk_at "rd"
    exact ⟨C, dx, _, h1, U.cl, U.nD, .ref l, hf_doors _ _ _, l, rfl, _, .inl (SqL.of h2), fun t nt => q ls t h3 nt⟩
theorem scHnear : FnScope ["self", "room"] ["self", "room"] (defScope sHnear) := ⟨rfl, rfl, rfl, by decide +kernel, rfl, by decide +kernel, by decide +kernel⟩
def spHnear (C : Addr) : Sp := fun vs H Q _ => ∃ (p : Addr) (r : Nat) (D : List Pr) (own : List Addr) (i : Nat), vs = [.ref p, .int i] ∧ HouseAt C H p r D own ∧ i < r ∧ ∀ q, H q = none → Q (.ref q) (upd H q (.lst ((nearF (i : Nat) D).map V.int)))
theorem ok_hnear {f C : Addr} {fd : FuncData} (F : Fun K "neighbours" "House.neighbours" sHnear f fd) (T : Bi mg) (U : Hs K mg C) : FnOk P w K mg base CX0 1 f fd ["self", "room"] (spHnear C) := by
  refine F.ok scHnear (fun vs H Q E h => ?_) (fun cdv A outer s H vs Q E hr h => ?_)
  · obtain ⟨p, r, D, own, i, rfl, _⟩ := h
    rfl
  · obtain ⟨p, r, D, own, i, rfl, hh, hi, q⟩ := h
    obtain ⟨dx, l, m, ls, ns, h1, h2, h3, h4, h5, h6, rfl⟩ := hh.ex
    obtain ⟨n, gn⟩ : ∃ n, ns[i]? = some n := ⟨_, List.getElem?_eq_getElem (by omega)⟩
    refine ⟨_, (pss_one (ps_ret (pe_callTy call_list_of (by rfl) T.list (by decide +kernel) (pa_cons (pe_ix ix_list (pe_fld (pv 0) rfl) (pv 1) (fun _ _ => rfl)) pa_nil)))), ?_⟩
    walk_at "rd"
    refine ⟨C, dx, _, h1, U.cl, U.nN, .ref m, hf_near _ _ _, m, rfl, _, SqL.of h4, .ref n, atI_nat (by rw [List.getElem?_map, gn]; rfl), n, rfl, _, .inl (SqL.of (h6 i n gn)), fun t nt => q t nt⟩
theorem scHhas : FnScope ["self", "a", "b"] ["self", "a", "b"] (defScope sHhas) := ⟨rfl, rfl, rfl, by decide +kernel, rfl, by decide +kernel, by decide +kernel⟩
def spHhas (C : Addr) : Sp := fun vs H Q _ => ∃ (p : Addr) (r : Nat) (D : List Pr) (own : List Addr) (i : Nat) (j : Int), vs = [.ref p, .int i, .int j] ∧ HouseAt C H p r D own ∧ i < r ∧ Q (.bl (decide (j ∈ nearF (i : Nat) D))) H
theorem inV_ints (j : Int) (l : List Int) : inV (.int j) (l.map V.int) = decide (j ∈ l) := by
  induction l with
  | nil => rfl
  | cons x l ih =>
    have e : inV (.int j) ((x :: l).map V.int) = (eqV (.int x) (.int j) || inV (.int j) (l.map V.int)) := rfl
    rw [e, ih]
    have e2 : eqV (.int x) (.int j) = decide (x = j) := by
      unfold eqV
      by_cases h : x = j
      · subst h
        simp
      · simp [h]
    rw [e2]
    by_cases h : j = x
    · subst h
      simp
    · have h' : ¬ x = j := fun z => h z.symm
      simp [h, h']
theorem flat_ints (l : List Int) : (l.map V.int).all flatV = true := by
  rw [List.all_eq_true]
  intro v hv
  obtain ⟨x, _, rfl⟩ := List.mem_map.mp hv
  rfl
theorem ok_hhas {f C : Addr} {fd : FuncData} (F : Fun K "has_door" "House.has_door" sHhas f fd) (T : Bi mg) (U : Hs K mg C) : FnOk P w K mg base CX0 1 f fd ["self", "a", "b"] (spHhas C) := by
  refine F.ok scHhas (fun vs H Q E h => ?_) (fun cdv A outer s H vs Q E hr h => ?_)
  · obtain ⟨p, r, D, own, i, j, rfl, _⟩ := h
    rfl
  · obtain ⟨p, r, D, own, i, j, rfl, hh, hi, q⟩ := h
    obtain ⟨dx, l, m, ls, ns, h1, h2, h3, h4, h5, h6, rfl⟩ := hh.ex
    obtain ⟨n, gn⟩ : ∃ n, ns[i]? = some n := ⟨_, List.getElem?_eq_getElem (by omega)⟩
    refine ⟨_, (pss_one (ps_ret (pe_cmpR op_in_seq (pv 2) (pe_ix ix_list (pe_fld (pv 0) rfl) (pv 1) (fun _ _ => rfl)) (by rfl)))), ?_⟩
    walk_at "rd"
    refine ⟨C, dx, _, h1, U.cl, U.nN, .ref m, hf_near _ _ _, m, rfl, _, SqL.of h4, .ref n, atI_nat (by rw [List.getElem?_map, gn]; rfl), n, _, rfl, .inl (SqL.of (h6 i n gn)), rfl, flat_ints _, ?_⟩
    rw [inV_ints]
    exact q
end

/-! ### a static method, called on its class -/
structure Smt (K : PySem.W.Frag) (C : Addr) (m : Str) (p g : Addr) : Prop where
  rd : PySem.W.readsIn K C (.type "type") = true
  ga : PySem.W.specialIn K (.ref C) "__getattribute__" = some (some (.builtin "type.__getattribute__"))
  at_ : PySem.W.findCls K (.ref C) (.type "type") m = some (.get (.builtin "staticmethod.__get__") (.ref p) .none (.ref C))
  rc : ∃ rest, PySem.W.recIn K p "staticmethod" = some (.ref g :: rest)
  kp : PySem.W.keepIn K (.ref g) = true
def tSmt (C : Addr) (sp : Sp) (E : XK) (ta : TE) (t : TA) : TE := fun σ H Q => ta σ H fun x H1 => x = .ref C ∧ t σ H1 fun vs H2 => sp vs H2 Q E
theorem pe_smt {X : Cx} {CX : CXT} {k : Nat} {C p g : Addr} {m : Str} {fd : FuncData} {ps : List Str} {sp : Sp} {E : XK} {o e : Expr} {es : List Expr} {apos pos : Pos} {ta : TE} {t : TA} {pl : Sem Bool} (he : PE X o ta) (c : Smt X.K C m p g) (F : FnOk X.prog X.w X.K X.mg X.base CX k g fd ps sp) (hr : Room k X.A) (hb : Binds X.K fd ps []) (hx : Passes CX X E) (ha : PA X (e :: es) t)
    (b1 : starEach (e :: es) X.env = (false, eval e X.env) :: starEach es X.env := by rfl) (b2 : (backTo pos (starEach es X.env)).any (·.1) = false := by rfl)
    (b3 : eval (.Call (.Attribute o m apos) (e :: es) [] pos) X.env = (eval o X.env >>= fun ov => standAt apos.atName >>= fun _ => holding [ov] (getMethod ov m pl) >>= fun fp => callWith pos fp.1 fp.2 (backTo pos (starEach (e :: es) X.env)) (backToKw pos (keywordEach [] X.env))) := by rfl) :
    PE X (.Call (.Attribute o m apos) (e :: es) [] pos) (tSmt C sp E ta t) := by
  refine ⟨fun pins s σ H Q I h => PySem.W.methodCall_KW (pl := pl) (thn (he.run pins s σ H _ I h) ?_) b3⟩
  rintro u s1 ⟨x, H1, I1, rx, rfl, q⟩
  cases (show u = Value.ref C from rx)
  obtain ⟨rest, rc⟩ := c.rc
  refine PySem.W.method_cls I1.kIn c.ga (PySem.W.cls_bind I1.kIn c.rd c.at_ (wpAny_call (PySem.W.sm_get (s := { s1 with toks := s1.toks + 1 }) I1.kIn rc (PySem.W.handed_on rfl ?_))))
  refine PySem.W.callWith_K (h₀ := X.base) I1.ok.mod.kin c.kp (thn (ha.run pos pins _ σ H1 _ (I1.tok _) q) ?_) b1 b2
  rintro us s2 ⟨vs, H2, I2, r, q2⟩
  exact ⟨I2.kIn, run_fn F hr hb .nil hx I2 r (by rw [List.append_nil]; exact q2)⟩

abbrev sHfull : Stmt := inClass sHouse 10
/-- the inner loop of a comprehension with two fors, over a range -/
theorem in_range {lo : Int} {n : Nat} {g : TG} {tt : TT} {te : TE} {vs : List Nat} {σ : L2.St} {H : Hp} {D : Addr} {Nx : Hp → Prop} (Pv : Nat → Hp → Prop) (h0 : Pv 0 H)
    (hs : ∀ i H, i < n → Pv i H → g (.int (lo + i)) (wipe σ vs) H fun σ2 H2 => wipe σ2 vs = wipe σ vs ∧ tt σ2 H2 fun b H3 => if b = true then te σ2 H3 fun y H4 => ∃ acc, H4 D = some (.lst acc) ∧ acc.length < sizeLine ∧ Pv (i + 1) (upd H4 D (.lst (acc ++ [y]))) else Pv (i + 1) H3)
    (hd : ∀ H, Pv n H → Nx H) :
    ∃ W : Nat → Nat → Hp → Prop, (∃ m, W 0 m H) ∧ ∀ j k H, W j k H → ((Itr lo n).stop j H ∧ Nx H) ∨ ((Itr lo n).go j H ∧ ∃ N1 : Hp → Prop, (∀ H', N1 H' → ∃ k', k' < k ∧ W (j + 1) k' H') ∧ ∀ x H', (Itr lo n).yld j H x H' → g x (wipe σ vs) H' fun σ3 H5 => wipe σ3 vs = wipe σ vs ∧ tt σ3 H5 fun b H6 =>
      if b = true then te σ3 H6 fun y H7 => ∃ acc, H7 D = some (.lst acc) ∧ acc.length < sizeLine ∧ N1 (upd H7 D (.lst (acc ++ [y]))) else N1 H6) := by
  refine ⟨fun i m H => m = n - i ∧ i ≤ n ∧ Pv i H, ⟨n, rfl, Nat.zero_le _, h0⟩, ?_⟩
  rintro i m H ⟨rfl, hi, p⟩
  by_cases lt : i < n
  · refine .inr ⟨lt, Pv (i + 1), fun H' q => ⟨n - (i + 1), by omega, rfl, lt, q⟩, ?_⟩
    rintro x H' ⟨rfl, rfl⟩
    exact hs i H' lt p
  · have e : i = n := by omega
    subst e
    exact .inl ⟨Nat.le_refl _, hd H p⟩
/-- all pairs, by their greater room -/
def fullR (b : Nat) : List Pr := (List.range b).map fun a : Nat => (((a : Int), (b : Int)) : Pr)
def fullE (n : Nat) : List Pr := (List.range n).flatMap fullR
theorem mem_fullE {n : Nat} {d : Pr} : d ∈ fullE n ↔ 0 ≤ d.1 ∧ d.1 < d.2 ∧ d.2 < n := by
  unfold fullE fullR
  rw [List.mem_flatMap]
  constructor
  · rintro ⟨b, hb, hd⟩
    obtain ⟨a, ha, rfl⟩ := List.mem_map.mp hd
    have h1 := List.mem_range.mp hb
    have h2 := List.mem_range.mp ha
    simp only
    omega
  · rintro ⟨h1, h2, h3⟩
    refine ⟨d.2.toNat, List.mem_range.mpr (by omega), List.mem_map.mpr ⟨d.1.toNat, List.mem_range.mpr (by omega), ?_⟩⟩
    exact Prod.ext (by simp only; omega) (by simp only; omega)
theorem fullE_nd {n : Nat} (h : n ≤ 12) : (fullE n).Nodup := by
  have : n = 0 ∨ n = 1 ∨ n = 2 ∨ n = 3 ∨ n = 4 ∨ n = 5 ∨ n = 6 ∨ n = 7 ∨ n = 8 ∨ n = 9 ∨ n = 10 ∨ n = 11 ∨ n = 12 := by omega
  rcases this with rfl | rfl | rfl | rfl | rfl | rfl | rfl | rfl | rfl | rfl | rfl | rfl | rfl <;> decide +kernel
theorem mm2_id {d : Pr} (h : d.1 < d.2) : mm2 d = d := by
  unfold mm2
  rw [if_neg (by omega), if_pos (by omega)]
section
variable {P : Program} {w : World} {K : PySem.W.Frag} {mg : Str → Option Value} {base : Heap}
theorem scHfull : FnScope ["rooms", "b", "a"] ["rooms"] (defScope sHfull) := ⟨rfl, rfl, rfl, by decide +kernel, rfl, by decide +kernel, by decide +kernel⟩
def spHfull (C : Addr) : Sp := fun vs H Q _ => ∃ r : Nat, vs = [.int r] ∧ 1 ≤ r ∧ r ≤ 12 ∧ ∀ p D own H', HouseAt C H' p r D own → Same H H' → Q (.ref p) H'
theorem ok_hfull {f C fR fi : Addr} {fd fdR fdi : FuncData} (F : Fun K "full" "House.full" sHfull f fd) (T : Bi mg) (U : Hs K mg C) (M : Mk K C fi) (Gi : FnOk P w K mg base CX0 2 fi fdi ["self", "rooms", "doors"] (spHinit C)) (bi : Binds K fdi ["self", "rooms", "doors"] []) (d_check_room_count : Df P w K mg base "check_room_count" ["rooms"] 1 spRoom fR fdR) : FnOk P w K mg base CX0 4 f fd ["rooms"] (spHfull C) := by
  refine F.ok scHfull (fun vs H Q E h => ?_) (fun cdv A outer s H vs Q E hr h => ?_)
  · obtain ⟨r, rfl, _⟩ := h
    rfl
  · obtain ⟨r, rfl, r1, r12, q⟩ := h
    refine ⟨_, pss_cons (ps_expr (pe_call d_check_room_count.ok (hr.mono (by decide)) (by rfl) d_check_room_count.at_ d_check_room_count.kp d_check_room_count.b .nil pass0 (pa_cons (pv 0) pa_nil)))
      (pss_one (ps_ret (pe_make M Gi hr (by rfl) U.mgC bi .nil pass0 (pa_cons (pv 0) (pa_cons (pe_lc2 (own := [("b", 1), ("a", 2)]) (vs1 := [2]) (by rfl) scHfull.nd (pi_range1 (by rfl) T.range (pa_cons (pv 0) pa_nil)) (blkOk_by (N := ["rooms", "b", "a"]) (sc := defScope sHfull) (by decide +kernel)) (by decide) (fun _ _ _ _ _ => pg_name (i := 1) scHfull.nd rfl (Or.inl rfl)) (fun _ _ _ _ _ => pts_nil)
        (fun _ _ _ _ _ => pi_range1 (by rfl) T.range (pa_cons (pv 1) pa_nil)) (fun _ _ _ _ _ => pg_name (i := 2) scHfull.nd rfl (Or.inl rfl)) (fun _ _ _ _ _ => pts_nil) (fun _ _ _ _ _ => pe_tup (pa_cons (pv 2) (pa_cons (pv 1) pa_nil)))) pa_nil))))), ?_⟩
    walk_at "rd"
    refine ⟨r, rfl, by omega, by omega, ?_⟩
    refine ⟨_, rfl, r, rfl, by omega, by omega, fun c nc => ?_⟩
    obtain ⟨Pv, hPv⟩ : ∃ Pv : Nat → Hp → Prop, Pv = (fun i Hx => ∃ ws, Same H Hx ∧ Hx c = some (.lst ws) ∧ PL Hx ws (fullE i)) := ⟨_, rfl⟩
    have len66 : ∀ i, i ≤ r → (fullE i).length ≤ 66 := fun i h => drs_len' (r := i) (by omega) (fullE_nd (by omega)) fun d hd => mem_fullE.mp hd
    refine ⟨fun i m Hx => m = (r : Int).toNat - i ∧ i ≤ (r : Int).toNat ∧ Pv i Hx, ⟨_, rfl, Nat.zero_le _, by rw [hPv]; exact ⟨[], same_upd nc, upd_same, PL.nil0 _⟩⟩, ?_⟩
    rintro i m Hx ⟨rfl, hi, pv⟩
    by_cases lt : i < (r : Int).toNat
    · refine .inr ⟨lt, Pv (i + 1), fun H' q => ⟨_, by omega, rfl, lt, q⟩, ?_⟩
      rintro x H' ⟨rfl, rfl⟩
      have nxt : ∀ ws Hx, Same H Hx → Hx c = some (.lst ws) → PL Hx ws (fullE (i + 1)) → Pv (i + 1) Hx := fun ws Hx h1 h2 h3 => by
        rw [hPv]
        exact ⟨ws, h1, h2, h3⟩
      rw [hPv] at pv
      obtain ⟨ws, sm, hc, pw⟩ := pv
      obtain ⟨Pw, hPw⟩ : ∃ Pw : Nat → Hp → Prop, Pw = (fun j Hx => ∃ ws, Same H Hx ∧ Hx c = some (.lst ws) ∧ PL Hx ws (fullE i ++ (List.range j).map fun a : Nat => (((a : Int), (i : Int)) : Pr))) := ⟨_, rfl⟩
      refine ⟨rfl, iteT (B := True) ?_⟩
      refine ⟨_, rfl, 0 + (i : Int), rfl, by omega, by omega, in_range (lo := 0) (n := (0 + (i : Int)).toNat) Pw (by rw [hPw]; exact ⟨ws, sm, hc, by rw [List.range_zero, List.map_nil, List.append_nil]; exact pw⟩) (fun j Hy hj pv => ?_) (fun Hy pv => ?_)⟩
      · have nxw : ∀ ws Hx, Same H Hx → Hx c = some (.lst ws) → PL Hx ws (fullE i ++ (List.range (j + 1)).map fun a : Nat => (((a : Int), (i : Int)) : Pr)) → Pw (j + 1) Hx := fun ws Hx h1 h2 h3 => by
          rw [hPw]
          exact ⟨ws, h1, h2, h3⟩
        rw [hPw] at pv
        obtain ⟨zs, s2, hc2, pz⟩ := pv
        have l1 := len66 i (by omega)
        have zl : zs.length ≤ 100 := by
          rw [pz.len, List.length_append, List.length_map, List.length_range]
          omega
        simp only [wipe]
        walk_at "rd"
        refine ⟨(by show 2 ≤ sizeLine; decide), fun t nt => ?_⟩
        have nct : c ≠ t := ne_of_none hc2 nt
        refine ⟨zs, by rw [upd_ne nct]; exact hc2, len_big (by omega), nxw (zs ++ [.ref t]) _ (same_ch (s2.trans (same_upd nt)) nc) upd_same ?_⟩
        rw [List.range_succ, List.map_append, ← List.append_assoc]
        refine PL.snoc ((pz.kt (KT.new nt)).kt (KT.lst (by rw [upd_ne nct]; exact hc2))) ⟨t, rfl, ?_⟩
        rw [upd_ne nct.symm, upd_same, Int.zero_add, Int.zero_add]
      · rw [hPw] at pv
        obtain ⟨zs, s2, hc2, pz⟩ := pv
        refine nxt zs Hy s2 hc2 ?_
        have e : fullE (i + 1) = fullE i ++ (List.range (0 + (i : Int)).toNat).map fun a : Nat => (((a : Int), (i : Int)) : Pr) := by
          unfold fullE
          rw [List.range_succ, List.flatMap_append, show (0 + (i : Int)).toNat = i by omega]
          congr 1
          show fullR i ++ [] = _
          rw [List.append_nil]
          rfl
        rw [e]
        exact pz
    · have e : i = r := by omega
      subst e
      rw [hPv] at pv
      obtain ⟨ws, sm, hc, pw⟩ := pv
      refine .inl ⟨by show (i : Int).toNat ≤ i; omega, ?_⟩
      intro x dx nx ndx nex
      have e : (fullE i).map mm2 = fullE i := by
        refine (List.map_congr_left fun d hd => ?_).trans (List.map_id _)
        exact mm2_id (mem_fullE.mp hd).2.1
      have s0 : Same Hx (upd (upd Hx dx (.own x)) x (.ins C dx [])) := fun b o z => by
        rw [upd_ne (ne_of_none z nx), upd_ne (ne_of_none z ndx)]
        exact z
      refine ⟨x, dx, c, i, ws, fullE i, fullE i, rfl, upd_same, s0 _ _ hc, pw.kt (KT.same s0), e, fullE_nd r12, fun d hd => mem_fullE.mp hd, r1, r12, fun D' own H' _ hh keep free => ⟨rfl, ?_⟩⟩
      exact q x D' own H' hh fun b o z => keep b o (s0 b o (sm b o z)) (ne_of_none (sm b o z) nx)
end

abbrev sTooL : Stmt := topS 3
abbrev sTinit : Stmt := inClass sTooL 0
/-- an own class of error with one field -/
structure Err (K : PySem.W.Frag) (mg : Str → Option Value) (x fld : Str) (C fI : Addr) : Prop where
  oex : OexC K C
  gC : mg x = some (.ref C)
  iC : PySem.W.findIn K (.ref C) "__init__" = some (some (.ref fI))
  tI : PySem.W.typeIn K (.ref fI) = some (.type "function")
  noF : PySem.W.findIn K (.ref C) fld = some none
  xf : XfC K C
  ca : PySem.W.findIn K (.ref C) "__class__" = some (some (.builtin "object.__class__"))
  hn : PySem.W.specialIn K (.builtin "object.__class__") "__get__" = some (some (.builtin "getset_descriptor.__get__"))
  ht : PySem.W.takesIn K (.builtin "object.__class__") = some true
  hm : PySem.W.mroIn K C (.type "object") = some true
  te : PySem.W.exmOne K (.ref C) (.ref C) = some true
/-- isinstance(e, c), e the exception that the suite holds, with its dict -/
def rIsX (K : PySem.W.Frag) (a : Addr) (cls : Value) (d : Option Addr) : List V → Hp → VK → Prop := fun xs H Q => ∃ (D dd : Addr) (fs : List (Str × V)) (c : V) (cv : Value) (b : Bool), xs = [.ref a, c] ∧ cls = .ref D ∧ d = some dd ∧ H dd = some (.xd fs) ∧ (∃ x fld mg fI, Err K mg x fld D fI) ∧ (∀ u, RelV c u → u = cv) ∧ PySem.W.kitOne K (.ref D) cv = some b ∧ Q (.bl b) H
theorem err_kit {K : PySem.W.Frag} {mg : Str → Option Value} {x fld : Str} {D fI e : Addr} {oe : Obj} {od : Obj} (T : Err K mg x fld D fI) : PySem.W.KitX K (.ref e) (.ref D) (fun h => PySem.W.InstAt h e oe D (some od)) :=
  PySem.W.kitx_exc (by
    have h := T.xf.hdC
    unfold PySem.W.hasDictIn at h
    cases c : PySem.W.clsIn K D with
    | some _ => rfl
    | none => rw [c] at h; exact absurd h (by decide)) T.xf.ga T.xf.gg T.xf.exC T.ca T.hn T.ht T.hm
theorem call_isX {X : Cx} {a : Addr} {cls : Value} {d : Option Addr} {oe : Obj} {pn : List (Addr × Obj)} (hz : Zc cls d oe) (hf : ∃ vs, oe.data = .fields vs) : CallR (X.suite a ((a, oe) :: pn)) (.builtin "isinstance") (rIsX X.K a cls d) := by
  intro pins s σ H xs us Q I r h
  obtain ⟨D, dd, fs, c, cv, b, rfl, ec, ed, ea, ⟨x, fld, mg, fI, T⟩, hcv, e, q⟩ := h
  subst ec
  subst ed
  cases r with
  | cons rx rr =>
    cases rr with
    | cons rt rr =>
      cases rr
      cases rx
      have ec := hcv _ rt
      subst ec
      obtain ⟨hget, _⟩ := I.pin (a, oe) (List.mem_append.mpr (.inl List.mem_cons_self))
      obtain ⟨vs, hv⟩ := hf
      have hx : ObjOk X.prog X.w H s.heap dd (.xd fs) := I.hok dd _ ea
      obtain ⟨mA, hns, hr⟩ := hx
      obtain ⟨od, ho, hl⟩ := lookIn_ns hns
      have J : PySem.W.InstAt s.heap a oe D (some od) := ⟨hget, hz.1, by unfold PySem.W.notCls; rw [hv] <;> rfl, by rw [hz.2]; exact ho⟩
      exact PySem.W.kia_one (err_kit T) I.kIn J e (fun z => nomatch z) fun tk => ⟨.bl b, H, I.kept (t' := tk) fun _ _ z => z, rfl, q⟩
/-- the same with a tuple of two classes -/
def rIsXT (K : PySem.W.Frag) (a : Addr) (cls : Value) (d : Option Addr) : List V → Hp → VK → Prop := fun xs H Q => ∃ (D dd t : Addr) (fs : List (Str × V)) (c1 c2 : Addr) (b : Bool), xs = [.ref a, .ref t] ∧ cls = .ref D ∧ d = some dd ∧ H dd = some (.xd fs) ∧ (∃ x fld mg fI, Err K mg x fld D fI) ∧ H t = some (.tup [.ref c1, .ref c2]) ∧ PySem.W.kitAny K (.ref D) [.ref c1, .ref c2] = some b ∧ Q (.bl b) H
theorem call_isXT {X : Cx} {a : Addr} {cls : Value} {d : Option Addr} {oe : Obj} {pn : List (Addr × Obj)} (hz : Zc cls d oe) (hf : ∃ vs, oe.data = .fields vs) : CallR (X.suite a ((a, oe) :: pn)) (.builtin "isinstance") (rIsXT X.K a cls d) := by
  intro pins s σ H xs us Q I r h
  obtain ⟨D, dd, t, fs, c1, c2, b, rfl, ec, ed, ea, ⟨x, fld, mg, fI, T⟩, ht, e, q⟩ := h
  subst ec
  subst ed
  cases r with
  | cons rx rr =>
    cases rr with
    | cons rt rr =>
      cases rr
      cases rx
      cases rt
      obtain ⟨hget, _⟩ := I.pin (a, oe) (List.mem_append.mpr (.inl List.mem_cons_self))
      obtain ⟨vs, hv⟩ := hf
      have hx : ObjOk X.prog X.w H s.heap dd (.xd fs) := I.hok dd _ ea
      obtain ⟨mA, hns, hr⟩ := hx
      obtain ⟨od, ho, hl⟩ := lookIn_ns hns
      have J : PySem.W.InstAt s.heap a oe D (some od) := ⟨hget, hz.1, by unfold PySem.W.notCls; rw [hv] <;> rfl, by rw [hz.2]; exact ho⟩
      obtain ⟨its, rel, tp, _⟩ := I.tuple (SqT.of (K := X.K) ht)
      have eits : its = [Value.ref c1, Value.ref c2] := by
        cases rel with
        | cons r1 rr =>
          cases rr with
          | cons r2 rr =>
            cases rr
            cases r1
            cases r2
            rfl
      subst eits
      obtain ⟨o, ho2, hc2, n2, hd2⟩ := tp
      obtain ⟨oc, odd, oda, osl⟩ := o
      dsimp only at hc2 hd2
      subst hc2 hd2
      exact PySem.W.kia_tup (err_kit T) I.kIn J ho2 e (fun z => nomatch z) fun tk => ⟨.bl b, H, I.kept (t' := tk) fun _ _ z => z, rfl, q⟩
section
variable {P : Program} {w : World} {K : PySem.W.Frag} {mg : Str → Option Value} {base : Heap}
theorem scTinit : FnScope ["self", "size"] ["self", "size"] (defScope sTinit) := ⟨rfl, rfl, rfl, by decide +kernel, rfl, by decide +kernel, by decide +kernel⟩
def spTinit (CT : Addr) : Sp := fun vs H Q _ => ∃ (a : Addr) (n : Int), vs = [.ref a, .int n] ∧ H a = some (exo a CT none) ∧ ∀ dx, H dx = none → dx ≠ a → Q .non (upd (upd H dx (exd dx [("size", .int n)])) a (exo a CT (some dx)))
theorem ok_tinit {f CT : Addr} {fd : FuncData} (F : Fun K "__init__" "TooLarge.__init__" sTinit f fd) (oex : OexC K CT) (noF : PySem.W.findIn K (.ref CT) "size" = some none) : FnOk P w K mg base CX0 1 f fd ["self", "size"] (spTinit CT) := by
  refine F.ok scTinit (fun vs H Q E h => ?_) (fun cdv A outer s H vs Q E hr h => ?_)
  · obtain ⟨a, n, rfl, _⟩ := h
    rfl
  · obtain ⟨a, n, rfl, ha, q⟩ := h
    refine ⟨_, (pss_one (ps_ost (pv 0) (pv 1))), ?_⟩
    walk_at "rd"
    exact ⟨_, rfl, _, rfl, a, CT, rfl, oex, noF, .inl ⟨ha, fun dx ndx ne => q dx ndx ne⟩⟩
end

abbrev sBad : Stmt := topS 2
abbrev sBinit : Stmt := inClass sBad 0
theorem lget2' {α β : Type} {F : α → β → Prop} : ∀ {vs : List α} {D : List β} {i : Nat} {v : α}, Paired F vs D → vs[i]? = some v → ∃ d, D[i]? = some d ∧ F v d
  | _, _, _, _, Paired.nil, e => by simp at e
  | _, _, 0, v, .cons r _, e => by
    have e2 := Option.some.inj e
    subst e2
    exact ⟨_, rfl, r⟩
  | _, _, i + 1, v, .cons _ t, e => lget2' (i := i) t e
theorem for_iterW {wi : TI} {g : TG} {tb : TS} {D : Ends} {σ : L2.St} {H : Hp} (h : wi σ H fun J H1 => tFor (fun _ H R => R J H) g tb D σ H1) : tFor wi g tb D σ H := h
/-- a method of the class at C that keeps a promise -/
structure Md (P : Program) (w : World) (K : PySem.W.Frag) (mg : Str → Option Value) (base : Heap) (C : Addr) (x : Str) (ps : List Str) (k : Nat) (sp : Sp) (f : Addr) (fd : FuncData) : Prop where
  m : Meth K C x f
  b : Binds K fd ps []
  ok : FnOk P w K mg base CX0 k f fd ps sp
/-! ### making an object where making may raise -/
section
variable {X : Cx} {CX : CXT} {k : Nat} {f C : Addr} {fd : FuncData} {ps : List Str} {sp : Sp} {E : L2.St → XK} {x : Str} {p pos : Pos} {e : Expr} {es : List Expr} {t : TA}
theorem run_makeS {pins : List (Addr × Obj)} {σ : L2.St} {H : Hp} {s : Shared} {Q : VK} {us : List Value} {vs : List V} (M : Mk X.K C f) (F : FnOk X.prog X.w X.K X.mg X.base CX k f fd ps sp) (hr : Room (k + 1) X.A) (hb : Binds X.K fd ps [])
    (hx : PassesAt CX X σ (E σ)) (I : Inv X pins σ H s) (r : Vals vs us)
    (h : ∀ x dx, H x = none → H dx = none → dx ≠ x → sp (.ref x :: vs) (upd (upd H dx (.own x)) x (.ins C dx [])) (fun v H2 => v = .non ∧ Q (.ref x) H2) (E σ)) :
    wpAny (model X.prog X.w) X.A (call (.ref C) us) (EP X pins σ Q) X.xe s := by
  have hq := h (s.heap.objs.size + 1) s.heap.objs.size (I.hok.fresh (Nat.le_succ _)) (I.hok.fresh (Nat.le_refl _)) (Nat.ne_of_lt (Nat.lt_succ_self _))
  have I2 := Inv.made (C := C) I
  have r2 : Vals (V.ref (s.heap.objs.size + 1) :: vs) (Value.ref (s.heap.objs.size + 1) :: us) := .cons rfl r
  have hl : (Value.ref (s.heap.objs.size + 1) :: us ++ []).length = ps.length := by
    rw [List.append_nil]
    have e := r2.length
    rw [F.len _ _ _ _ hq] at e
    exact e.symm
  have b := hb _ (Value.ref (s.heap.objs.size + 1) :: us) I2.kIn hl
  rw [List.append_nil] at b
  refine wpAny_call (make_map (f := f) I.kIn M.makes M.init (beq_iff_eq.mp M.fn) (codeAny_mono (F.run _ X.stack _ _ ⟨Value.ref (s.heap.objs.size + 1) :: us, []⟩ (Value.ref (s.heap.objs.size + 1) :: us) _ _ (E σ) (hr.make C us [])
    (I2.env0.make C us []) b r2 hq) fun r s' hq' => ?_))
  cases r with
  | error e => exact hx pins _ _ e s' I2 hq'
  | ok fl =>
    cases fl with
    | ret u =>
      obtain ⟨v, H', I3, rv, ev, q3⟩ := I2.after hq'
      subst ev
      exact ⟨rv, ⟨V.ref (s.heap.objs.size + 1), H', I3, rfl, q3⟩⟩
    | next => exact False.elim hq'
    | brk => exact False.elim hq'
    | cont => exact False.elim hq'
def tMakeS (C : Addr) (sp : Sp) (E : L2.St → XK) (t : TA) : TE := fun σ H Q => t σ H fun vs H1 => ∀ x dx, H1 x = none → H1 dx = none → dx ≠ x → sp (.ref x :: vs) (upd (upd H1 dx (.own x)) x (.ins C dx [])) (fun v H2 => v = .non ∧ Q (.ref x) H2) (E σ)
theorem pe_makeS (M : Mk X.K C f) (F : FnOk X.prog X.w X.K X.mg X.base CX k f fd ps sp) (hr : Room (k + 1) X.A) (hg : Gl X x) (hm : X.mg x = some (.ref C)) (hb : Binds X.K fd ps []) (hx : ∀ σ, PassesAt CX X σ (E σ))
    (ha : PA X (e :: es) t) (hdb : (x == ("__debug__" : Str)) = false := by decide) (he : starEach (e :: es) X.env = (false, eval e X.env) :: starEach es X.env := by rfl) (hpl : (backTo pos (starEach es X.env)).any (·.1) = false := by rfl) :
    PE X (.Call (.Name x p) (e :: es) [] pos) (tMakeS C sp E t) := by
  refine ⟨fun pins s σ H Q I h => ?_⟩
  refine wpAny_Call_Name_kw (ld_glob I hg hm ?_ hdb)
  refine PySem.W.callWith_K (h₀ := X.base) I.ok.mod.kin M.kp (thn (ha.run pos pins s σ H _ I h) fun us s1 ⟨vs, H1, I1, r, q⟩ => ⟨I1.kIn, ?_⟩) he hpl
  exact run_makeS M F hr hb (hx σ) I1 r q
end
/-- a static method that may raise -/
def tSmtS (C : Addr) (sp : Sp) (E : L2.St → XK) (ta : TE) (t : TA) : TE := fun σ H Q => ta σ H fun x H1 => x = .ref C ∧ t σ H1 fun vs H2 => sp vs H2 Q (E σ)
theorem pe_smtS {X : Cx} {CX : CXT} {k : Nat} {C p g : Addr} {m : Str} {fd : FuncData} {ps : List Str} {sp : Sp} {E : L2.St → XK} {o e : Expr} {es : List Expr} {apos pos : Pos} {ta : TE} {t : TA} {pl : Sem Bool} (he : PE X o ta) (c : Smt X.K C m p g) (F : FnOk X.prog X.w X.K X.mg X.base CX k g fd ps sp) (hr : Room k X.A) (hb : Binds X.K fd ps []) (hx : ∀ σ, PassesAt CX X σ (E σ)) (ha : PA X (e :: es) t)
    (b1 : starEach (e :: es) X.env = (false, eval e X.env) :: starEach es X.env := by rfl) (b2 : (backTo pos (starEach es X.env)).any (·.1) = false := by rfl)
    (b3 : eval (.Call (.Attribute o m apos) (e :: es) [] pos) X.env = (eval o X.env >>= fun ov => standAt apos.atName >>= fun _ => holding [ov] (getMethod ov m pl) >>= fun fp => callWith pos fp.1 fp.2 (backTo pos (starEach (e :: es) X.env)) (backToKw pos (keywordEach [] X.env))) := by rfl) :
    PE X (.Call (.Attribute o m apos) (e :: es) [] pos) (tSmtS C sp E ta t) := by
  refine ⟨fun pins s σ H Q I h => PySem.W.methodCall_KW (pl := pl) (thn (he.run pins s σ H _ I h) ?_) b3⟩
  rintro u s1 ⟨x, H1, I1, rx, rfl, q⟩
  cases (show u = Value.ref C from rx)
  obtain ⟨rest, rc⟩ := c.rc
  refine PySem.W.method_cls I1.kIn c.ga (PySem.W.cls_bind I1.kIn c.rd c.at_ (wpAny_call (PySem.W.sm_get (s := { s1 with toks := s1.toks + 1 }) I1.kIn rc (PySem.W.handed_on rfl ?_))))
  refine PySem.W.callWith_K (h₀ := X.base) I1.ok.mod.kin c.kp (thn (ha.run pos pins _ σ H1 _ (I1.tok _) q) ?_) b1 b2
  rintro us s2 ⟨vs, H2, I2, r, q2⟩
  exact ⟨I2.kIn, run_fnS F hr hb (hx σ) I2 r q2⟩
/-! ### the doors that a house may have -/
def GoodD (r : Int) (D : List Pr) : Prop := D.Nodup ∧ ∀ d ∈ D, 0 ≤ d.1 ∧ d.1 < d.2 ∧ d.2 < r
def BadK (r : Int) (D : List Pr) (k : Nat) : Prop := k < D.length ∧ GoodD r (D.take k) ∧ ¬ GoodD r (D.take (k + 1))
theorem good_dec (r : Int) (D : List Pr) : GoodD r D ∨ ∃ k, BadK r D k := by
  by_cases h : GoodD r D
  · exact .inl h
  · have : ∀ n, n ≤ D.length → GoodD r (D.take n) ∨ ∃ k, BadK r D k := by
      intro n
      induction n with
      | zero => intro _; exact .inl ⟨by rw [List.take_zero]; exact List.nodup_nil, fun d hd => by rw [List.take_zero] at hd; cases hd⟩
      | succ n ih =>
        intro hn
        rcases ih (by omega) with g | g
        · by_cases g2 : GoodD r (D.take (n + 1))
          · exact .inl g2
          · exact .inr ⟨n, by omega, g, g2⟩
        · exact .inr g
    rcases this D.length (Nat.le_refl _) with g | g
    · rw [List.take_length] at g
      exact absurd g h
    · exact .inr g
theorem good_take {r : Int} {D : List Pr} {n : Nat} (g : GoodD r D) : GoodD r (D.take n) := ⟨List.Nodup.sublist (List.take_sublist _ _) g.1, fun d hd => g.2 d (List.mem_of_mem_take hd)⟩
theorem bad_not {r : Int} {D : List Pr} {k : Nat} (b : BadK r D k) : ¬ GoodD r D := fun g => b.2.2 (good_take g)
theorem good_snoc {r : Int} {D : List Pr} {i : Nat} {d : Pr} (g : D[i]? = some d) (h : GoodD r (D.take i)) : GoodD r (D.take (i + 1)) ↔ (0 ≤ d.1 ∧ d.1 < d.2 ∧ d.2 < r) ∧ d ∉ D.take i := by
  rw [List.take_add_one, g]
  show GoodD r (D.take i ++ [d]) ↔ _
  constructor
  · rintro ⟨n, a⟩
    refine ⟨a d (List.mem_append.mpr (.inr List.mem_cons_self)), fun m => ?_⟩
    exact (List.nodup_append.mp n).2.2 d m d List.mem_cons_self rfl
  · rintro ⟨a, n⟩
    refine ⟨List.nodup_append.mpr ⟨h.1, by simp, fun x hx y hy e => ?_⟩, fun x hx => ?_⟩
    · rw [List.mem_singleton.mp hy] at e
      rw [e] at hx
      exact n hx
    · rcases List.mem_append.mp hx with m | m
      · exact h.2 x m
      · rw [List.mem_singleton.mp m]
        exact a
section
variable {P : Program} {w : World} {K : PySem.W.Frag} {mg : Str → Option Value} {base : Heap}
theorem scBinit : FnScope ["self", "place"] ["self", "place"] (defScope sBinit) := ⟨rfl, rfl, rfl, by decide +kernel, rfl, by decide +kernel, by decide +kernel⟩
def spBinit (CT : Addr) : Sp := fun vs H Q _ => ∃ (a : Addr) (n : Int), vs = [.ref a, .int n] ∧ H a = some (exo a CT none) ∧ ∀ dx, H dx = none → dx ≠ a → Q .non (upd (upd H dx (exd dx [("place", .int n)])) a (exo a CT (some dx)))
theorem ok_binit {f CT : Addr} {fd : FuncData} (F : Fun K "__init__" "BadHouse.__init__" sBinit f fd) (oex : OexC K CT) (noF : PySem.W.findIn K (.ref CT) "place" = some none) : FnOk P w K mg base CX0 1 f fd ["self", "place"] (spBinit CT) := by
  refine F.ok scBinit (fun vs H Q E h => ?_) (fun cdv A outer s H vs Q E hr h => ?_)
  · obtain ⟨a, n, rfl, _⟩ := h
    rfl
  · obtain ⟨a, n, rfl, ha, q⟩ := h
    refine ⟨_, (pss_one (ps_ost (pv 0) (pv 1))), ?_⟩
    walk_at "rd"
    exact ⟨_, rfl, _, rfl, a, CT, rfl, oex, noF, .inl ⟨ha, fun dx ndx ne => q dx ndx ne⟩⟩
/-- a BadHouse with this place goes out -/
def BadOut (E : XK) (H : Hp) (CB : Addr) (k : Int) : Prop := ∀ (d : Addr) (H' : Hp), Same H H' → H' d = some (.xd [("place", .int k)]) → E (.ref CB) (some d) H'
theorem out_bad {E : XK} {H : Hp} {CB : Addr} {k : Int} {ta : TA} {σ : L2.St} (ht : ∀ Q : List V → Hp → Prop, Q [.int k] H → ta σ H Q) (h : BadOut E H CB k) : tMkO CB (spBinit CB) [] ta σ H E := by
  refine ht _ ⟨by show 1 ≤ 1000; decide, fun a na => ⟨a, k, rfl, upd_same, fun d nd ne => ⟨rfl, d, [("place", .int k)], upd_same, by rw [upd_ne ne]; exact upd_same, by rw [upd_ne ne] at nd; exact nd, ?_⟩⟩⟩
  have nd0 : H d = none := by rw [upd_ne ne] at nd; exact nd
  refine h d _ (fun b o hb => ?_) upd_same
  have bd : b ≠ d := ne_of_none hb nd0
  have ba : b ≠ a := ne_of_none hb na
  rw [upd_ne bd, del_ne ba, upd_ne ba, upd_ne bd, upd_ne ba]
  exact hb
theorem BadOut.from {E : XK} {H H' : Hp} {CB : Addr} {k : Int} (h : BadOut E H CB k) (s : Same H H') : BadOut E H' CB k := fun d H2 s2 e => h d H2 (s.trans s2) e
def spRoomX (CB : Addr) : Sp := fun vs H Q E => ∃ r : Int, vs = [.int r] ∧ (1 ≤ r ∧ r ≤ 12 → Q .non H) ∧ (¬ (1 ≤ r ∧ r ≤ 12) → BadOut E H CB (-1))
theorem ok_roomX {f C CB fI : Addr} {fd fdI : FuncData} (F : Fun K "check_room_count" "check_room_count" sRoom f fd) (T : Hs K mg C) (e : Err K mg "BadHouse" "place" CB fI) (bI : Binds K fdI ["self", "place"] []) (GI : FnOk P w K mg base CX0 1 fI fdI ["self", "place"] (spBinit CB)) : FnOk P w K mg base (L2.CX P w) 3 f fd ["rooms"] (spRoomX CB) := by
  refine F.okX scRoom (fun vs H Q E h => ?_) (fun cdv A outer s H vs Q E hr h => ?_)
  · obtain ⟨r, rfl, _⟩ := h
    rfl
  · obtain ⟨r, rfl, hgood, hbad⟩ := h
    refine ⟨_, (pss_one (ps_if (pt_not (pt_chain op_le op_le pe_int (pv 0) (ClX.pe_cval (pe_glob (v := .ref C) (by rfl) T.mgC rfl))))
      (pss_one (ps_raise rfl (takes_of rfl rfl rfl rfl) (pmk_oex e.oex e.iC e.tI GI (hr.mono (by decide)) bI .nil pass0 (by rfl) e.gC (pa_cons (pe_un un_neg pe_int) pa_nil))))
      pss_nil)), ?_⟩
    obtain ⟨mc, u, c1, c2⟩ := T.rd
    walk_at "rd"
    have bad : ¬ (1 ≤ r ∧ r ≤ 12) → tMkO CB (spBinit CB) [] (tCons (tUn (rU fun i => V.int (-i)) (tC (V.int 1))) tNil) [some (V.int r)] H fun cls d H' => E cls d H' := fun n12 => out_bad (fun Q q => by walk_at "rd"; exact q) (hbad n12)
    by_cases h1 : 1 ≤ r
    · rw [if_pos h1]
      refine ⟨C, mc, .int 12, u, rfl, c1, c2, 12, rfl, ?_⟩
      by_cases h2 : r ≤ 12
      · rw [decide_eq_true h2]
        exact iteF (hgood ⟨h1, h2⟩)
      · rw [decide_eq_false h2]
        exact iteT (bad fun z => h2 z.2)
    · rw [if_neg h1]
      exact iteT (bad fun z => h1 z.1)
def spChkX (CB : Addr) : Sp := fun vs H Q E => ∃ (r : Nat) (l : Addr) (us : List V) (D : List Pr), vs = [.int r, .ref l] ∧ H l = some (.lst us) ∧ PL H us D ∧ (∀ d ∈ D, d.1 ≤ d.2) ∧ D.length ≤ 200 ∧ r ≤ 12 ∧ (∀ k, BadK r D k → BadOut E H CB k) ∧
  (GoodD r D → ∀ D' ws p H', Asc D' → (∀ d, d ∈ D' ↔ d ∈ D) → Same H H' → H p = none → H' p = some (.lst ws) → PL H' ws D' → Q (.ref p) H')
theorem ok_chkX {f CB fI : Addr} {fd fdI : FuncData} (F : Fun K "checked_doors" "checked_doors" sChk f fd) (T : Bi mg) (e : Err K mg "BadHouse" "place" CB fI) (bI : Binds K fdI ["self", "place"] []) (GI : FnOk P w K mg base CX0 1 fI fdI ["self", "place"] (spBinit CB)) : FnOk P w K mg base (L2.CX P w) 3 f fd ["rooms", "doors"] (spChkX CB) := by
  refine F.okX scChk (fun vs H Q E h => ?_) (fun cdv A outer s H vs Q E hr h => ?_)
  · obtain ⟨r, l, us, D, rfl, _⟩ := h
    rfl
  · obtain ⟨r, l, us, D, rfl, hl, pl, le12, dlen, hr12, hbad, q⟩ := h
    refine ⟨_, (pss_cons (ps_set (i := 2) scChk.nd rfl (Or.inl rfl) (pe_callTy0 cr_ps0 (by rfl) T.set (by decide +kernel)))
      (pss_cons (ps_for (passes_of rfl) rfl (pi_enum (by rfl) T.enumerate (pa_cons (pv 1) pa_nil)) (pg_tup rfl (pgs_cons (pg_name (i := 3) scChk.nd rfl (Or.inl rfl)) (pgs_cons (pg_tup rfl (pgs_cons (pg_name (i := 4) scChk.nd rfl (Or.inl rfl)) (pgs_cons (pg_name (i := 5) scChk.nd rfl (Or.inl rfl)) pgs_nil))) pgs_nil)))
      (pss_cons (ps_if (PW.pt (pw_or (pt_not (PW.pt (pw_and (pt_chain op_le op_lt pe_int (pv 4) (pv 0)) (pw_and1 (pt_chain op_le op_lt pe_int (pv 5) (pv 0)))))) (pw_or (pt_cmpR op_eqI (pv 4) (pv 5) (nomark _)) (pw_or1 (pt_cmpR (op_psIn hr.units) (pe_tup (pa_cons (pv 4) (pa_cons (pv 5) pa_nil))) (pv 2) (by rfl))))))
        (pss_one (ps_raise rfl (takes_of rfl rfl rfl rfl) (pmk_oex e.oex e.iC e.tI GI (hr.mono (by decide)) bI .nil pass0 (by rfl) e.gC (pa_cons (pv 3) pa_nil))))
        pss_nil)
        (pss_one (ps_expr (pe_psAdd hr.units (pv 2) (pa_cons (pe_tup (pa_cons (pv 4) (pa_cons (pv 5) pa_nil))) pa_nil))))))
      (pss_one (ps_ret (pe_callB (cr_psSort rfl) (by rfl) T.sorted (by decide +kernel) (pa_cons (pv 2) pa_nil)))))), ?_⟩
    walk_at "rd"
    refine ⟨rfl, fun p np => ?_⟩
    obtain ⟨Pv, hPv⟩ : ∃ Pv : Nat → L2.St → Hp → Prop, Pv = (fun i σ H' => ∃ (L : List (Addr × List Int)) (v3 v4 v5 : Option V), σ = [some (.int r), some (.ref l), some (.ref p), v3, v4, v5] ∧ Same H H' ∧ H' p = some (PsO P w p L) ∧ (∀ q ∈ L, H' q.1 = some (.tup (q.2.map V.int))) ∧ List.Perm (L.map (·.2)) ((D.take i).map two) ∧ GoodD r (D.take i)) := ⟨_, rfl⟩
    have hul : us.length = D.length := pl.len
    refine ⟨_, rfl, l, us, rfl, SqL.of (same_upd np l _ hl), for_enum (xs := us) Pv (by rw [hPv]; exact ⟨[], none, none, none, rfl, same_upd np, upd_same, fun q hq => (by cases hq), List.Perm.refl _, List.nodup_nil, fun d hd => (by cases hd)⟩) (fun i σ H' pv => ?_) ?_ ?_⟩
    · rw [hPv] at pv
      obtain ⟨L, v3, v4, v5, _, sm, _⟩ := pv
      exact SqL.of (sm l _ hl)
    · rintro i v t σ H' gv pv nt
      have nxt : ∀ (L : List (Addr × List Int)) (v3 v4 v5 : Option V) (H' : Hp), Same H H' → H' p = some (PsO P w p L) → (∀ q ∈ L, H' q.1 = some (.tup (q.2.map V.int))) → List.Perm (L.map (·.2)) ((D.take (i + 1)).map two) → GoodD r (D.take (i + 1)) → Pv (i + 1) [some (.int r), some (.ref l), some (.ref p), v3, v4, v5] H' := fun L v3 v4 v5 H' h1 h2 h3 h4 h5 => by
        rw [hPv]
        exact ⟨L, v3, v4, v5, rfl, h1, h2, h3, h4, h5⟩
      rw [hPv] at pv
      obtain ⟨L, v3, v4, v5, rfl, sm, hp, tp, pm, gd0⟩ := pv
      obtain ⟨d, gd, td, rfl, htd⟩ := pl.get gv
      have hid : i < D.length := (List.getElem?_eq_some_iff.mp gd).1
      have md : d ∈ D := List.mem_of_getElem? gd
      have lle := le12 d md
      have gs := good_snoc gd gd0
      have hl1 := sm l _ hl
      have htd1 := sm td _ htd
      have ntd : td ≠ t := ne_of_none htd1 nt
      have htd2 : upd H' t (HO.tup [V.int i, V.ref td]) td = some (.tup [.int d.1, .int d.2]) := by rw [upd_ne ntd]; exact htd1
      walk_at "rd"
      refine ⟨[.int i, .ref td], SqT.of upd_same, rfl, .int i, [.ref td], rfl, .ref td, [], rfl, td, rfl, [.int d.1, .int d.2], SqT.of htd2, rfl, .int d.1, [.int d.2], rfl, .int d.2, [], rfl, rfl, rfl, d.1, rfl, ?_⟩
      have s0 : Same H' (upd H' t (HO.tup [V.int i, V.ref td])) := same_upd nt
      have outX : ∀ {Hx : Hp} {v4 v5 : Option V}, Same H' Hx → ¬ ((0 ≤ d.1 ∧ d.1 < d.2 ∧ d.2 < r) ∧ d ∉ D.take i) → tMkO CB (spBinit CB) [] (tCons (tVar 3) tNil) [some (.int r), some (.ref l), some (.ref p), some (.int i), v4, v5] Hx E := fun {Hx v4 v5} sx ng => by
        refine out_bad (fun Q q => by walk_at "rd"; exact q) ?_
        exact BadOut.from (hbad i ⟨hid, gd0, fun z => ng (gs.mp z)⟩) (sm.trans sx)
      by_cases c1 : 0 ≤ d.1
      rotate_left
      · rw [if_neg c1]
        rw [if_pos (show (!false) = true from rfl), if_pos trivial]
        exact (outX s0 fun z => c1 z.1.1)
      rw [if_pos c1]
      refine ⟨d.1, rfl, ?_⟩
      by_cases c2 : d.1 < (r : Int)
      rotate_left
      · rw [if_neg c2]
        rw [if_pos (show (!false) = true from rfl), if_pos trivial]
        exact (outX s0 fun z => c2 (by omega))
      rw [if_pos c2]
      refine ⟨d.2, rfl, ?_⟩
      rw [if_pos (show 0 ≤ d.2 by omega)]
      refine ⟨d.2, rfl, ?_⟩
      by_cases c4 : d.2 < (r : Int)
      rotate_left
      · rw [decide_eq_false c4]
        rw [if_pos (show (!false) = true from rfl), if_pos trivial]
        exact (outX s0 fun z => c4 z.1.2.2)
      rw [decide_eq_true c4]
      refine iteF ?_
      refine ⟨d.1, rfl, d.2, rfl, ?_⟩
      by_cases c5 : d.1 = d.2
      · rw [if_pos c5, if_pos trivial]
        exact (outX s0 fun z => by omega)
      rw [if_neg c5]
      refine ⟨by decide, fun t1 nt1 => ?_⟩
      have ne1 : t1 ≠ p := fun e => by
        rw [e, upd_ne (show p ≠ t from ne_of_none hp nt), hp] at nt1
        cases nt1
      have s1 : Same H' (upd (upd H' t (HO.tup [V.int i, V.ref td])) t1 (HO.tup [V.int d.1, V.int d.2])) := (same_upd nt).trans (same_upd nt1)
      have lenL : L.length ≤ 66 := by
        have e := pm.length_eq
        rw [List.length_map, List.length_map] at e
        rw [e]
        exact drs_len' hr12 gd0.1 gd0.2
      refine ⟨t1, two d, p, L, rfl, rfl, s1 p _ hp, fun q hq => SqT.of (s1 _ _ (tp q hq)), SqT.of upd_same, ?_⟩
      by_cases cin : two d ∈ L.map (·.2)
      · rw [decide_eq_true cin]
        refine ⟨true, rfl, iteT (outX s1 fun z => z.2 ?_)⟩
        obtain ⟨e, he, ee⟩ := List.mem_map.mp (pm.mem_iff.mp cin)
        rw [two_inj ee] at he
        exact he
      have out := cin
      have nin : d ∉ D.take i := fun z => cin (pm.mem_iff.mpr (List.mem_map.mpr ⟨d, z, rfl⟩))
      have gd1 := gs.mpr ⟨⟨c1, by omega, c4⟩, nin⟩
      rw [decide_eq_false cin]
      refine ⟨false, rfl, iteF ?_⟩
      generalize upd (upd H' t (HO.tup [V.int i, V.ref td])) t1 (HO.tup [V.int d.1, V.int d.2]) = H1 at s1
      have hp1 := s1 p _ hp
      refine ⟨_, rfl, ⟨p, L, rfl, hp1⟩, _, rfl, _, rfl, (by show 2 ≤ sizeLine; decide), fun t2 nt2 => ?_⟩
      have s2 : Same H1 (upd H1 t2 (HO.tup [V.int d.1, V.int d.2])) := same_upd nt2
      have hp2 := s2 p _ hp1
      refine ⟨t2, two d, p, L, rfl, rfl, hp2, fun q hq => SqT.of (s2 _ _ (s1 _ _ (tp q hq))), SqT.of upd_same, by omega, fun L' _ c2 => ?_⟩
      have pm2 := c2 out
      have keep : ∀ b xs, upd H1 t2 (HO.tup [V.int d.1, V.int d.2]) b = some (.tup xs) → upd (upd H1 t2 (HO.tup [V.int d.1, V.int d.2])) p (PsO P w p L') b = some (.tup xs) := fun b xs e => by
        rw [upd_ne]
        · exact e
        · rintro rfl
          rw [hp2] at e
          exact psO_ne (Option.some.inj e)
      refine nxt L' _ _ _ _ (same_ch ((sm.trans s1).trans s2) np) upd_same (fun q hq => ?_) ?_ gd1
      · refine keep _ _ ?_
        rcases List.mem_cons.mp (pm2.mem_iff.mp hq) with e | hq2
        · rw [e]
          exact upd_same
        · exact s2 _ _ (s1 _ _ (tp q hq2))
      · refine (pm2.map (·.2)).trans ?_
        rw [List.map_cons, List.take_add_one, gd, List.map_append]
        exact (List.Perm.cons _ pm).trans (List.perm_append_singleton _ _).symm
    · intro σ H' pv
      rw [hPv] at pv
      obtain ⟨L, v3, v4, v5, rfl, sm, hp, tp, pm, gd0⟩ := pv
      rw [hul, List.take_length] at pm gd0
      have shape : ∀ q ∈ L, ∃ d ∈ D, q.2 = two d := fun q hq => by
        obtain ⟨d, hd, e⟩ := List.mem_map.mp (pm.mem_iff.mp (List.mem_map.mpr ⟨q, hq, rfl⟩))
        exact ⟨d, hd, e.symm⟩
      have lenL : L.length = D.length := by
        have e := pm.length_eq
        rw [List.length_map, List.length_map] at e
        exact e
      walk_at "rd"
      refine ⟨p, L, rfl, hp, fun q hq => SqT.of (tp q hq), fun q hq => ?_, by omega, fun L' t p1 n1 w1 nt => ?_⟩
      · obtain ⟨d, _, e⟩ := shape q hq
        exact ⟨d.1, d.2, e⟩
      · have hl' : ∀ q ∈ L', pr2 q.2 ∈ D ∧ H' q.1 = some (.tup [.int (pr2 q.2).1, .int (pr2 q.2).2]) := fun q hq => by
          have hq2 := p1.mem_iff.mp hq
          obtain ⟨d, hd, e⟩ := shape q hq2
          have e2 := tp q hq2
          rw [e] at e2 ⊢
          exact ⟨hd, e2⟩
        have back : ∀ q ∈ L', two (pr2 q.2) = q.2 := fun q hq => by
          obtain ⟨d, hd, e⟩ := shape q (p1.mem_iff.mp hq)
          rw [e]
          rfl
        refine q gd0 (L'.map fun q => pr2 q.2) (L'.map fun q => V.ref q.1) t _ (asc_of ?_ ?_) (fun d => ?_) (sm.trans (same_upd nt)) (sm.free nt) upd_same ?_
        · refine List.pairwise_map.mpr (List.Pairwise.imp_of_mem (fun {x y} hx hy hne e => hne ?_) (List.pairwise_map.mp n1))
          rw [← back x hx, ← back y hy, e]
        · exact List.pairwise_map.mpr w1
        · constructor
          · intro hd
            obtain ⟨q, hq, rfl⟩ := List.mem_map.mp hd
            exact (hl' q hq).1
          · intro hd
            have m1 : two d ∈ L.map (·.2) := pm.mem_iff.mpr (List.mem_map.mpr ⟨d, hd, rfl⟩)
            obtain ⟨q, hq, e⟩ := List.mem_map.mp m1
            refine List.mem_map.mpr ⟨q, p1.mem_iff.mpr hq, ?_⟩
            rw [e]
            rfl
        · have all : ∀ M : List (Addr × List Int), (∀ q ∈ M, H' q.1 = some (.tup [.int (pr2 q.2).1, .int (pr2 q.2).2])) → PL H' (M.map fun q => V.ref q.1) (M.map fun q => pr2 q.2) := by
            intro M
            induction M with
            | nil => intro _; exact Paired.nil
            | cons q M ih => intro h; exact Paired.cons ⟨q.1, rfl, h q List.mem_cons_self⟩ (ih fun z hz => h z (List.mem_cons_of_mem _ hz))
          exact (all L' fun q hq => (hl' q hq).2).kt (KT.new nt)
end

section
variable {P : Program} {w : World} {K : PySem.W.Frag} {mg : Str → Option Value} {base : Heap}
theorem le_mm2 {D : List Pr} : ∀ d ∈ D.map mm2, d.1 ≤ d.2 := fun d hd => by
  obtain ⟨e, _, rfl⟩ := List.mem_map.mp hd
  unfold mm2
  by_cases c : e.2 < e.1
  · rw [if_pos c, if_neg (show ¬ e.2 > e.1 by omega)]
    exact Int.le_of_lt c
  · rw [if_neg c]
    by_cases c2 : e.2 > e.1
    · rw [if_pos c2]
      exact Int.le_of_lt c2
    · rw [if_neg c2]
      exact Int.le_refl _
/-- a BadHouse goes out, what stood stands, but for the new object p -/
def BadOutP (E : XK) (H : Hp) (p CB : Addr) (k : Int) : Prop := ∀ (d : Addr) (H' : Hp), (∀ b o, H b = some o → b ≠ p → H' b = some o) → H' d = some (.xd [("place", .int k)]) → E (.ref CB) (some d) H'
def spHinitX (C CB : Addr) : Sp := fun vs H Q EX => ∃ (p dx l : Addr) (r : Int) (us : List V) (D E : List Pr), vs = [.ref p, .int r, .ref l] ∧ H p = some (.ins C dx []) ∧ H l = some (.lst us) ∧ PL H us D ∧ D.map mm2 = E ∧ D.length ≤ 200 ∧ (¬ (1 ≤ r ∧ r ≤ 12) → BadOutP EX H p CB (-1)) ∧
  ∀ r' : Nat, r = r' → 1 ≤ r' → r' ≤ 12 → (∀ k, BadK r E k → BadOutP EX H p CB k) ∧ (GoodD r E → ∀ D' own H', (∀ d, d ∈ D' ↔ d ∈ E) → HouseAt C H' p r' D' own → (∀ b o, H b = some o → b ≠ p → H' b = some o) → (∀ b ∈ own, b ≠ p → H b = none) → Q .non H')
theorem ok_hinitX {f C CB fR fC : Addr} {fd fdR fdC : FuncData} (F : Fun K "__init__" "House.__init__" sHinit f fd) (T : Bi mg) (U : Hs K mg C) (GR : FnOk P w K mg base (L2.CX P w) 3 fR fdR ["rooms"] (spRoomX CB)) (atR : mg "check_room_count" = some (.ref fR)) (kR : PySem.W.keepIn K (.ref fR) = true) (bR : Binds K fdR ["rooms"] []) (GC : FnOk P w K mg base (L2.CX P w) 3 fC fdC ["rooms", "doors"] (spChkX CB)) (atC : mg "checked_doors" = some (.ref fC)) (kC : PySem.W.keepIn K (.ref fC) = true) (bC : Binds K fdC ["rooms", "doors"] []) : FnOk P w K mg base (L2.CX P w) 5 f fd ["self", "rooms", "doors"] (spHinitX C CB) := by
  refine F.okX scHinit (fun vs H Q E h => ?_) (fun cdv A outer s H vs Q E hr h => ?_)
  · obtain ⟨p, dx, l, r, us, D, E, rfl, _⟩ := h
    rfl
  · obtain ⟨p, dx, l, r, us, D, E, rfl, hp, hl, pl, eE, dlen, hbR, hq0⟩ := h
    have hrR : Room 3 _ := hr.mono (by decide)
    refine ⟨_, (pss_cons (ps_expr (pe_callS GR hrR (by rfl) atR kR bR (fun σ => passAt (takes_of rfl rfl rfl rfl) σ) (pa_cons (pv 1) pa_nil)))
      (pss_cons (ps_fld (pv 0) (pv 1) rfl)
      (pss_cons (ps_fld (pv 0) (pe_callS GC hrR (by rfl) atC kC bC (fun σ => passAt (takes_of rfl rfl rfl rfl) σ) (pa_cons (pv 1) (pa_cons (pe_lc (own := [("a", 3), ("b", 4)]) (g := gTup K 2 (gCons (gName 3) (gCons (gName 4) gNil))) (by rfl) scHinit.nd (pi_list (pv 2)) (blkOk_by (N := ["self", "rooms", "doors", "a", "b", "_"]) (sc := defScope sHinit) (by decide +kernel)) (fun _ _ _ _ _ => pg_tup rfl (pgs_cons (pg_name (i := 3) scHinit.nd rfl (Or.inl rfl)) (pgs_cons (pg_name (i := 4) scHinit.nd rfl (Or.inl rfl)) pgs_nil))) (fun _ _ _ _ _ => pts_nil) (fun _ _ _ _ _ => (pe_tup (pa_cons (pe_callB (call_min2 rfl) (by rfl) T.min (by decide +kernel) (pa_cons (pv 3) (pa_cons (pv 4) pa_nil))) (pa_cons (pe_callB (call_max2 rfl) (by rfl) T.max (by decide +kernel) (pa_cons (pv 3) (pa_cons (pv 4) pa_nil))) pa_nil))))) pa_nil))) rfl)
      (pss_cons (ps_fld (pv 0) (pe_lc (own := [("_", 5)]) (by rfl) scHinit.nd (pi_range1 (by rfl) T.range (pa_cons (pv 1) pa_nil)) (blkOk_by (N := ["self", "rooms", "doors", "a", "b", "_"]) (sc := defScope sHinit) (by decide +kernel)) (fun _ _ _ _ _ => pg_name (i := 5) scHinit.nd rfl (Or.inl rfl)) (fun _ _ _ _ _ => pts_nil) (fun _ _ _ _ _ => (pe_lst pa_nil))) rfl)
      (pss_one (ps_for (passes_of rfl) rfl (pi_list (pe_fld (pv 0) rfl)) (pg_tup rfl (pgs_cons (pg_name (i := 3) scHinit.nd rfl (Or.inl rfl)) (pgs_cons (pg_name (i := 4) scHinit.nd rfl (Or.inl rfl)) pgs_nil)))
      (pss_cons (ps_expr (pe_bm PySem.F.plainAttrs_list PySem.F.slot_list_append PySem.F.type_list_append mt_append (pe_ix ix_list (pe_fld (pv 0) rfl) (pv 3) (fun _ _ => rfl)) (pa_cons (pv 4) pa_nil)))
        (pss_one (ps_expr (pe_bm PySem.F.plainAttrs_list PySem.F.slot_list_append PySem.F.type_list_append mt_append (pe_ix ix_list (pe_fld (pv 0) rfl) (pv 4) (fun _ _ => rfl)) (pa_cons (pv 3) pa_nil))))))))))), ?_⟩
    walk_at "rd"
    simp only [tCallS]
    walk_at "rd"
    refine ⟨r, rfl, fun h12 => ?_, fun n12 d H' s1 h1 => hbR n12 d H' (fun b o e _ => s1 b o e) h1⟩
    obtain ⟨r, rfl⟩ : ∃ n : Nat, r = n := ⟨r.toNat, by omega⟩
    have hr1 : 1 ≤ r := by omega
    have hr12 : r ≤ 12 := by omega
    obtain ⟨hbK, q⟩ := hq0 r rfl hr1 hr12
    have npl : l ≠ p := ne_of hl hp (by intro z; cases z)
    refine ⟨C, dx, [], hp, U.cl, U.nR, (by show 0 < 1000; decide), ?_⟩
    have hl1 : upd H p (HO.ins C dx (putF "rooms" (V.int r) [])) l = some (.lst us) := by rw [upd_ne npl]; exact hl
    have pl1 : PL (upd H p (HO.ins C dx (putF "rooms" (V.int r) []))) us D := pl.kt (KT.ch hp (fun _ z => by cases z))
    have hp1 : upd H p (HO.ins C dx (putF "rooms" (V.int r) [])) p = some (HO.ins C dx (putF "rooms" (V.int r) [])) := upd_same
    have old1 : ∀ b o, H b = some o → b ≠ p → upd H p (HO.ins C dx (putF "rooms" (V.int r) [])) b = some o := fun b o e h => by rw [upd_ne h]; exact e
    have free1 : ∀ b, upd H p (HO.ins C dx (putF "rooms" (V.int r) [])) b = none → H b = none ∧ b ≠ p := fun b e => by
      have h : b ≠ p := fun z => by
        rw [z, upd_same] at e
        cases e
      rw [upd_ne h] at e
      exact ⟨e, h⟩
    generalize upd H p (HO.ins C dx (putF "rooms" (V.int r) [])) = H1 at hl1 pl1 hp1 old1 free1
    have ul : us.length = D.length := pl.len
    -- [(min(a, b), max(a, b)) for a, b in doors]
    refine ⟨_, rfl, l, rfl, ⟨_, SqL.of hl1⟩, fun c nc => ?_⟩
    obtain ⟨Pv, hPv⟩ : ∃ Pv : Nat → Hp → Prop, Pv = (fun i H' => ∃ ws, Same H1 H' ∧ H' c = some (.lst ws) ∧ PL H' ws ((D.take i).map mm2)) := ⟨_, rfl⟩
    refine lc_list (K := K) (a := l) (xs := us) Pv (by rw [hPv]; exact ⟨[], same_upd nc, upd_same, PL.nil0 _⟩) (fun i H' _ pv => by rw [hPv] at pv; obtain ⟨_, sm, _⟩ := pv; exact SqL.of (sm _ _ hl1)) (fun i v H' gv pv => ?_) (fun H' pv => ?_)
    · have nxt : ∀ ws H', Same H1 H' → H' c = some (.lst ws) → PL H' ws ((D.take (i + 1)).map mm2) → Pv (i + 1) H' := fun ws H' h1 h2 h3 => by
        rw [hPv]
        exact ⟨ws, h1, h2, h3⟩
      rw [hPv] at pv
      obtain ⟨ws, sm, hc, pw⟩ := pv
      obtain ⟨d, gd, td, rfl, htd⟩ := pl1.get gv
      have hid : i < D.length := (List.getElem?_eq_some_iff.mp gd).1
      have htd1 := sm _ _ htd
      have lw : ws.length ≤ 200 := by
        rw [pw.len, List.length_map, List.length_take]
        omega
      simp only [wipe]
      walk_at "rd"
      refine ⟨_, SqT.of htd1, rfl, _, _, rfl, _, _, rfl, rfl, ?_⟩
      walk_at "rd"
      refine ⟨(by show 2 ≤ sizeLine; decide), fun t nt => ?_⟩
      have nct : c ≠ t := ne_of_none hc nt
      refine ⟨ws, by rw [upd_ne nct]; exact hc, len_big (by omega), nxt (ws ++ [.ref t]) _ (same_ch (sm.trans (same_upd nt)) nc) upd_same ?_⟩
      rw [List.take_add_one, gd, List.map_append]
      refine PL.snoc ((pw.kt (KT.new nt)).kt (KT.lst (by rw [upd_ne nct]; exact hc))) ⟨t, rfl, ?_⟩
      rw [upd_ne nct.symm, upd_same]
      rfl
    · rw [hPv] at pv
      obtain ⟨ws, s2, hc, pw⟩ := pv
      rw [ul, List.take_length, eE] at pw
      -- checked_doors
      refine ⟨r, c, ws, E, rfl, hc, pw, (by rw [← eE]; exact le_mm2), (by rw [← eE, List.length_map]; exact dlen), hr12, fun k bk d H' s1 h1 => hbK k bk d H' (fun b o e n => s1 _ _ (s2 _ _ (old1 b o e n))) h1, fun good D' ls q0 H2 asc mem s3 nq hq pq => ?_⟩
      have ok := good.2
      have q := q good
      have s13 : Same H1 H2 := s2.trans s3
      have hp2 := s13 _ _ hp1
      have nqp : q0 ≠ p := ne_of hq hp2 (by intro z; cases z)
      refine ⟨C, dx, _, hp2, U.cl, U.nD, (by show 1 < 1000; decide), ?_⟩
      have hq3 : upd H2 p (HO.ins C dx (putF "_doors" (V.ref q0) (putF "rooms" (V.int r) []))) q0 = some (.lst ls) := by rw [upd_ne nqp]; exact hq
      have hp3 : upd H2 p (HO.ins C dx (putF "_doors" (V.ref q0) (putF "rooms" (V.int r) []))) p = some (HO.ins C dx (putF "_doors" (V.ref q0) (putF "rooms" (V.int r) []))) := upd_same
      have pq3 : PL (upd H2 p (HO.ins C dx (putF "_doors" (V.ref q0) (putF "rooms" (V.int r) [])))) ls D' := pq.kt (KT.ch hp2 (fun _ z => by cases z))
      have old3 : ∀ b o, H b = some o → b ≠ p → upd H2 p (HO.ins C dx (putF "_doors" (V.ref q0) (putF "rooms" (V.int r) []))) b = some o := fun b o e h => by
        rw [upd_ne h]
        exact s13 _ _ (old1 b o e h)
      have free3 : ∀ b, upd H2 p (HO.ins C dx (putF "_doors" (V.ref q0) (putF "rooms" (V.int r) []))) b = none → H b = none ∧ b ≠ p := fun b e => by
        have h : b ≠ p := fun z => by
          rw [z, upd_same] at e
          cases e
        rw [upd_ne h] at e
        exact free1 b (s13.free e)
      have fq : H q0 = none := (free1 q0 (s2.free nq)).1
      generalize upd H2 p (HO.ins C dx (putF "_doors" (V.ref q0) (putF "rooms" (V.int r) []))) = H3 at hq3 hp3 pq3 old3 free3
      -- [[] for _ in range(rooms)]
      refine ⟨_, rfl, r, rfl, by omega, by omega, fun m nm => ?_⟩
      obtain ⟨Pv, hPv⟩ : ∃ Pv : Nat → Hp → Prop, Pv = (fun i H' => ∃ ns : List Addr, Same H3 H' ∧ H' m = some (.lst (ns.map V.ref)) ∧ ns.length = i ∧ ns.Nodup ∧ (∀ n ∈ ns, H' n = some (.lst []) ∧ H3 n = none ∧ n ≠ m)) := ⟨_, rfl⟩
      refine lc_range (lo := 0) (n := ((r : Nat) : Int).toNat) Pv (by rw [hPv]; exact ⟨[], same_upd nm, upd_same, rfl, List.nodup_nil, fun n hn => by cases hn⟩) (fun i H' hi pv => ?_) (fun H' pv => ?_)
      · have nxt : ∀ (ns : List Addr) H', Same H3 H' → H' m = some (.lst (ns.map V.ref)) → ns.length = i + 1 → ns.Nodup → (∀ n ∈ ns, H' n = some (.lst []) ∧ H3 n = none ∧ n ≠ m) → Pv (i + 1) H' := fun ns H' h1 h2 h3 h4 h5 => by
          rw [hPv]
          exact ⟨ns, h1, h2, h3, h4, h5⟩
        rw [hPv] at pv
        obtain ⟨ns, sm, hm, ln, nn, hn⟩ := pv
        simp only [wipe]
        walk_at "rd"
        refine ⟨by decide, fun e ne => ?_⟩
        have nem : m ≠ e := ne_of_none hm ne
        refine ⟨ns.map V.ref, by rw [upd_ne nem]; exact hm, len_big (by rw [List.length_map]; omega), nxt (ns ++ [e]) _ (same_ch (sm.trans (same_upd ne)) nm) (by rw [upd_same, List.map_append]; rfl) (by rw [List.length_append, ln]; rfl) ?_ fun n hn2 => ?_⟩
        · refine List.nodup_append.mpr ⟨nn, by simp, fun a ha b hb => ?_⟩
          rw [List.mem_singleton.mp hb]
          exact ne_of_none (hn a ha).1 ne
        · rcases List.mem_append.mp hn2 with h | h
          · obtain ⟨h1, h2, h3⟩ := hn n h
            refine ⟨?_, h2, h3⟩
            rw [upd_ne h3, upd_ne (ne_of_none h1 ne)]
            exact h1
          · rw [List.mem_singleton.mp h]
            refine ⟨?_, sm.free ne, nem.symm⟩
            rw [upd_ne nem.symm, upd_same]
      · rw [hPv] at pv
        obtain ⟨ns, s4, hm, ln, nn, hn⟩ := pv
        have hp4 := s4 _ _ hp3
        have nmp : m ≠ p := (ne_of_none hp3 nm).symm
        refine ⟨C, dx, _, hp4, U.cl, U.nN, (by show 2 < 1000; decide), ?_⟩
        have ehf : putF "_near" (V.ref m) (putF "_doors" (V.ref q0) (putF "rooms" (V.int r) [])) = hf r q0 m := rfl
        rw [ehf]
        have npn : ∀ n ∈ ns, n ≠ p := fun n h => (ne_of_none hp3 (hn n h).2.1).symm
        have nqn : ∀ n ∈ ns, n ≠ q0 := fun n h => (ne_of_none hq3 (hn n h).2.1).symm
        have hp5 : upd H' p (HO.ins C dx (hf r q0 m)) p = some (HO.ins C dx (hf r q0 m)) := upd_same
        have hq5 : upd H' p (HO.ins C dx (hf r q0 m)) q0 = some (.lst ls) := by rw [upd_ne nqp]; exact s4 _ _ hq3
        have hm5 : upd H' p (HO.ins C dx (hf r q0 m)) m = some (.lst (ns.map V.ref)) := by rw [upd_ne nmp]; exact hm
        have hn5 : ∀ n ∈ ns, upd H' p (HO.ins C dx (hf r q0 m)) n = some (.lst []) := fun n h => by rw [upd_ne (npn n h)]; exact (hn n h).1
        have pq5 : PL (upd H' p (HO.ins C dx (hf r q0 m))) ls D' := (pq3.kt (KT.same s4)).kt (KT.ch hp4 (fun _ z => by cases z))
        have old5 : ∀ b o, H b = some o → b ≠ p → upd H' p (HO.ins C dx (hf r q0 m)) b = some o := fun b o e h => by
          rw [upd_ne h]
          exact s4 _ _ (old3 b o e h)
        have fm : H m = none := (free3 m nm).1
        have fn : ∀ n ∈ ns, H n = none := fun n h => (free3 n (hn n h).2.1).1
        have nmn : ∀ n ∈ ns, n ≠ m := fun n h => (hn n h).2.2
        generalize upd H' p (HO.ins C dx (hf r q0 m)) = H5 at hp5 hq5 hm5 hn5 pq5 old5
        have drs : Drs r D' := ⟨asc, fun d hd => ok d ((mem d).mp hd)⟩
        have dl : D'.length ≤ 66 := drs.len hr12
        have ll : ls.length = D'.length := pq.len
        -- the rooms' neighbours
        obtain ⟨Pw, hPw⟩ : ∃ Pw : Nat → L2.St → Hp → Prop, Pw = (fun i σ H' => ∃ v3 v4 : Option V, σ = [some (.ref p), some (.int r), some (.ref l), v3, v4, none] ∧ (∀ b o, H5 b = some o → b ∉ ns → H' b = some o) ∧ (∀ (j : Nat) n, ns[j]? = some n → H' n = some (.lst ((nearF (j : Nat) (D'.take i)).map V.int)))) := ⟨_, rfl⟩
        refine ⟨_, rfl, p, C, dx, _, .ref q0, rfl, hp5, U.cl, U.nD, hf_doors _ _ _, q0, rfl, ⟨_, SqL.of hq5⟩, for_list (K := K) (a := q0) (xs := ls) Pw (by rw [hPw]; exact ⟨none, none, rfl, fun b o e _ => e, fun j n g => hn5 n (List.mem_of_getElem? g)⟩) (fun i σ H' _ pv => ?_) (fun i v σ H' gv pv => ?_) (fun σ H' pv => ?_)⟩
        · rw [hPw] at pv
          obtain ⟨_, _, _, k1, _⟩ := pv
          exact SqL.of (k1 _ _ hq5 fun z => nqn _ z rfl)
        · have nxt : ∀ v3 v4 H', (∀ b o, H5 b = some o → b ∉ ns → H' b = some o) → (∀ (j : Nat) n, ns[j]? = some n → H' n = some (.lst ((nearF (j : Nat) (D'.take (i + 1))).map V.int))) → Pw (i + 1) [some (.ref p), some (.int r), some (.ref l), v3, v4, none] H' := fun v3 v4 H' h1 h2 => by
            rw [hPw]
            exact ⟨v3, v4, rfl, h1, h2⟩
          rw [hPw] at pv
          obtain ⟨v3, v4, rfl, k1, k2⟩ := pv
          obtain ⟨d, gd, td, rfl, htd⟩ := pq5.get gv
          have okd := drs.ok d (List.mem_of_getElem? gd)
          have htd1 : H' td = some (.tup [.int d.1, .int d.2]) := k1 _ _ htd fun z => by
            have e := hn5 td z
            rw [htd] at e
            cases e
          obtain ⟨ja, eja⟩ : ∃ ja : Nat, d.1 = ja := ⟨d.1.toNat, by omega⟩
          obtain ⟨jb, ejb⟩ : ∃ jb : Nat, d.2 = jb := ⟨d.2.toNat, by omega⟩
          obtain ⟨na, gna⟩ : ∃ n, ns[ja]? = some n := ⟨_, List.getElem?_eq_getElem (by omega)⟩
          obtain ⟨nb, gnb⟩ : ∃ n, ns[jb]? = some n := ⟨_, List.getElem?_eq_getElem (by omega)⟩
          have nab : na ≠ nb := fun z => by
            rw [← z] at gnb
            have := nd_ix nn gna gnb
            omega
          have mna := List.mem_of_getElem? gna
          have mnb := List.mem_of_getElem? gnb
          have hp6 := k1 _ _ hp5 fun z => npn _ z rfl
          have hm6 := k1 _ _ hm5 fun z => nmn _ z rfl
          have short : ∀ j : Int, (nearF j (D'.take i)).length ≤ 66 := fun j => by
            have := List.length_filterMap_le (fun d : Pr => if d.1 = j then some d.2 else if d.2 = j then some d.1 else none) (D'.take i)
            rw [List.length_take] at this
            show (List.filterMap _ _).length ≤ 66
            omega
          have ga := k2 ja na gna
          have gb := k2 jb nb gnb
          walk_at "rd"
          refine ⟨_, SqT.of htd1, rfl, _, _, rfl, _, _, rfl, rfl, ?_⟩
          walk_at "rd"
          have npa : p ≠ na := fun z => npn na mna z.symm
          have nma : m ≠ na := fun z => nmn na mna z.symm
          have big : ∀ j : Int, ((nearF j (D'.take i)).map V.int).length < sizeLine := fun j => len_big (by rw [List.length_map]; have := short j; omega)
          refine ⟨C, dx, _, hp6, U.cl, U.nN, .ref m, hf_near _ _ _, m, rfl, _, SqL.of hm6, .ref na, at_of (j := ja) eja (by rw [List.getElem?_map, gna]; rfl), .inl ⟨rfl, _, SqL.of ga⟩, na, rfl, _, ga, big _, ?_⟩
          refine ⟨C, dx, _, by rw [upd_ne npa]; exact hp6, U.cl, U.nN, .ref m, hf_near _ _ _, m, rfl, _, SqL.of (by rw [upd_ne nma]; exact hm6), .ref nb, at_of (j := jb) ejb (by rw [List.getElem?_map, gnb]; rfl), ?_⟩
          have gb2 : upd H' na (HO.lst ((nearF (ja : Nat) (D'.take i)).map V.int ++ [V.int d.2])) nb = some (.lst ((nearF (jb : Nat) (D'.take i)).map V.int)) := by rw [upd_ne nab.symm]; exact gb
          refine ⟨.inl ⟨rfl, _, SqL.of gb2⟩, nb, rfl, _, gb2, big _, ?_⟩
          refine nxt _ _ _ (fun b o e h => ?_) (fun j n gn => ?_)
          · rw [upd_ne (show b ≠ nb from fun z => h (by rw [z]; exact mnb)), upd_ne (show b ≠ na from fun z => h (by rw [z]; exact mna))]
            exact k1 b o e h
          · rw [List.take_add_one, gd]
            show _ = some (HO.lst ((nearF (j : Nat) (D'.take i ++ [d])).map V.int))
            rw [nearF_snoc]
            by_cases e1 : n = nb
            · subst e1
              have ej := nd_ix nn gn gnb
              subst ej
              rw [upd_same, if_neg (by omega), if_pos ejb, List.map_append, eja]
              rfl
            · rw [upd_ne e1]
              by_cases e2 : n = na
              · subst e2
                have ej := nd_ix nn gn gna
                subst ej
                rw [upd_same, if_pos eja, List.map_append]
                rfl
              · have j1 : ¬ d.1 = (j : Int) := fun z => e2 (by
                  have ej : j = ja := by omega
                  rw [ej, gna] at gn
                  exact (Option.some.inj gn).symm)
                have j2 : ¬ d.2 = (j : Int) := fun z => e1 (by
                  have ej : j = jb := by omega
                  rw [ej, gnb] at gn
                  exact (Option.some.inj gn).symm)
                rw [upd_ne e2, if_neg j1, if_neg j2, List.append_nil]
                exact k2 j n gn
        · rw [hPw] at pv
          obtain ⟨v3, v4, rfl, k1, k2⟩ := pv
          rw [ll, List.take_length] at k2
          refine q D' (p :: q0 :: m :: ns) H' mem ⟨⟨dx, q0, m, ls, ns, k1 _ _ hp5 fun z => npn _ z rfl, k1 _ _ hq5 fun z => nqn _ z rfl, ?_, k1 _ _ hm5 fun z => nmn _ z rfl, by omega, k2, rfl⟩, drs, hr1, hr12⟩ (fun b o e h => ?_) fun b hb h => ?_
          · refine Paired.mapP pq5 fun v d ⟨t, e, ht⟩ => ⟨t, e, k1 _ _ ht fun z => ?_⟩
            have e2 := hn5 t z
            rw [ht] at e2
            cases e2
          · refine k1 _ _ (old5 b o e h) fun z => ?_
            rw [fn b z] at e
            cases e
          · rcases List.mem_cons.mp hb with z | hb
            · exact absurd z h
            · rcases List.mem_cons.mp hb with z | hb
              · rw [z]; exact fq
              · rcases List.mem_cons.mp hb with z | hb
                · rw [z]; exact fm
                · exact fn b hb
end

abbrev sCd : Stmt := topS 9
abbrev sHcor : Stmt := inClass sHouse 7
abbrev sHring : Stmt := inClass sHouse 8
abbrev sHstar : Stmt := inClass sHouse 9
abbrev sLmade : Stmt := topS 26
theorem same_ok {n : Nat} {H : Hp} {x y : V} {Q : VK} {E : XK} (h : Sm H n x y) (q : Q (.bl true) H) : spSame n [x, y] H Q E := ⟨x, y, rfl, h, q⟩
theorem PL.sm {H : Hp} {x y : Addr} {us vs : List V} {E : List Pr} (hx : H x = some (.lst us)) (hy : H y = some (.lst vs)) (pu : PL H us E) (pv : PL H vs E) (hl : E.length ≤ 100000) (n : Nat) : Sm H (n + 2) (.ref x) (.ref y) := by
  refine .inr ⟨x, y, _, _, rfl, rfl, .inl ⟨hx, hy⟩, ?_, by rw [pu.len]; exact hl⟩
  clear hx hy hl
  induction pu generalizing vs with
  | nil => cases pv; exact Paired.nil
  | cons r _ ih =>
    cases pv with
    | cons r2 t2 =>
      obtain ⟨t, rfl, e1⟩ := r
      obtain ⟨t', rfl, e2⟩ := r2
      exact Paired.cons (.inr ⟨t, t', _, _, rfl, rfl, .inr ⟨e1, e2⟩, .cons (Sm.flat rfl) (.cons (Sm.flat rfl) .nil), (by show 2 ≤ 100000; decide)⟩) (ih t2)
theorem cut_drop (xs : List V) (k : Nat) : cutV xs (some ((k : Nat) : Int)) none = xs.drop k := by
  unfold cutV
  rw [show HT.sIx xs.length 0 (some ((k : Nat) : Int)) = min k xs.length from HT.sIx_nat xs.length 0 k, HT.sIx_none]
  by_cases h : k ≤ xs.length
  · rw [Nat.min_eq_left h]
    refine List.take_of_length_le ?_
    rw [List.length_drop]
    exact Nat.le_refl _
  · rw [Nat.min_eq_right (by omega), List.drop_length, List.drop_eq_nil_of_le (by omega)]
    exact List.take_nil
theorem cut_take (xs : List V) (k : Nat) : cutV xs none (some ((k : Nat) : Int)) = xs.take k := by
  unfold cutV
  rw [show HT.sIx xs.length xs.length (some ((k : Nat) : Int)) = min k xs.length from HT.sIx_nat xs.length xs.length k, HT.sIx_none, List.drop_zero, Nat.sub_zero]
  by_cases h : k ≤ xs.length
  · rw [Nat.min_eq_left h]
  · rw [Nat.min_eq_right (by omega), List.take_length, List.take_of_length_le (by omega)]
/-! ### the doors that the makers make -/
instance gdec (r : Int) (D : List Pr) : Decidable (GoodD r D) := by
  unfold GoodD
  infer_instance
def cdL (r : Nat) : List Pr := (List.range (r - 1)).map fun i : Nat => (((i : Int), (i : Int) + 1) : Pr)
def mkD (k n : Nat) : List Pr :=
  match k with
  | 0 => cdL n
  | 1 => cdL n ++ (if 3 ≤ n then [((0 : Int), (n : Int) - 1)] else [])
  | 2 => (List.range (n - 1)).map fun i : Nat => (((0 : Int), (1 : Int) + i) : Pr)
  | _ => fullE n
theorem mkD_good {k n : Nat} (hk : k ≤ 3) (hn : n ≤ 12) : GoodD n (mkD k n) := by
  have : ∀ k : Nat, k < 4 → ∀ n : Nat, n < 13 → GoodD n (mkD k n) := by decide +kernel
  exact this k (by omega) n (by omega)
theorem mkD_len {k n : Nat} (hk : k ≤ 3) (hn : n ≤ 12) : (mkD k n).length ≤ 66 := drs_len' hn (mkD_good hk hn).1 (mkD_good hk hn).2
theorem mm2_good {r : Int} {D : List Pr} (g : GoodD r D) : D.map mm2 = D := by
  refine (List.map_congr_left fun d hd => ?_).trans (List.map_id _)
  exact mm2_id (g.2 d hd).2.1
section
variable {P : Program} {w : World} {K : PySem.W.Frag} {mg : Str → Option Value} {base : Heap}
theorem use_init2 {C x dx l : Addr} {r : Nat} {us : List V} {D : List Pr} {H : Hp} {Q : VK} {E : XK} (nx : H x = none) (ndx : H dx = none) (hl : H l = some (.lst us)) (pl : PL H us D) (g : GoodD r (D.map mm2)) (r1 : 1 ≤ r) (r12 : r ≤ 12)
    (q : ∀ D' own H2, (∀ d, d ∈ D' ↔ d ∈ D.map mm2) → HouseAt C H2 x r D' own → Same H H2 → (∀ b ∈ own, H b = none) → Q .non H2) : spHinit C [.ref x, .int r, .ref l] (upd (upd H dx (.own x)) x (.ins C dx [])) Q E := by
  have s0 : Same H (upd (upd H dx (.own x)) x (.ins C dx [])) := fun b o e => by
    rw [upd_ne (ne_of_none e nx), upd_ne (ne_of_none e ndx)]
    exact e
  refine ⟨x, dx, l, r, us, D, D.map mm2, rfl, upd_same, s0 _ _ hl, pl.kt (KT.same s0), rfl, g.1, g.2, r1, r12, fun D' own H' mem hh keep free => ?_⟩
  refine q D' own H' mem hh (fun b o e => keep b o (s0 b o e) (ne_of_none e nx)) fun b hb => ?_
  by_cases e : b = x
  · rw [e]
    exact nx
  · exact s0.free (free b hb e)
theorem scCd : FnScope ["rooms", "room"] ["rooms"] (defScope sCd) := ⟨rfl, rfl, rfl, by decide +kernel, rfl, by decide +kernel, by decide +kernel⟩
def spCd : Sp := fun vs H Q _ => ∃ (r : Nat), vs = [.int r] ∧ r ≤ 60 ∧ ∀ (ws : List V) (t : Addr) (H' : Hp), Same H H' → H t = none → H' t = some (.lst ws) → PL H' ws (cdL r) → Q (.ref t) H'
theorem ok_cd {f : Addr} {fd : FuncData} (F : Fun K "corridor_doors" "corridor_doors" sCd f fd) (T : Bi mg) : FnOk P w K mg base CX0 1 f fd ["rooms"] spCd := by
  refine F.ok scCd (fun vs H Q E h => ?_) (fun cdv A outer s H vs Q E hr h => ?_)
  · obtain ⟨r, rfl, _⟩ := h
    rfl
  · obtain ⟨r, rfl, r60, ret⟩ := h
    refine ⟨_, (pss_one (ps_ret (pe_lc (own := [("room", 1)]) (te := tTup (tCons (tVar 1) (tCons (tOp (rI0 fun i j => V.int (i + j)) (tVar 1) (tC (.int 1))) tNil))) (by rfl) scCd.nd (pi_range1 (by rfl) T.range (pa_cons (pe_op op_sub (pv 0) pe_int) pa_nil)) (blkOk_by (N := ["rooms", "room"]) (sc := defScope sCd) (by decide +kernel)) (fun _ _ _ _ _ => pg_name (i := 1) scCd.nd rfl (Or.inl rfl)) (fun _ _ _ _ _ => pts_nil) (fun _ _ _ _ _ => (pe_tup (pa_cons (pv 1) (pa_cons (pe_op op_add (pv 1) pe_int) pa_nil))))))), ?_⟩
    walk_at "rd"
    refine ⟨_, rfl, r, 1, rfl, rfl, (r : Int) - 1, rfl, by omega, by omega, fun c nc => ?_⟩
    obtain ⟨Pv, hPv⟩ : ∃ Pv : Nat → Hp → Prop, Pv = (fun j Hx => ∃ ws, Same H Hx ∧ Hx c = some (.lst ws) ∧ PL Hx ws ((List.range j).map fun i : Nat => (((i : Int), (i : Int) + 1) : Pr))) := ⟨_, rfl⟩
    refine lc_range (lo := 0) (n := ((r : Int) - 1).toNat) Pv (by rw [hPv]; exact ⟨[], same_upd nc, upd_same, PL.nil0 _⟩) (fun j Hx hj pv => ?_) (fun Hx pv => ?_)
    · rw [hPv] at pv
      obtain ⟨ws, sx, hc, pw⟩ := pv
      have wl : ws.length = j := by rw [pw.len, List.length_map, List.length_range]
      simp only [wipe]
      walk_at "rd"
      refine ⟨(by show 2 ≤ sizeLine; decide), fun t nt => ?_⟩
      have nct : c ≠ t := ne_of_none hc nt
      refine ⟨ws, by rw [upd_ne nct]; exact hc, len_big (by omega), ?_⟩
      rw [hPv]
      refine ⟨ws ++ [.ref t], same_ch (sx.trans (same_upd nt)) nc, upd_same, ?_⟩
      rw [List.range_succ, List.map_append]
      refine PL.snoc ((pw.kt (KT.new nt)).kt (KT.lst (by rw [upd_ne nct]; exact hc))) ⟨t, rfl, ?_⟩
      rw [upd_ne nct.symm, upd_same, Int.zero_add]
    · rw [hPv] at pv
      obtain ⟨ws, sx, hc, pw⟩ := pv
      refine ret ws c Hx sx nc hc ?_
      rw [show ((r : Int) - 1).toNat = r - 1 by omega] at pw
      exact pw
def spMkX (C CB : Addr) (k : Nat) : Sp := fun vs H Q E => ∃ r : Int, vs = [.int r] ∧ (¬ (1 ≤ r ∧ r ≤ 12) → BadOut E H CB (-1)) ∧ ∀ n : Nat, r = n → 1 ≤ n → n ≤ 12 → ∀ x D own H', (∀ d, d ∈ D ↔ d ∈ mkD k n) → HouseAt C H' x n D own → Same H H' → Q (.ref x) H'
/-- the last step of a maker -/
theorem mk_fin {C t : Addr} {k n : Nat} {ws : List V} {H H1 : Hp} {Q : VK} {E : XK} (hk : k ≤ 3) (ht : H1 t = some (.lst ws)) (pw : PL H1 ws (mkD k n)) (n1 : 1 ≤ n) (n12 : n ≤ 12) (s1 : Same H H1) (q : ∀ x D own H', (∀ d, d ∈ D ↔ d ∈ mkD k n) → HouseAt C H' x n D own → Same H H' → Q (.ref x) H') :
    ∀ x dx, H1 x = none → H1 dx = none → dx ≠ x → spHinit C (.ref x :: ([.int n, .ref t] ++ [])) (upd (upd H1 dx (.own x)) x (.ins C dx [])) (fun v H2 => v = .non ∧ Q (.ref x) H2) E := fun x dx nx ndx _ => by
  have e := mm2_good (mkD_good hk n12)
  refine use_init2 nx ndx ht pw (by rw [e]; exact mkD_good hk n12) n1 n12 fun D' own H2 mem hh s2 _ => ⟨rfl, ?_⟩
  rw [e] at mem
  exact q x D' own H2 mem hh (s1.trans s2)
theorem scHcor : FnScope ["rooms"] ["rooms"] (defScope sHcor) := ⟨rfl, rfl, rfl, by decide +kernel, rfl, by decide +kernel, by decide +kernel⟩
theorem ok_corridorX {f C CB fR fi fc : Addr} {fd fdR fdi fdc : FuncData} (F : Fun K "corridor" "House.corridor" sHcor f fd) (T : Bi mg) (U : Hs K mg C) (M : Mk K C fi) (Gi : FnOk P w K mg base CX0 2 fi fdi ["self", "rooms", "doors"] (spHinit C)) (bi : Binds K fdi ["self", "rooms", "doors"] []) (GR : FnOk P w K mg base (L2.CX P w) 3 fR fdR ["rooms"] (spRoomX CB)) (atR : mg "check_room_count" = some (.ref fR)) (kR : PySem.W.keepIn K (.ref fR) = true) (bR : Binds K fdR ["rooms"] []) (d_corridor_doors : Df P w K mg base "corridor_doors" ["rooms"] 1 spCd fc fdc) : FnOk P w K mg base (L2.CX P w) 5 f fd ["rooms"] (spMkX C CB 0) := by
  refine F.okX scHcor (fun vs H Q E h => ?_) (fun cdv A outer s H vs Q E hr h => ?_)
  · obtain ⟨r, rfl, _⟩ := h
    rfl
  · obtain ⟨r, rfl, hbad, q⟩ := h
    have hrR : Room 3 _ := hr.mono (by decide)
    refine ⟨_, (pss_cons (ps_expr (pe_callS GR hrR (by rfl) atR kR bR (fun σ => passAt (takes_of rfl rfl rfl rfl) σ) (pa_cons (pv 0) pa_nil)))
      (pss_one (ps_ret (pe_make M Gi hrR (by rfl) U.mgC bi .nil pass0 (pa_cons (pv 0) (pa_cons (pe_call d_corridor_doors.ok (hr.mono (by decide)) (by rfl) d_corridor_doors.at_ d_corridor_doors.kp d_corridor_doors.b .nil pass0 (pa_cons (pv 0) pa_nil)) pa_nil)))))), ?_⟩
    walk_at "rd"
    simp only [tCallS]
    walk_at "rd"
    refine ⟨r, rfl, fun h12 => ?_, fun n12 => hbad n12⟩
    obtain ⟨r, rfl⟩ : ∃ n : Nat, r = n := ⟨r.toNat, by omega⟩
    have q := q r rfl (by omega) (by omega)
    refine ⟨r, rfl, by omega, fun ws t H1 s1 nt ht pw => ?_⟩
    exact mk_fin (k := 0) (by decide) ht pw (by omega) (by omega) s1 q
theorem scHring : FnScope ["rooms", "closing"] ["rooms"] (defScope sHring) := ⟨rfl, rfl, rfl, by decide +kernel, rfl, by decide +kernel, by decide +kernel⟩
theorem ok_ringX {f C CB fR fi fc : Addr} {fd fdR fdi fdc : FuncData} (F : Fun K "ring" "House.ring" sHring f fd) (T : Bi mg) (U : Hs K mg C) (M : Mk K C fi) (Gi : FnOk P w K mg base CX0 2 fi fdi ["self", "rooms", "doors"] (spHinit C)) (bi : Binds K fdi ["self", "rooms", "doors"] []) (GR : FnOk P w K mg base (L2.CX P w) 3 fR fdR ["rooms"] (spRoomX CB)) (atR : mg "check_room_count" = some (.ref fR)) (kR : PySem.W.keepIn K (.ref fR) = true) (bR : Binds K fdR ["rooms"] []) (d_corridor_doors : Df P w K mg base "corridor_doors" ["rooms"] 1 spCd fc fdc) : FnOk P w K mg base (L2.CX P w) 5 f fd ["rooms"] (spMkX C CB 1) := by
  refine F.okX scHring (fun vs H Q E h => ?_) (fun cdv A outer s H vs Q E hr h => ?_)
  · obtain ⟨r, rfl, _⟩ := h
    rfl
  · obtain ⟨r, rfl, hbad, q⟩ := h
    have hrR : Room 3 _ := hr.mono (by decide)
    refine ⟨_, (pss_cons (ps_expr (pe_callS GR hrR (by rfl) atR kR bR (fun σ => passAt (takes_of rfl rfl rfl rfl) σ) (pa_cons (pv 0) pa_nil)))
      (pss_cons (ps_set (i := 1) scHring.nd rfl (Or.inl rfl) (pe_ifExp (pt_cmpR op_ge (pv 0) pe_int (nomark _)) (pe_lst (pa_cons (pe_tup (pa_cons pe_int (pa_cons (pe_op op_sub (pv 0) pe_int) pa_nil))) pa_nil)) (pe_lst pa_nil)))
      (pss_one (ps_ret (pe_make M Gi hrR (by rfl) U.mgC bi .nil pass0 (pa_cons (pv 0) (pa_cons (pe_op op_cat (pe_call d_corridor_doors.ok (hr.mono (by decide)) (by rfl) d_corridor_doors.at_ d_corridor_doors.kp d_corridor_doors.b .nil pass0 (pa_cons (pv 0) pa_nil)) (pv 1)) pa_nil))))))), ?_⟩
    walk_at "rd"
    simp only [tCallS]
    walk_at "rd"
    refine ⟨r, rfl, fun h12 => ?_, fun n12 => hbad n12⟩
    obtain ⟨r, rfl⟩ : ∃ n : Nat, r = n := ⟨r.toNat, by omega⟩
    have q := q r rfl (by omega) (by omega)
    by_cases c : 3 ≤ (r : Int)
    · rw [if_pos c]
      refine ⟨by decide, fun p np => ⟨by decide, fun b nb => ?_⟩⟩
      have s1 := (same_upd (o := HO.tup [V.int 0, V.int ((r : Int) - 1)]) np).trans (same_upd (o := HO.lst [V.ref p]) nb)
      have hp := same_upd (o := HO.lst [V.ref p]) nb _ _ (upd_same (H := H) (a := p) (o := HO.tup [V.int 0, V.int ((r : Int) - 1)]))
      have hb := upd_same (H := upd H p (HO.tup [V.int 0, V.int ((r : Int) - 1)])) (a := b) (o := HO.lst [V.ref p])
      refine ⟨r, rfl, by omega, fun ws t H1 s2 nt ht pw => ?_⟩
      have wl : ws.length ≤ 66 := by rw [pw.len, show cdL r = mkD 0 r from rfl]; exact mkD_len (by decide) (by omega)
      refine ⟨t, b, ws, [.ref p], rfl, rfl, ht, s2 _ _ hb, Nat.le_of_lt (len_big (by show ws.length + 1 ≤ 100000; omega)), fun l nl => ?_⟩
      have s3 := same_upd (o := HO.lst (ws ++ [V.ref p])) nl
      refine mk_fin (k := 1) (by decide) upd_same ?_ (by omega) (by omega) (s1.trans (s2.trans s3)) q
      show PL _ _ (cdL r ++ if 3 ≤ r then [((0 : Int), (r : Int) - 1)] else [])
      rw [if_pos (by omega)]
      exact PL.snoc (pw.kt (KT.same s3)) ⟨p, rfl, s3 _ _ (s2 _ _ hp)⟩
    · rw [if_neg c]
      refine ⟨by decide, fun b nb => ?_⟩
      have s1 := same_upd (o := HO.lst []) nb
      have hb := upd_same (H := H) (a := b) (o := HO.lst [])
      refine ⟨r, rfl, by omega, fun ws t H1 s2 nt ht pw => ?_⟩
      have wl : ws.length ≤ 66 := by rw [pw.len, show cdL r = mkD 0 r from rfl]; exact mkD_len (by decide) (by omega)
      refine ⟨t, b, ws, [], rfl, rfl, ht, s2 _ _ hb, Nat.le_of_lt (len_big (by show ws.length + 0 ≤ 100000; omega)), fun l nl => ?_⟩
      have s3 := same_upd (o := HO.lst (ws ++ [])) nl
      refine mk_fin (k := 1) (by decide) upd_same ?_ (by omega) (by omega) (s1.trans (s2.trans s3)) q
      show PL _ _ (cdL r ++ if 3 ≤ r then [((0 : Int), (r : Int) - 1)] else [])
      rw [if_neg (by omega), List.append_nil, List.append_nil]
      rw [List.append_nil] at s3
      exact pw.kt (KT.same s3)
theorem scHstar : FnScope ["rooms", "room"] ["rooms"] (defScope sHstar) := ⟨rfl, rfl, rfl, by decide +kernel, rfl, by decide +kernel, by decide +kernel⟩
theorem ok_starX {f C CB fR fi fc : Addr} {fd fdR fdi fdc : FuncData} (F : Fun K "star" "House.star" sHstar f fd) (T : Bi mg) (U : Hs K mg C) (M : Mk K C fi) (Gi : FnOk P w K mg base CX0 2 fi fdi ["self", "rooms", "doors"] (spHinit C)) (bi : Binds K fdi ["self", "rooms", "doors"] []) (GR : FnOk P w K mg base (L2.CX P w) 3 fR fdR ["rooms"] (spRoomX CB)) (atR : mg "check_room_count" = some (.ref fR)) (kR : PySem.W.keepIn K (.ref fR) = true) (bR : Binds K fdR ["rooms"] []) (d_corridor_doors : Df P w K mg base "corridor_doors" ["rooms"] 1 spCd fc fdc) : FnOk P w K mg base (L2.CX P w) 5 f fd ["rooms"] (spMkX C CB 2) := by
  refine F.okX scHstar (fun vs H Q E h => ?_) (fun cdv A outer s H vs Q E hr h => ?_)
  · obtain ⟨r, rfl, _⟩ := h
    rfl
  · obtain ⟨r, rfl, hbad, q⟩ := h
    have hrR : Room 3 _ := hr.mono (by decide)
    refine ⟨_, (pss_cons (ps_expr (pe_callS GR hrR (by rfl) atR kR bR (fun σ => passAt (takes_of rfl rfl rfl rfl) σ) (pa_cons (pv 0) pa_nil)))
      (pss_one (ps_ret (pe_make M Gi hrR (by rfl) U.mgC bi .nil pass0 (pa_cons (pv 0) (pa_cons (pe_lc (own := [("room", 1)]) (by rfl) scHstar.nd (pi_range2 (by rfl) T.range (pa_cons pe_int (pa_cons (pv 0) pa_nil))) (blkOk_by (N := ["rooms", "room"]) (sc := defScope sHstar) (by decide +kernel)) (fun _ _ _ _ _ => pg_name (i := 1) scHstar.nd rfl (Or.inl rfl)) (fun _ _ _ _ _ => pts_nil) (fun _ _ _ _ _ => (pe_tup (pa_cons pe_int (pa_cons (pv 1) pa_nil))))) pa_nil)))))), ?_⟩
    walk_at "rd"
    simp only [tCallS]
    walk_at "rd"
    refine ⟨r, rfl, fun h12 => ?_, fun n12 => hbad n12⟩
    obtain ⟨r, rfl⟩ : ∃ n : Nat, r = n := ⟨r.toNat, by omega⟩
    have q := q r rfl (by omega) (by omega)
    refine ⟨_, rfl, 1, r, rfl, ⟨by omega, by omega, by omega, by omega⟩, fun c nc => ?_⟩
    obtain ⟨Pv, hPv⟩ : ∃ Pv : Nat → Hp → Prop, Pv = (fun j Hx => ∃ ws, Same H Hx ∧ Hx c = some (.lst ws) ∧ PL Hx ws ((List.range j).map fun i : Nat => (((0 : Int), (1 : Int) + i) : Pr))) := ⟨_, rfl⟩
    refine lc_range (lo := 1) (n := ((r : Int) - 1).toNat) Pv (by rw [hPv]; exact ⟨[], same_upd nc, upd_same, PL.nil0 _⟩) (fun j Hx hj pv => ?_) (fun Hx pv => ?_)
    · rw [hPv] at pv
      obtain ⟨ws, sx, hc, pw⟩ := pv
      have wl : ws.length = j := by rw [pw.len, List.length_map, List.length_range]
      simp only [wipe]
      walk_at "rd"
      refine ⟨(by show 2 ≤ sizeLine; decide), fun t nt => ?_⟩
      have nct : c ≠ t := ne_of_none hc nt
      refine ⟨ws, by rw [upd_ne nct]; exact hc, len_big (by omega), ?_⟩
      rw [hPv]
      refine ⟨ws ++ [.ref t], same_ch (sx.trans (same_upd nt)) nc, upd_same, ?_⟩
      rw [List.range_succ, List.map_append]
      refine PL.snoc ((pw.kt (KT.new nt)).kt (KT.lst (by rw [upd_ne nct]; exact hc))) ⟨t, rfl, ?_⟩
      rw [upd_ne nct.symm, upd_same]
    · rw [hPv] at pv
      obtain ⟨ws, sx, hc, pw⟩ := pv
      rw [show ((r : Int) - 1).toNat = r - 1 by omega] at pw
      exact mk_fin (k := 2) (by decide) hc pw (by omega) (by omega) sx q
theorem ok_fullX {f C CB fR fi fc : Addr} {fd fdR fdi fdc : FuncData} (F : Fun K "full" "House.full" sHfull f fd) (T : Bi mg) (U : Hs K mg C) (M : Mk K C fi) (Gi : FnOk P w K mg base CX0 2 fi fdi ["self", "rooms", "doors"] (spHinit C)) (bi : Binds K fdi ["self", "rooms", "doors"] []) (GR : FnOk P w K mg base (L2.CX P w) 3 fR fdR ["rooms"] (spRoomX CB)) (atR : mg "check_room_count" = some (.ref fR)) (kR : PySem.W.keepIn K (.ref fR) = true) (bR : Binds K fdR ["rooms"] []) (d_corridor_doors : Df P w K mg base "corridor_doors" ["rooms"] 1 spCd fc fdc) : FnOk P w K mg base (L2.CX P w) 5 f fd ["rooms"] (spMkX C CB 3) := by
  refine F.okX scHfull (fun vs H Q E h => ?_) (fun cdv A outer s H vs Q E hr h => ?_)
  · obtain ⟨r, rfl, _⟩ := h
    rfl
  · obtain ⟨r, rfl, hbad, q⟩ := h
    have hrR : Room 3 _ := hr.mono (by decide)
    refine ⟨_, pss_cons (ps_expr (pe_callS GR hrR (by rfl) atR kR bR (fun σ => passAt (takes_of rfl rfl rfl rfl) σ) (pa_cons (pv 0) pa_nil)))
      (pss_one (ps_ret (pe_make M Gi hrR (by rfl) U.mgC bi .nil pass0 (pa_cons (pv 0) (pa_cons (pe_lc2 (own := [("b", 1), ("a", 2)]) (vs1 := [2]) (by rfl) scHfull.nd (pi_range1 (by rfl) T.range (pa_cons (pv 0) pa_nil)) (blkOk_by (N := ["rooms", "b", "a"]) (sc := defScope sHfull) (by decide +kernel)) (by decide) (fun _ _ _ _ _ => pg_name (i := 1) scHfull.nd rfl (Or.inl rfl)) (fun _ _ _ _ _ => pts_nil)
        (fun _ _ _ _ _ => pi_range1 (by rfl) T.range (pa_cons (pv 1) pa_nil)) (fun _ _ _ _ _ => pg_name (i := 2) scHfull.nd rfl (Or.inl rfl)) (fun _ _ _ _ _ => pts_nil) (fun _ _ _ _ _ => pe_tup (pa_cons (pv 2) (pa_cons (pv 1) pa_nil)))) pa_nil))))), ?_⟩
    walk_at "rd"
    simp only [tCallS]
    walk_at "rd"
    refine ⟨r, rfl, fun h12 => ?_, fun n12 => hbad n12⟩
    obtain ⟨r, rfl⟩ : ∃ n : Nat, r = n := ⟨r.toNat, by omega⟩
    have q := q r rfl (by omega) (by omega)
    refine ⟨_, rfl, r, rfl, by omega, by omega, fun c nc => ?_⟩
    obtain ⟨Pv, hPv⟩ : ∃ Pv : Nat → Hp → Prop, Pv = (fun i Hx => ∃ ws, Same H Hx ∧ Hx c = some (.lst ws) ∧ PL Hx ws (fullE i)) := ⟨_, rfl⟩
    have len66 : ∀ i, i ≤ r → (fullE i).length ≤ 66 := fun i h => drs_len' (r := i) (by omega) (fullE_nd (by omega)) fun d hd => mem_fullE.mp hd
    refine ⟨fun i m Hx => m = (r : Int).toNat - i ∧ i ≤ (r : Int).toNat ∧ Pv i Hx, ⟨_, rfl, Nat.zero_le _, by rw [hPv]; exact ⟨[], same_upd nc, upd_same, PL.nil0 _⟩⟩, ?_⟩
    rintro i m Hx ⟨rfl, hi, pv⟩
    by_cases lt : i < (r : Int).toNat
    · refine .inr ⟨lt, Pv (i + 1), fun H' q => ⟨_, by omega, rfl, lt, q⟩, ?_⟩
      rintro x H' ⟨rfl, rfl⟩
      have nxt : ∀ ws Hx, Same H Hx → Hx c = some (.lst ws) → PL Hx ws (fullE (i + 1)) → Pv (i + 1) Hx := fun ws Hx h1 h2 h3 => by
        rw [hPv]
        exact ⟨ws, h1, h2, h3⟩
      rw [hPv] at pv
      obtain ⟨ws, sm, hc, pw⟩ := pv
      obtain ⟨Pw, hPw⟩ : ∃ Pw : Nat → Hp → Prop, Pw = (fun j Hx => ∃ ws, Same H Hx ∧ Hx c = some (.lst ws) ∧ PL Hx ws (fullE i ++ (List.range j).map fun a : Nat => (((a : Int), (i : Int)) : Pr))) := ⟨_, rfl⟩
      refine ⟨rfl, iteT (B := True) ?_⟩
      refine ⟨_, rfl, 0 + (i : Int), rfl, by omega, by omega, in_range (lo := 0) (n := (0 + (i : Int)).toNat) Pw (by rw [hPw]; exact ⟨ws, sm, hc, by rw [List.range_zero, List.map_nil, List.append_nil]; exact pw⟩) (fun j Hy hj pv => ?_) (fun Hy pv => ?_)⟩
      · have nxw : ∀ ws Hx, Same H Hx → Hx c = some (.lst ws) → PL Hx ws (fullE i ++ (List.range (j + 1)).map fun a : Nat => (((a : Int), (i : Int)) : Pr)) → Pw (j + 1) Hx := fun ws Hx h1 h2 h3 => by
          rw [hPw]
          exact ⟨ws, h1, h2, h3⟩
        rw [hPw] at pv
        obtain ⟨zs, s2, hc2, pz⟩ := pv
        have l1 := len66 i (by omega)
        have zl : zs.length ≤ 100 := by
          rw [pz.len, List.length_append, List.length_map, List.length_range]
          omega
        simp only [wipe]
        walk_at "rd"
        refine ⟨(by show 2 ≤ sizeLine; decide), fun t nt => ?_⟩
        have nct : c ≠ t := ne_of_none hc2 nt
        refine ⟨zs, by rw [upd_ne nct]; exact hc2, len_big (by omega), nxw (zs ++ [.ref t]) _ (same_ch (s2.trans (same_upd nt)) nc) upd_same ?_⟩
        rw [List.range_succ, List.map_append, ← List.append_assoc]
        refine PL.snoc ((pz.kt (KT.new nt)).kt (KT.lst (by rw [upd_ne nct]; exact hc2))) ⟨t, rfl, ?_⟩
        rw [upd_ne nct.symm, upd_same, Int.zero_add, Int.zero_add]
      · rw [hPw] at pv
        obtain ⟨zs, s2, hc2, pz⟩ := pv
        refine nxt zs Hy s2 hc2 ?_
        have e : fullE (i + 1) = fullE i ++ (List.range (0 + (i : Int)).toNat).map fun a : Nat => (((a : Int), (i : Int)) : Pr) := by
          unfold fullE
          rw [List.range_succ, List.flatMap_append, show (0 + (i : Int)).toNat = i by omega]
          congr 1
          show fullR i ++ [] = _
          rw [List.append_nil]
          rfl
        rw [e]
        exact pz
    · have e : i = r := by omega
      subst e
      rw [hPv] at pv
      obtain ⟨ws, sm, hc, pw⟩ := pv
      refine .inl ⟨by show (i : Int).toNat ≤ i; omega, ?_⟩
      exact mk_fin (k := 3) (by decide) hc pw (by omega) (by omega) sm q
theorem scLmade : FnScope ["kind", "number"] ["kind", "number"] (defScope sLmade) := ⟨rfl, rfl, rfl, by decide +kernel, rfl, by decide +kernel, by decide +kernel⟩
def spMade (C CB : Addr) : Sp := fun vs H Q E => ∃ (k : Nat) (r : Int), k ≤ 3 ∧ vs = [.int k, .int r] ∧ (¬ (1 ≤ r ∧ r ≤ 12) → BadOut E H CB (-1)) ∧ ∀ n : Nat, r = n → 1 ≤ n → n ≤ 12 → ∀ x D own H', (∀ d, d ∈ D ↔ d ∈ mkD k n) → HouseAt C H' x n D own → Same H H' → Q (.ref x) H'
/-- a maker of the class at C -/
structure Mkr (P : Program) (w : World) (K : PySem.W.Frag) (mg : Str → Option Value) (base : Heap) (C CB : Addr) (m : Str) (k : Nat) (p f : Addr) (fd : FuncData) : Prop where
  st : Smt K C m p f
  ok : FnOk P w K mg base (L2.CX P w) 5 f fd ["rooms"] (spMkX C CB k)
  b : Binds K fd ["rooms"] []
theorem ok_made {f C CB p0 p1 p2 p3 f0 f1 f2 f3 : Addr} {fd fd0 fd1 fd2 fd3 : FuncData} (F : Fun K "_law_made" "_law_made" sLmade f fd) (T : Bi mg) (U : Hs K mg C) (m0 : Mkr P w K mg base C CB "corridor" 0 p0 f0 fd0) (m1 : Mkr P w K mg base C CB "ring" 1 p1 f1 fd1) (m2 : Mkr P w K mg base C CB "star" 2 p2 f2 fd2) (m3 : Mkr P w K mg base C CB "full" 3 p3 f3 fd3) : FnOk P w K mg base (L2.CX P w) 6 f fd ["kind", "number"] (spMade C CB) := by
  refine F.okX scLmade (fun vs H Q E h => ?_) (fun cdv A outer s H vs Q E hr h => ?_)
  · obtain ⟨k, r, _, rfl, _⟩ := h
    rfl
  · obtain ⟨k, r, hk, rfl, hbad, q⟩ := h
    have hrR : Room 5 _ := hr.mono (by decide)
    refine ⟨_, (pss_cons (ps_if (pt_cmpR op_eqI (pv 0) pe_int (nomark _))
      (pss_one (ps_ret (pe_smtS (pe_glob (v := .ref C) (by rfl) U.mgC rfl) m0.st m0.ok hrR m0.b (fun σ => passAt (takes_of rfl rfl rfl rfl) σ) (pa_cons (pv 1) pa_nil))))
      pss_nil)
      (pss_cons (ps_if (pt_cmpR op_eqI (pv 0) pe_int (nomark _))
      (pss_one (ps_ret (pe_smtS (pe_glob (v := .ref C) (by rfl) U.mgC rfl) m1.st m1.ok hrR m1.b (fun σ => passAt (takes_of rfl rfl rfl rfl) σ) (pa_cons (pv 1) pa_nil))))
      pss_nil)
      (pss_cons (ps_if (pt_cmpR op_eqI (pv 0) pe_int (nomark _))
      (pss_one (ps_ret (pe_smtS (pe_glob (v := .ref C) (by rfl) U.mgC rfl) m2.st m2.ok hrR m2.b (fun σ => passAt (takes_of rfl rfl rfl rfl) σ) (pa_cons (pv 1) pa_nil))))
      pss_nil)
      (pss_one (ps_ret (pe_smtS (pe_glob (v := .ref C) (by rfl) U.mgC rfl) m3.st m3.ok hrR m3.b (fun σ => passAt (takes_of rfl rfl rfl rfl) σ) (pa_cons (pv 1) pa_nil))))))), ?_⟩
    walk_at "rd"
    simp only [tSmtS]
    walk_at "rd"
    have : k = 0 ∨ k = 1 ∨ k = 2 ∨ k = 3 := by omega
    rcases this with rfl | rfl | rfl | rfl
    · exact ⟨r, rfl, hbad, q⟩
    · exact ⟨r, rfl, hbad, q⟩
    · exact ⟨r, rfl, hbad, q⟩
    · exact ⟨r, rfl, hbad, q⟩
end

abbrev sPass : Stmt := topS 17
theorem Room.u65 {k : Nat} {A : Around} (r : Room k A) : A.units + 65 < cLine := by
  have := r.un
  omega
/-! ### lists of pairs as data -/
def pdP (d : Pr) : PyData := .tuple [.int d.1, .int d.2]
theorem pdP_eqv (d e : Pr) : PyData.eqv (pdP d) (pdP e) = decide (d = e) := by
  show (d.1 == e.1 && (d.2 == e.2 && true)) = decide (d = e)
  obtain ⟨a, b⟩ := d
  obtain ⟨c, f⟩ := e
  by_cases h1 : a = c
  · by_cases h2 : b = f
    · subst h1; subst h2; simp
    · have : ¬ ((a, b) : Pr) = (c, f) := fun z => h2 (Prod.mk.inj z).2
      simp [h1, h2]
  · have : ¬ ((a, b) : Pr) = (c, f) := fun z => h1 (Prod.mk.inj z).1
    simp [h1]
theorem any_eqv (d : Pr) (D : List Pr) : ((D.map pdP).any fun z => PyData.eqv z (pdP d)) = decide (d ∈ D) := by
  induction D with
  | nil => rfl
  | cons e D ih =>
    rw [List.map_cons, List.any_cons, ih, pdP_eqv]
    by_cases h : e = d
    · subst h
      simp
    · have h' : ¬ d = e := fun z => h z.symm
      simp [h, h']
theorem dep_all (D : List Pr) : PyData.depthAll (D.map pdP) ≤ 1 := by
  induction D with
  | nil => exact Nat.zero_le _
  | cons e D ih =>
    show max (PyData.depth (pdP e)) (PyData.depthAll (D.map pdP)) ≤ 1
    exact Nat.max_le.mpr ⟨Nat.le_refl _, ih⟩
theorem lay_all (D : List Pr) : PyData.canLayAll0 (D.map pdP) = true := by
  induction D with
  | nil => rfl
  | cons e D ih =>
    show (PyData.canLay0 (pdP e) && PyData.canLayAll0 (D.map pdP)) = true
    rw [ih]
    rfl
theorem shaped_list (D : List Pr) : SeqAt.shaped (.list (D.map pdP)) = true := by
  have h := dep_all D
  show (PyData.canLayAll0 (D.map pdP) && decide (PyData.depthAll (D.map pdP) + 1 ≤ 64)) = true
  rw [lay_all, Bool.true_and, decide_eq_true_eq]
  omega
theorem dp_pair {K : PySem.W.Frag} {H : Hp} {v : V} {d : Pr} (h : IsP H v d) : Dp K H v (pdP d) := by
  obtain ⟨t, rfl, e⟩ := h
  exact .tup (SqT.of e) (.cons (.int _) (.cons (.int _) .nil))
theorem dp_all {K : PySem.W.Frag} {H : Hp} : ∀ {vs : List V} {D : List Pr}, PL H vs D → DpAll K H vs (D.map pdP)
  | _, _, Paired.nil => .nil
  | _, _, Paired.cons r t => .cons (dp_pair r) (dp_all t)
theorem mm2_asc {d : Pr} (h : d.1 < d.2) : mm2 d = d := by
  unfold mm2
  rw [if_neg (by omega), if_pos (by omega)]
theorem mm2_turn {d : Pr} (h : d.1 < d.2) : mm2 (d.2, d.1) = d := by
  unfold mm2
  simp only
  rw [if_pos h, if_neg (by omega)]
/-- the doors at these places -/
def pick (D : List Pr) (xs : List Int) : List Pr := xs.map fun x => D.getD x.toNat (0, 0)
theorem pick_perm {D : List Pr} {xs : List Int} (h : xs.Perm (rg D.length)) : (pick D xs).Perm D := by
  have e : pick D (rg D.length) = D := by
    unfold pick rg
    rw [List.map_map]
    refine List.ext_getElem? fun i => ?_
    rw [List.getElem?_map]
    by_cases hi : i < D.length
    · rw [List.getElem?_range hi, List.getElem?_eq_getElem hi]
      show some (D.getD ((i : Int).toNat) (0, 0)) = _
      rw [Int.toNat_natCast, List.getD_eq_getElem?_getD, List.getElem?_eq_getElem hi]
      rfl
    · rw [List.getElem?_eq_none (by rw [List.length_range]; omega), List.getElem?_eq_none (by omega)]
      rfl
  have := h.map (fun x => D.getD x.toNat (0, 0))
  show (xs.map _).Perm D
  refine this.trans ?_
  show (pick D (rg D.length)).Perm D
  rw [e]
section
variable {P : Program} {w : World} {K : PySem.W.Frag} {mg : Str → Option Value} {base : Heap}
theorem scPass : FnScope ["numbers", "doors", "passed", "place", "a", "b"] ["numbers", "doors"] (defScope sPass) := ⟨rfl, rfl, rfl, by decide +kernel, rfl, by decide +kernel, by decide +kernel⟩
def spPass (K : PySem.W.Frag) : Sp := fun vs H Q _ => ∃ (a l : Addr) (ns : List Int) (us : List V) (D : List Pr) (r : Nat), vs = [.ref a, .ref l] ∧ SqL K H a (ns.map V.int) ∧ 132 ≤ ns.length ∧ H l = some (.lst us) ∧ PL H us D ∧ Drs r D ∧ r ≤ 12 ∧
  ∀ ws E p H', Same H H' → H p = none → H' p = some (.lst ws) → PL H' ws E → (E.map mm2).Perm D → Q (.ref p) H'
theorem ok_pass {f fN : Addr} {fd fdN : FuncData} (F : Fun K "_law_passed" "_law_passed" sPass f fd) (T : Bi mg) (d__law_names : Df P w K mg base "_law_names" ["numbers", "at", "rooms"] 1 (spNam K) fN fdN) : FnOk P w K mg base CX0 2 f fd ["numbers", "doors"] (spPass K) := by
  refine F.ok scPass (fun vs H Q E h => ?_) (fun cdv A outer s H vs Q E hr h => ?_)
  · obtain ⟨a, l, ns, us, D, r, rfl, _⟩ := h
    rfl
  · obtain ⟨a, l, ns, us, D, r, rfl, hS, hn, hl, pl, drs, hr12, q⟩ := h
    have dl := drs.len hr12
    have ul : us.length = D.length := pl.len
    refine ⟨_, (pss_cons (ps_set (i := 2) scPass.nd rfl (Or.inl rfl) (pe_lst pa_nil))
      (pss_cons (ps_for PassesOwn.never rfl (pi_list (pe_call d__law_names.ok (hr.mono (by decide)) (by rfl) d__law_names.at_ d__law_names.kp d__law_names.b .nil pass0 (pa_cons (pv 0) (pa_cons pe_int (pa_cons (pe_callB call_len_seq (by rfl) T.len (by decide +kernel) (pa_cons (pv 1) pa_nil)) pa_nil))))) (pg_name (i := 3) scPass.nd rfl (Or.inl rfl))
      (pss_cons (ps_asg (pe_ix ix_list (pv 1) (pv 3) (fun _ _ => rfl)) (pg_tup rfl (pgs_cons (pg_name (i := 4) scPass.nd rfl (Or.inl rfl)) (pgs_cons (pg_name (i := 5) scPass.nd rfl (Or.inl rfl)) pgs_nil))))
        (pss_one (ps_if (pt_cmpR op_eqI (pe_op op_mod (pe_callTy cr_intI (by rfl) T.int (by decide +kernel) (pa_cons (pe_ix ix_list (pv 0) (pe_op op_add pe_int (pv 3)) (fun _ _ => rfl)) pa_nil)) pe_int) pe_int (nomark _))
        (pss_one (ps_expr (pe_bm PySem.F.plainAttrs_list PySem.F.slot_list_append PySem.F.type_list_append mt_append (pv 2) (pa_cons (pe_tup (pa_cons (pv 5) (pa_cons (pv 4) pa_nil))) pa_nil))))
        (pss_one (ps_expr (pe_bm PySem.F.plainAttrs_list PySem.F.slot_list_append PySem.F.type_list_append mt_append (pv 2) (pa_cons (pe_tup (pa_cons (pv 4) (pa_cons (pv 5) pa_nil))) pa_nil))))))))
      (pss_one (ps_ret (pv 2))))), ?_⟩
    walk_at "rd"
    refine ⟨by decide, fun p np => ?_⟩
    have s0 : Same H (upd H p (HO.lst [])) := same_upd np
    refine ⟨_, rfl, _, rfl, l, rfl, us, .inl (SqL.of (s0 _ _ hl)), a, ns, 0, us.length, rfl, s0.seq hS, by omega, by omega, fun xs pn H1 pm s1 nn hN => ?_⟩
    rw [ul] at pm
    have N : Nms D.length xs := ⟨pm⟩
    have xl := N.len
    have hp1 : H1 p = some (.lst []) := s1 _ _ upd_same
    have nnp : pn ≠ p := fun z => by
      rw [z, upd_same] at nn
      cases nn
    obtain ⟨Pv, hPv⟩ : ∃ Pv : Nat → L2.St → Hp → Prop, Pv = (fun i σ H' => ∃ (ws : List V) (E : List Pr) (v3 v4 v5 : Option V), σ = [some (.ref a), some (.ref l), some (.ref p), v3, v4, v5] ∧ Same H H' ∧ H' pn = some (.lst (xs.map V.int)) ∧ H' p = some (.lst ws) ∧ PL H' ws E ∧ E.map mm2 = pick D (xs.take i)) := ⟨_, rfl⟩
    refine ⟨pn, rfl, ⟨_, SqL.of hN⟩, for_list (K := K) (a := pn) (xs := xs.map V.int) Pv (by rw [hPv]; exact ⟨[], [], none, none, none, rfl, s0.trans s1, hN, hp1, PL.nil0 _, rfl⟩) (fun i σ H' _ pv => ?_) (fun i v σ H' gv pv => ?_) (fun σ H' pv => ?_)⟩
    · rw [hPv] at pv
      obtain ⟨_, _, _, _, _, _, _, k, _⟩ := pv
      exact SqL.of k
    · have nxt : ∀ ws E v3 v4 v5 H', Same H H' → H' pn = some (.lst (xs.map V.int)) → H' p = some (.lst ws) → PL H' ws E → E.map mm2 = pick D (xs.take (i + 1)) → Pv (i + 1) [some (.ref a), some (.ref l), some (.ref p), v3, v4, v5] H' := fun ws E v3 v4 v5 H' h1 h2 h3 h4 h5 => by
        rw [hPv]
        exact ⟨ws, E, v3, v4, v5, rfl, h1, h2, h3, h4, h5⟩
      rw [hPv] at pv
      obtain ⟨ws, E', v3, v4, v5, rfl, sm, hpn, hp, pw, eE⟩ := pv
      have hi : i < D.length := by
        have h1 := (List.getElem?_eq_some_iff.mp gv).1
        rw [List.length_map] at h1
        omega
      have gx : xs[i]? = some xs[i] := List.getElem?_eq_getElem (by omega)
      rw [List.getElem?_map, gx] at gv
      have ev := Option.some.inj gv
      subst ev
      have bd : 0 ≤ xs[i] ∧ xs[i] < (D.length : Int) := rg_mem (pm.mem_iff.mp (List.getElem_mem _))
      generalize xs[i] = x at gx bd
      obtain ⟨d, gd⟩ : ∃ d, D[x.toNat]? = some d := ⟨_, List.getElem?_eq_getElem (by omega)⟩
      obtain ⟨vd, gvd, td, rfl, htd⟩ := pl.get2 gd
      have okd := drs.ok d (List.mem_of_getElem? gd)
      have tk : pick D (xs.take (i + 1)) = pick D (xs.take i) ++ [d] := by
        rw [List.take_add_one, gx]
        unfold pick
        rw [List.map_append]
        congr 1
        show [D.getD x.toNat (0, 0)] = [d]
        rw [List.getD_eq_getElem?_getD, gd]
        rfl
      have wl : ws.length ≤ 66 := by
        have h1 := congrArg List.length eE
        unfold pick at h1
        rw [List.length_map, List.length_map, List.length_take] at h1
        rw [pw.len]
        omega
      have htd1 := sm _ _ htd
      have gn : (ns.map V.int)[66 + x.toNat]? = some (.int ns[66 + x.toNat]) := by
        rw [List.getElem?_map, List.getElem?_eq_getElem (by omega)]
        rfl
      have fin : ∀ (y z : Int) (v4 v5 : Option V), mm2 (y, z) = d → ∀ t, H' t = none → ∃ x_1, upd H' t (HO.tup [V.int y, V.int z]) p = some (HO.lst x_1) ∧ x_1.length < sizeLine ∧ Pv (i + 1) [some (.ref a), some (.ref l), some (.ref p), some (.int x), v4, v5] (upd (upd H' t (HO.tup [V.int y, V.int z])) p (HO.lst (x_1 ++ [V.ref t]))) := fun y z v4 v5 e t nt => by
        have npt : p ≠ t := ne_of_none hp nt
        refine ⟨ws, by rw [upd_ne npt]; exact hp, len_big (by omega), nxt (ws ++ [.ref t]) (E' ++ [(y, z)]) _ _ _ _ (same_ch (sm.trans (same_upd nt)) np) ?_ upd_same ?_ ?_⟩
        · rw [upd_ne nnp, upd_ne (ne_of_none hpn nt)]
          exact hpn
        · refine PL.snoc ((pw.kt (KT.new nt)).kt (KT.lst (by rw [upd_ne npt]; exact hp))) ⟨t, rfl, ?_⟩
          rw [upd_ne npt.symm, upd_same]
        · rw [List.map_append, eE, tk]
          show _ ++ [mm2 (y, z)] = _
          rw [e]
      walk_at "rd"
      refine ⟨_, SqL.of (sm _ _ hl), .ref td, at_of (j := x.toNat) (by omega) gvd, td, rfl, [.int d.1, .int d.2], SqT.of htd1, rfl, .int d.1, [.int d.2], rfl, .int d.2, [], rfl, rfl, ?_⟩
      walk_at "rd"
      refine ⟨_, sm.seq hS, .int ns[66 + x.toNat], at_of (j := 66 + x.toNat) (by omega) gn, _, rfl, by decide, ?_⟩
      have hty : tyV K "list" (.ref p) H' := .inl ⟨rfl, _, SqL.of hp⟩
      refine ite2 (fun _ => ⟨hty, (by show 2 ≤ sizeLine; decide), ?_⟩) (fun _ => ⟨hty, (by show 2 ≤ sizeLine; decide), ?_⟩)
      · exact fin d.2 d.1 _ _ (mm2_turn okd.2.1)
      · exact fin d.1 d.2 _ _ (mm2_asc okd.2.1)
    · rw [hPv] at pv
      obtain ⟨ws, E', v3, v4, v5, rfl, sm, hpn, hp, pw, eE⟩ := pv
      walk_at "rd"
      refine q ws E' p H' sm np hp pw ?_
      rw [eE, List.length_map, List.take_length]
      exact pick_perm pm
end

abbrev sBp : Stmt := topS 18
abbrev sSpo : Stmt := topS 19
abbrev sInt : Stmt := topS 20
abbrev sEnt : Stmt := topS 21
abbrev sAsk : Stmt := topS 22
theorem paired_app {α β : Type} {F : α → β → Prop} : ∀ {a : List α} {b : List β} {c : List α} {d : List β}, Paired F a b → Paired F c d → Paired F (a ++ c) (b ++ d)
  | _, _, _, _, .nil, k => k
  | _, _, _, _, .cons h t, k => .cons h (paired_app t k)
theorem paired_take {α β : Type} {F : α → β → Prop} : ∀ (n : Nat) {a : List α} {b : List β}, Paired F a b → Paired F (a.take n) (b.take n)
  | 0, _, _, _ => .nil
  | _ + 1, _, _, .nil => .nil
  | n + 1, _, _, .cons h t => .cons h (paired_take n t)
theorem paired_drop {α β : Type} {F : α → β → Prop} : ∀ (n : Nat) {a : List α} {b : List β}, Paired F a b → Paired F (a.drop n) (b.drop n)
  | 0, _, _, h => h
  | _ + 1, _, _, .nil => .nil
  | n + 1, _, _, .cons _ t => paired_drop n t
section
variable {P : Program} {w : World} {K : PySem.W.Frag} {mg : Str → Option Value} {base : Heap}
theorem scBp : FnScope ["entries", "rooms", "kind", "number", "room", "a", "b"] ["entries", "rooms", "kind", "number"] (defScope sBp) := ⟨rfl, rfl, rfl, by decide +kernel, rfl, by decide +kernel, by decide +kernel⟩
def spBp : Sp := fun vs H Q _ => ∃ (l : Addr) (r : Nat) (us : List V) (D : List Pr) (k x : Int), vs = [.ref l, .int r, .int k, .int x] ∧ H l = some (.lst us) ∧ PL H us D ∧ 1 ≤ r ∧ D.length ≤ 100 ∧ ∀ (d : Pr) (t : Addr) (H' : Hp), Same H H' → H' t = some (.tup [.int d.1, .int d.2]) → Q (.ref t) H'
theorem ok_bp {f : Addr} {fd : FuncData} (F : Fun K "_law_bad_pair" "_law_bad_pair" sBp f fd) (T : Bi mg) : FnOk P w K mg base CX0 1 f fd ["entries", "rooms", "kind", "number"] spBp := by
  refine F.ok scBp (fun vs H Q E h => ?_) (fun cdv A outer s H vs Q E hr h => ?_)
  · obtain ⟨l, r, us, D, k, x, rfl, _⟩ := h
    rfl
  · obtain ⟨l, r, us, D, k, x, rfl, hl, pl, r1, dl, q⟩ := h
    refine ⟨_, (pss_cons (ps_set (i := 4) scBp.nd rfl (Or.inl rfl) (pe_op op_mod (pe_callTy cr_intI (by rfl) T.int (by decide +kernel) (pa_cons (pv 3) pa_nil)) (pv 1)))
      (pss_cons (ps_if (pt_cmpR op_eqI (pv 2) pe_int (nomark _))
      (pss_one (ps_ret (pe_tup (pa_cons (pv 4) (pa_cons (pv 4) pa_nil)))))
      pss_nil)
      (pss_cons (ps_if (pt_cmpR op_eqI (pv 2) pe_int (nomark _))
      (pss_one (ps_ret (pe_tup (pa_cons (pe_un un_neg pe_int) (pa_cons (pv 4) pa_nil)))))
      pss_nil)
      (pss_cons (ps_if (pt_cmpR op_eqI (pv 2) pe_int (nomark _))
      (pss_one (ps_ret (pe_tup (pa_cons (pv 4) (pa_cons (pv 1) pa_nil)))))
      pss_nil)
      (pss_cons (ps_if (pt_cmpR op_eqI (pv 2) pe_int (nomark _))
      (pss_one (ps_ret (pe_tup (pa_cons (pe_op op_add (pe_op op_pow pe_int pe_int) (pv 4)) (pa_cons (pv 4) pa_nil)))))
      pss_nil)
      (pss_cons (ps_if (pt_cmpR op_eqI (pv 2) pe_int (nomark _))
      (pss_one (ps_ret (pe_tup (pa_cons (pv 4) (pa_cons (pe_un un_neg (pe_op op_pow pe_int pe_int)) pa_nil)))))
      pss_nil)
      (pss_cons (ps_if (pt_cmpR op_eqI (pe_callB call_len_seq (by rfl) T.len (by decide +kernel) (pa_cons (pv 0) pa_nil)) pe_int (nomark _))
      (pss_one (ps_ret (pe_tup (pa_cons (pv 1) (pa_cons (pv 1) pa_nil)))))
      pss_nil)
      (pss_cons (ps_asg (pe_ix ix_list (pv 0) (pe_op op_mod (pe_callTy cr_intI (by rfl) T.int (by decide +kernel) (pa_cons (pv 3) pa_nil)) (pe_callB call_len_seq (by rfl) T.len (by decide +kernel) (pa_cons (pv 0) pa_nil))) (fun _ _ => rfl)) (pg_tup rfl (pgs_cons (pg_name (i := 5) scBp.nd rfl (Or.inl rfl)) (pgs_cons (pg_name (i := 6) scBp.nd rfl (Or.inl rfl)) pgs_nil))))
      (pss_cons (ps_if (pt_cmpR op_eqI (pv 2) pe_int (nomark _))
      (pss_one (ps_ret (pe_tup (pa_cons (pv 5) (pa_cons (pv 6) pa_nil)))))
      pss_nil)
      (pss_cons (ps_if (pt_cmpR op_eqI (pv 2) pe_int (nomark _))
      (pss_one (ps_ret (pe_tup (pa_cons (pv 6) (pa_cons (pv 5) pa_nil)))))
      pss_nil)
      (pss_one (ps_ret (pe_tup (pa_cons (pv 5) (pa_cons (pv 5) pa_nil))))))))))))))), ?_⟩
    walk_at "rd"
    refine ⟨by omega, ?_⟩
    have fin : ∀ (y z : Int) (p : Addr), H p = none → Q (V.ref p) (upd H p (HO.tup [V.int y, V.int z])) := fun y z p np => q (y, z) p _ (same_upd np) upd_same
    refine ite2 (fun _ => ⟨by decide, fun p np => fin _ _ p np⟩) (fun _ => ?_)
    refine ite2 (fun _ => ⟨by decide, fun p np => fin _ _ p np⟩) (fun _ => ?_)
    refine ite2 (fun _ => ⟨by decide, fun p np => fin _ _ p np⟩) (fun _ => ?_)
    refine ite2 (fun _ => ⟨⟨by decide, by decide, by decide⟩, by decide, fun p np => fin _ _ p np⟩) (fun _ => ?_)
    refine ite2 (fun _ => ⟨⟨by decide, by decide, by decide⟩, by decide, fun p np => fin _ _ p np⟩) (fun _ => ?_)
    refine ⟨us, .inl (SqL.of hl), ite2 (fun _ => ⟨by decide, fun p np => fin _ _ p np⟩) (fun n0 => ?_)⟩
    refine ⟨us, .inl (SqL.of hl), by omega, us, SqL.of hl, ?_⟩
    have x0 := Int.emod_nonneg x (show (us.length : Int) ≠ 0 by omega)
    have x1 := Int.emod_lt_of_pos x (show (0 : Int) < (us.length : Int) by omega)
    have gv : us[(x % (us.length : Int)).toNat]? = some us[(x % (us.length : Int)).toNat] := List.getElem?_eq_getElem (by omega)
    obtain ⟨d, gd, td, ev, htd⟩ := pl.get gv
    refine ⟨.ref td, at_of (j := (x % (us.length : Int)).toNat) (by omega) (by rw [gv, ev]), td, rfl, [.int d.1, .int d.2], SqT.of htd, rfl, .int d.1, [.int d.2], rfl, .int d.2, [], rfl, rfl, ?_⟩
    exact ite2 (fun _ => ⟨by decide, fun p np => fin _ _ p np⟩) (fun _ => ite2 (fun _ => ⟨by decide, fun p np => fin _ _ p np⟩) (fun _ => ⟨by decide, fun p np => fin _ _ p np⟩))
theorem scInt : FnScope ["number", "rooms"] ["number", "rooms"] (defScope sInt) := ⟨rfl, rfl, rfl, by decide +kernel, rfl, by decide +kernel, by decide +kernel⟩
def spInt : Sp := fun vs H Q _ => ∃ (x : Int) (r : Nat), vs = [.int x, .int r] ∧ 0 ≤ x ∧ x < 997 ∧ ∀ z : Int, Q (.int z) H
theorem ok_int {f : Addr} {fd : FuncData} (F : Fun K "_law_integer" "_law_integer" sInt f fd) (T : Bi mg) : FnOk P w K mg base CX0 1 f fd ["number", "rooms"] spInt := by
  refine F.ok scInt (fun vs H Q E h => ?_) (fun cdv A outer s H vs Q E hr h => ?_)
  · obtain ⟨x, r, rfl, _⟩ := h
    rfl
  · obtain ⟨x, r, rfl, x0, x1, q⟩ := h
    refine ⟨_, (pss_cons (ps_if (pt_cmpR op_ge (pe_callTy cr_intI (by rfl) T.int (by decide +kernel) (pa_cons (pv 0) pa_nil)) pe_int (nomark _))
      (pss_one (ps_ret (pe_op op_mul (pe_op op_sub (pe_callTy cr_intI (by rfl) T.int (by decide +kernel) (pa_cons (pv 0) pa_nil)) pe_int) (pe_op op_pow pe_int pe_int))))
      pss_nil)
      (pss_one (ps_ret (pe_op op_sub (pe_op op_mod (pe_callTy cr_intI (by rfl) T.int (by decide +kernel) (pa_cons (pv 0) pa_nil)) (pe_op op_add (pv 1) pe_int)) pe_int)))), ?_⟩
    walk_at "rd"
    exact ite2 (fun _ => ⟨⟨by decide, by decide, by decide⟩, .inl ⟨by omega, by omega⟩, q _⟩) (fun _ => ⟨by omega, q _⟩)
theorem scAsk : FnScope ["rooms", "numbers", "cell", "kind"] ["rooms", "numbers", "cell"] (defScope sAsk) := ⟨rfl, rfl, rfl, by decide +kernel, rfl, by decide +kernel, by decide +kernel⟩
def spAsk (K : PySem.W.Frag) : Sp := fun vs H Q _ => ∃ (a : Addr) (ns : List Int) (r : Nat) (c : Int), vs = [.int r, .ref a, .int c] ∧ SqL K H a (ns.map V.int) ∧ 2 ≤ ns.length ∧ ∀ z : Int, Q (.int z) H
theorem ok_ask {f : Addr} {fd : FuncData} (F : Fun K "_law_asked_rooms" "_law_asked_rooms" sAsk f fd) (T : Bi mg) : FnOk P w K mg base CX0 1 f fd ["rooms", "numbers", "cell"] (spAsk K) := by
  refine F.ok scAsk (fun vs H Q E h => ?_) (fun cdv A outer s H vs Q E hr h => ?_)
  · obtain ⟨a, ns, r, c, rfl, _⟩ := h
    rfl
  · obtain ⟨a, ns, r, c, rfl, hS, hn, q⟩ := h
    refine ⟨_, (pss_cons (ps_set (i := 3) scAsk.nd rfl (Or.inl rfl) (pe_op op_mod (pe_callTy cr_intI (by rfl) T.int (by decide +kernel) (pa_cons (pe_ix ix_list (pv 1) pe_int (fun _ _ => rfl)) pa_nil)) pe_int))
      (pss_cons (ps_if (pt_cmpR op_eqI (pv 3) pe_int (nomark _))
      (pss_one (ps_ret pe_int))
      pss_nil)
      (pss_cons (ps_if (pt_cmpR op_eqI (pv 3) pe_int (nomark _))
      (pss_one (ps_ret pe_int))
      pss_nil)
      (pss_cons (ps_if (pt_cmpR op_eqI (pv 3) pe_int (nomark _))
      (pss_one (ps_ret (pe_op op_add pe_int (pe_op op_mod (pe_callTy cr_intI (by rfl) T.int (by decide +kernel) (pa_cons (pe_ix ix_list (pv 1) pe_int (fun _ _ => rfl)) pa_nil)) pe_int))))
      pss_nil)
      (pss_cons (ps_if (PW.pt (pw_and (pt_cmpR op_eqI (pv 3) pe_int (nomark _)) (pw_and1 (pt_cmpR op_eqI (pe_op op_mod (pe_callTy cr_intI (by rfl) T.int (by decide +kernel) (pa_cons (pe_ix ix_list (pv 1) pe_int (fun _ _ => rfl)) pa_nil)) pe_int) pe_int (nomark _)))))
      (pss_one (ps_ret (pe_op op_add pe_int (pe_op op_mod (pe_callTy cr_intI (by rfl) T.int (by decide +kernel) (pa_cons (pv 2) pa_nil)) (pe_op op_pow pe_int pe_int)))))
      pss_nil)
      (pss_cons (ps_if (PW.pt (pw_and (pt_cmpR op_eqI (pv 3) pe_int (nomark _)) (pw_and1 (pt_cmpR op_eqI (pe_op op_mod (pe_callTy cr_intI (by rfl) T.int (by decide +kernel) (pa_cons (pe_ix ix_list (pv 1) pe_int (fun _ _ => rfl)) pa_nil)) pe_int) pe_int (nomark _)))))
      (pss_one (ps_ret (pe_op op_sub (pe_un un_neg pe_int) (pe_op op_mod (pe_callTy cr_intI (by rfl) T.int (by decide +kernel) (pa_cons (pv 2) pa_nil)) (pe_op op_pow pe_int pe_int)))))
      pss_nil)
      (pss_cons (ps_if (pt_cmpR op_eqI (pv 3) pe_int (nomark _))
      (pss_one (ps_ret (pe_un un_neg pe_int)))
      pss_nil)
      (pss_one (ps_ret (pv 0)))))))))), ?_⟩
    walk_at "rd"
    have g0 : (ns.map V.int)[0]? = some (.int (ns[0]'(by omega))) := by rw [List.getElem?_map, List.getElem?_eq_getElem (by omega)]; rfl
    have g1 : (ns.map V.int)[1]? = some (.int (ns[1]'(by omega))) := by rw [List.getElem?_map, List.getElem?_eq_getElem (by omega)]; rfl
    refine ⟨_, hS, _, at_of (j := 0) rfl g0, _, rfl, by decide, ?_⟩
    repeat' first | exact q _ | exact (fun h : False => h.elim) | refine ite2 (fun _ => ?_) (fun _ => ?_) | refine ⟨_, hS, _, at_of (j := 1) rfl g1, _, rfl, by decide, ?_⟩ | refine ⟨⟨by decide, by decide, by decide⟩, by decide, ?_⟩ | (exfalso; assumption)
theorem scSpo : FnScope ["entries", "rooms", "numbers", "at", "pair", "place"] ["entries", "rooms", "numbers", "at"] (defScope sSpo) := ⟨rfl, rfl, rfl, by decide +kernel, rfl, by decide +kernel, by decide +kernel⟩
def spSpo (K : PySem.W.Frag) : Sp := fun vs H Q _ => ∃ (l a : Addr) (r : Nat) (us : List V) (D : List Pr) (ns : List Int) (at_ : Nat), vs = [.ref l, .int r, .ref a, .int at_] ∧ H l = some (.lst us) ∧ PL H us D ∧ 1 ≤ r ∧ D.length ≤ 90 ∧ SqL K H a (ns.map V.int) ∧ at_ + 2 < ns.length ∧ ∀ (E : List Pr) (ws : List V) (t : Addr) (H' : Hp), Same H H' → H' t = some (.lst ws) → PL H' ws E → E.length = D.length + 1 → Q (.ref t) H'
theorem ok_spo {f f1 : Addr} {fd fd1 : FuncData} (F : Fun K "_law_spoilt" "_law_spoilt" sSpo f fd) (T : Bi mg) (d__law_bad_pair : Df P w K mg base "_law_bad_pair" ["entries", "rooms", "kind", "number"] 1 spBp f1 fd1) : FnOk P w K mg base CX0 2 f fd ["entries", "rooms", "numbers", "at"] (spSpo K) := by
  refine F.ok scSpo (fun vs H Q E h => ?_) (fun cdv A outer s H vs Q E hr h => ?_)
  · obtain ⟨l, a, r, us, D, ns, at_, rfl, _⟩ := h
    rfl
  · obtain ⟨l, a, r, us, D, ns, at_, rfl, hl, pl, r1, dl, hS, hn, q⟩ := h
    refine ⟨_, (pss_cons (ps_set (i := 4) scSpo.nd rfl (Or.inl rfl) (pe_call d__law_bad_pair.ok (hr.mono (by decide)) (by rfl) d__law_bad_pair.at_ d__law_bad_pair.kp d__law_bad_pair.b .nil pass0 (pa_cons (pv 0) (pa_cons (pv 1) (pa_cons (pe_op op_mod (pe_callTy cr_intI (by rfl) T.int (by decide +kernel) (pa_cons (pe_ix ix_list (pv 2) (pv 3) (fun _ _ => rfl)) pa_nil)) pe_int) (pa_cons (pe_ix ix_list (pv 2) (pe_op op_add (pv 3) pe_int) (fun _ _ => rfl)) pa_nil))))))
      (pss_cons (ps_set (i := 5) scSpo.nd rfl (Or.inl rfl) (pe_op op_mod (pe_callTy cr_intI (by rfl) T.int (by decide +kernel) (pa_cons (pe_ix ix_list (pv 2) (pe_op op_add (pv 3) pe_int) (fun _ _ => rfl)) pa_nil)) (pe_op op_add (pe_callB call_len_seq (by rfl) T.len (by decide +kernel) (pa_cons (pv 0) pa_nil)) pe_int)))
      (pss_one (ps_ret (pe_op op_cat (pe_op op_cat (pe_slice sl_list (pv 0) po_none (po_some (pv 5))) (pe_lst (pa_cons (pv 4) pa_nil))) (pe_slice sl_list (pv 0) (po_some (pv 5)) po_none)))))), ?_⟩
    walk_at "rd"
    have gN : ∀ j : Nat, j < ns.length → ∃ x, (ns.map V.int)[j]? = some (.int x) := fun j hj => ⟨ns[j], by rw [List.getElem?_map, List.getElem?_eq_getElem hj]; rfl⟩
    obtain ⟨y0, g0⟩ := gN at_ (by omega)
    obtain ⟨y1, g1⟩ := gN (at_ + 1) (by omega)
    obtain ⟨y2, g2⟩ := gN (at_ + 2) (by omega)
    have ul : us.length = D.length := pl.len
    refine ⟨_, hS, .int y0, at_of (j := at_) rfl g0, y0, rfl, by decide, _, hS, .int y1, at_of (j := at_ + 1) (by omega) g1, ?_⟩
    refine ⟨l, r, us, D, y0 % 8, y1, rfl, hl, pl, r1, by omega, fun d t H1 s1 ht => ?_⟩
    have hl1 := s1 _ _ hl
    refine ⟨_, s1.seq hS, .int y2, at_of (j := at_ + 2) (by omega) g2, y2, rfl, us, .inl (SqL.of hl1), by omega, us, SqL.of hl1, ?_⟩
    obtain ⟨m, em, hm⟩ : ∃ m : Nat, y2 % ((us.length : Int) + 1) = m ∧ m ≤ us.length := by
      have e0 := Int.emod_nonneg y2 (show ((us.length : Int) + 1) ≠ 0 by omega)
      have e1 := Int.emod_lt_of_pos y2 (show (0 : Int) < (us.length : Int) + 1 by omega)
      exact ⟨(y2 % ((us.length : Int) + 1)).toNat, by omega, by omega⟩
    rw [em, cut_take]
    intro p np
    refine ⟨by decide, fun b nb => ?_⟩
    have t1 := same_upd (o := HO.lst (us.take m)) np
    have t2 := same_upd (o := HO.lst [V.ref t]) nb
    have hp := t2 _ _ (upd_same (H := H1) (a := p) (o := HO.lst (us.take m)))
    have hb := upd_same (H := upd H1 p (HO.lst (us.take m))) (a := b) (o := HO.lst [V.ref t])
    have t12 := t1.trans t2
    have lt := List.length_take_le m us
    refine ⟨p, b, _, _, rfl, rfl, hp, hb, Nat.le_of_lt (len_big (by show (us.take m).length + 1 ≤ 100000; omega)), fun c nc => ?_⟩
    have t3 := t12.trans (same_upd (o := HO.lst (us.take m ++ [V.ref t])) nc)
    have hc := upd_same (H := upd (upd H1 p (HO.lst (us.take m))) b (HO.lst [V.ref t])) (a := c) (o := HO.lst (us.take m ++ [V.ref t]))
    generalize upd (upd (upd H1 p (HO.lst (us.take m))) b (HO.lst [V.ref t])) c (HO.lst (us.take m ++ [V.ref t])) = H2 at t3 hc ⊢
    refine ⟨us, SqL.of (t3 _ _ hl1), fun e ne => ?_⟩
    rw [cut_drop]
    have t4 := same_upd (o := HO.lst (us.drop m)) ne
    have ld : (us.drop m).length ≤ us.length := by rw [List.length_drop]; omega
    refine ⟨c, e, _, _, rfl, rfl, t4 _ _ hc, upd_same, Nat.le_of_lt (len_big (by rw [List.length_append]; show (us.take m).length + 1 + (us.drop m).length ≤ 100000; omega)), fun g ng => ?_⟩
    have t5 := same_upd (o := HO.lst (us.take m ++ [V.ref t] ++ us.drop m)) ng
    have t15 := t3.trans (t4.trans t5)
    have pl5 := pl.kt (KT.same (s1.trans t15))
    refine q (D.take m ++ [d] ++ D.drop m) _ g _ (s1.trans t15) upd_same ?_ ?_
    · exact paired_app (paired_app (paired_take m pl5) (.cons ⟨t, rfl, t15 _ _ ht⟩ .nil)) (paired_drop m pl5)
    · rw [List.length_append, List.length_append, List.length_take, List.length_drop]
      show min m D.length + 1 + (D.length - m) = _
      omega
theorem scEnt : FnScope ["good", "rooms", "numbers", "way", "pairs", "k", "entries"] ["good", "rooms", "numbers"] (defScope sEnt) := ⟨rfl, rfl, rfl, by decide +kernel, rfl, by decide +kernel, by decide +kernel⟩
def spEnt (K : PySem.W.Frag) : Sp := fun vs H Q _ => ∃ (l a : Addr) (r : Nat) (us : List V) (D : List Pr) (ns : List Int), vs = [.ref l, .int r, .ref a] ∧ H l = some (.lst us) ∧ PL H us D ∧ 1 ≤ r ∧ D.length ≤ 66 ∧ SqL K H a (ns.map V.int) ∧ ns.length = 38 ∧ (∀ x ∈ ns, 0 ≤ x ∧ x < 997) ∧ ∀ (E : List Pr) (ws : List V) (t : Addr) (H' : Hp), Same H H' → H' t = some (.lst ws) → PL H' ws E → E.length ≤ 68 → Q (.ref t) H'
theorem ok_ent {f f1 f2 : Addr} {fd fd1 fd2 : FuncData} (F : Fun K "_law_entries" "_law_entries" sEnt f fd) (T : Bi mg) (d__law_spoilt : Df P w K mg base "_law_spoilt" ["entries", "rooms", "numbers", "at"] 2 (spSpo K) f1 fd1) (d__law_integer : Df P w K mg base "_law_integer" ["number", "rooms"] 1 spInt f2 fd2) : FnOk P w K mg base CX0 3 f fd ["good", "rooms", "numbers"] (spEnt K) := by
  refine F.ok scEnt (fun vs H Q E h => ?_) (fun cdv A outer s H vs Q E hr h => ?_)
  · obtain ⟨l, a, r, us, D, ns, rfl, _⟩ := h
    rfl
  · obtain ⟨l, a, r, us, D, ns, rfl, hl, pl, r1, dl, hS, hn, hb, q⟩ := h
    refine ⟨_, (pss_cons (ps_set (i := 3) scEnt.nd rfl (Or.inl rfl) (pe_op op_mod (pe_callTy cr_intI (by rfl) T.int (by decide +kernel) (pa_cons (pe_ix ix_list (pv 2) pe_int (fun _ _ => rfl)) pa_nil)) pe_int))
      (pss_cons (ps_if (pt_cmpR op_eqI (pv 3) pe_int (nomark _))
      (pss_one (ps_ret (pv 0)))
      pss_nil)
      (pss_cons (ps_if (pt_cmpR op_eqI (pv 3) pe_int (nomark _))
      (pss_cons (ps_set (i := 4) scEnt.nd rfl (Or.inl rfl) (pe_lst pa_nil))
        (pss_cons (ps_for PassesOwn.never rfl (pi_range1 (by rfl) T.range (pa_cons (pe_op op_mod (pe_callTy cr_intI (by rfl) T.int (by decide +kernel) (pa_cons (pe_ix ix_list (pv 2) pe_int (fun _ _ => rfl)) pa_nil)) pe_int) pa_nil)) (pg_name (i := 5) scEnt.nd rfl (Or.inl rfl))
        (pss_one (ps_expr (pe_bm PySem.F.plainAttrs_list PySem.F.slot_list_append PySem.F.type_list_append mt_append (pv 4) (pa_cons (pe_tup (pa_cons (pe_call d__law_integer.ok (hr.mono (by decide)) (by rfl) d__law_integer.at_ d__law_integer.kp d__law_integer.b .nil pass0 (pa_cons (pe_ix ix_list (pv 2) (pe_op op_add pe_int (pe_op op_mul pe_int (pv 5))) (fun _ _ => rfl)) (pa_cons (pv 1) pa_nil))) (pa_cons (pe_call d__law_integer.ok (hr.mono (by decide)) (by rfl) d__law_integer.at_ d__law_integer.kp d__law_integer.b .nil pass0 (pa_cons (pe_ix ix_list (pv 2) (pe_op op_add pe_int (pe_op op_mul pe_int (pv 5))) (fun _ _ => rfl)) (pa_cons (pv 1) pa_nil))) pa_nil))) pa_nil)))))
        (pss_one (ps_ret (pv 4)))))
      pss_nil)
      (pss_cons (ps_set (i := 6) scEnt.nd rfl (Or.inl rfl) (pe_call d__law_spoilt.ok (hr.mono (by decide)) (by rfl) d__law_spoilt.at_ d__law_spoilt.kp d__law_spoilt.b .nil pass0 (pa_cons (pv 0) (pa_cons (pv 1) (pa_cons (pv 2) (pa_cons pe_int pa_nil))))))
      (pss_cons (ps_if (pt_cmpR op_eqI (pv 3) pe_int (nomark _))
      (pss_one (ps_set (i := 6) scEnt.nd rfl (Or.inl rfl) (pe_call d__law_spoilt.ok (hr.mono (by decide)) (by rfl) d__law_spoilt.at_ d__law_spoilt.kp d__law_spoilt.b .nil pass0 (pa_cons (pv 6) (pa_cons (pv 1) (pa_cons (pv 2) (pa_cons pe_int pa_nil)))))))
      pss_nil)
      (pss_one (ps_ret (pv 6)))))))), ?_⟩
    walk_at "rd"
    have gN : ∀ j : Nat, j < 38 → ∃ x, (ns.map V.int)[j]? = some (.int x) ∧ 0 ≤ x ∧ x < 997 := fun j hj => ⟨ns[j]'(by omega), by rw [List.getElem?_map, List.getElem?_eq_getElem (by omega)]; rfl, hb _ (List.getElem_mem _)⟩
    obtain ⟨y2, g2, _⟩ := gN 2 (by decide)
    obtain ⟨y3, g3, _⟩ := gN 3 (by decide)
    refine ⟨_, hS, .int y2, at_of (j := 2) rfl g2, y2, rfl, by decide, ?_⟩
    refine ite2 (fun _ => q D us l H (Same.refl _) hl pl (by omega)) (fun _ => ?_)
    refine ite2 (fun _ => ?_) (fun _ => ?_)
    · refine ⟨by decide, fun p np => ?_⟩
      have s0 := same_upd (o := HO.lst []) np
      refine for_iterW ?_
      walk_at "rd"
      refine ⟨_, s0.seq hS, .int y3, at_of (j := 3) rfl g3, y3, rfl, by decide, by omega, by omega, ?_⟩
      obtain ⟨Pv, hPv⟩ : ∃ Pv : Nat → L2.St → Hp → Prop, Pv = (fun i σ H' => ∃ (ws : List V) (E : List Pr) (v5 : Option V), σ = [some (.ref l), some (.int r), some (.ref a), some (.int (y2 % 4)), some (.ref p), v5, none] ∧ Same H H' ∧ H' p = some (.lst ws) ∧ PL H' ws E ∧ E.length = i) := ⟨_, rfl⟩
      refine for_range (lo := 0) (n := (y3 % 15).toNat) Pv (by rw [hPv]; exact ⟨[], [], none, rfl, s0, upd_same, PL.nil0 _, rfl⟩) (fun i σ H' hi pv => ?_) (fun σ H' pv => ?_)
      · rw [hPv] at pv
        obtain ⟨ws, E', v5, rfl, sm, hp, pw, el⟩ := pv
        obtain ⟨z0, gz0, z00, z01⟩ := gN (10 + 2 * i) (by omega)
        obtain ⟨z1, gz1, z10, z11⟩ := gN (11 + 2 * i) (by omega)
        walk_at "rd"
        refine ⟨.inl ⟨rfl, _, SqL.of hp⟩, .inl (by decide), _, sm.seq hS, _, at_of (j := 10 + 2 * i) (by omega) gz0, z0, r, rfl, z00, z01, fun w0 => ⟨.inl (by decide), _, sm.seq hS, _, at_of (j := 11 + 2 * i) (by omega) gz1, z1, r, rfl, z10, z11, fun w1 => ⟨by decide, fun t nt => ?_⟩⟩⟩
        have npt : p ≠ t := ne_of_none hp nt
        refine ⟨ws, by rw [upd_ne npt]; exact hp, len_big (by rw [pw.len]; omega), ?_⟩
        rw [hPv]
        refine ⟨ws ++ [.ref t], E' ++ [(w0, w1)], _, rfl, same_ch (sm.trans (same_upd nt)) np, upd_same, ?_, by rw [List.length_append, el]; rfl⟩
        refine PL.snoc ((pw.kt (KT.new nt)).kt (KT.lst (by rw [upd_ne npt]; exact hp))) ⟨t, rfl, ?_⟩
        rw [upd_ne npt.symm, upd_same]
      · rw [hPv] at pv
        obtain ⟨ws, E', v5, rfl, sm, hp, pw, el⟩ := pv
        walk_at "rd"
        exact q E' ws p H' sm hp pw (by omega)
    · walk_at "rd"
      refine ⟨l, a, r, us, D, ns, 4, rfl, hl, pl, r1, by omega, hS, by omega, fun E1 ws1 t1 H1 s1 ht1 pw1 l1 => ?_⟩
      walk_at "rd"
      refine ite2 (fun _ => ?_) (fun _ => ?_)
      · refine ⟨t1, a, r, ws1, E1, ns, 7, rfl, ht1, pw1, r1, by omega, s1.seq hS, by omega, fun E2 ws2 t2 H2 s2 ht2 pw2 l2 => ?_⟩
        exact q E2 ws2 t2 H2 (s1.trans s2) ht2 pw2 (by omega)
      · exact q E1 ws1 t1 H1 s1 ht1 pw1 (by omega)
end

abbrev sFb : Stmt := topS 23
abbrev sRef : Stmt := topS 24
theorem mm2_eq {d e : Pr} : mm2 e = mm2 d ↔ e = d ∨ e = (d.2, d.1) := by
  obtain ⟨a, b⟩ := d
  obtain ⟨c, f⟩ := e
  unfold mm2
  simp only [Prod.mk.injEq]
  split <;> split <;> split <;> split <;> omega
theorem mm2_ok {d : Pr} {r : Int} : (0 ≤ (mm2 d).1 ∧ (mm2 d).1 < (mm2 d).2 ∧ (mm2 d).2 < r) ↔ d.1 ≠ d.2 ∧ 0 ≤ d.1 ∧ 0 ≤ d.2 ∧ d.1 < r ∧ d.2 < r := by
  obtain ⟨a, b⟩ := d
  unfold mm2
  simp only
  split <;> split <;> omega
theorem mm2_snoc {r : Int} {D : List Pr} {i : Nat} {d : Pr} (g : D[i]? = some d) (h : GoodD r ((D.map mm2).take i)) : GoodD r ((D.map mm2).take (i + 1)) ↔ (d.1 ≠ d.2 ∧ 0 ≤ d.1 ∧ 0 ≤ d.2 ∧ d.1 < r ∧ d.2 < r) ∧ ¬ (d ∈ D.take i ∨ (d.2, d.1) ∈ D.take i) := by
  have gm : (D.map mm2)[i]? = some (mm2 d) := by rw [List.getElem?_map, g]; rfl
  rw [good_snoc gm h, mm2_ok]
  refine and_congr_right fun _ => not_congr ?_
  rw [← List.map_take, List.mem_map]
  constructor
  · rintro ⟨e, he, ee⟩
    rcases mm2_eq.mp ee with rfl | rfl
    · exact .inl he
    · exact .inr he
  · rintro (h | h)
    · exact ⟨d, h, rfl⟩
    · exact ⟨_, h, mm2_eq.mpr (.inr rfl)⟩
section
variable {P : Program} {w : World} {K : PySem.W.Frag} {mg : Str → Option Value} {base : Heap}
theorem scFb : FnScope ["number", "entries", "joined", "place", "a", "b"] ["number", "entries"] (defScope sFb) := ⟨rfl, rfl, rfl, by decide +kernel, rfl, by decide +kernel, by decide +kernel⟩
def spFb : Sp := fun vs H Q _ => ∃ (z : Int) (l : Addr) (us : List V) (D : List Pr), vs = [.int z, .ref l] ∧ H l = some (.lst us) ∧ PL H us D ∧ D.length ≤ 90 ∧ (¬ (1 ≤ z ∧ z ≤ 12) → Q (.int (-1)) H) ∧ (1 ≤ z → z ≤ 12 → (GoodD z (D.map mm2) → ∀ H', Same H H' → Q .non H') ∧ ∀ k : Nat, BadK z (D.map mm2) k → ∀ H', Same H H' → Q (.int k) H')
theorem ok_fb {f : Addr} {fd : FuncData} (F : Fun K "_law_first_bad" "_law_first_bad" sFb f fd) (T : Bi mg) : FnOk P w K mg base CX0 1 f fd ["number", "entries"] spFb := by
  refine F.ok scFb (fun vs H Q E h => ?_) (fun cdv A outer s H vs Q E hr h => ?_)
  · obtain ⟨z, l, us, D, rfl, _⟩ := h
    rfl
  · obtain ⟨z, l, us, D, rfl, hl, pl, dl, hN, hG⟩ := h
    refine ⟨_, (pss_cons (ps_if (PW.pt (pw_or (pt_cmpR op_lt (pv 0) pe_int (nomark _)) (pw_or1 (pt_cmpR op_gt (pv 0) pe_int (nomark _)))))
      (pss_one (ps_ret (pe_un un_neg pe_int)))
      pss_nil)
      (pss_cons (ps_set (i := 2) scFb.nd rfl (Or.inl rfl) (pe_lst pa_nil))
      (pss_cons (ps_for PassesOwn.never rfl (pi_range1 (by rfl) T.range (pa_cons (pe_callB call_len_seq (by rfl) T.len (by decide +kernel) (pa_cons (pv 1) pa_nil)) pa_nil)) (pg_name (i := 3) scFb.nd rfl (Or.inl rfl))
      (pss_cons (ps_asg (pe_ix ix_list (pv 1) (pv 3) (fun _ _ => rfl)) (pg_tup rfl (pgs_cons (pg_name (i := 4) scFb.nd rfl (Or.inl rfl)) (pgs_cons (pg_name (i := 5) scFb.nd rfl (Or.inl rfl)) pgs_nil))))
        (pss_cons (ps_if (PW.pt (pw_or (pt_cmpR op_eqI (pv 4) (pv 5) (nomark _)) (pw_or (pt_cmpR op_lt (pv 4) pe_int (nomark _)) (pw_or (pt_cmpR op_lt (pv 5) pe_int (nomark _)) (pw_or (pt_cmpR op_ge (pv 4) (pv 0) (nomark _)) (pw_or1 (pt_cmpR op_ge (pv 5) (pv 0) (nomark _))))))))
        (pss_one (ps_ret (pv 3)))
        pss_nil)
        (pss_cons (ps_if (PW.pt (pw_or (pt_cmpR (op_inD (Room.u65 hr)) (pe_tup (pa_cons (pv 4) (pa_cons (pv 5) pa_nil))) (pv 2) (by rfl)) (pw_or1 (pt_cmpR (op_inD (Room.u65 hr)) (pe_tup (pa_cons (pv 5) (pa_cons (pv 4) pa_nil))) (pv 2) (by rfl)))))
        (pss_one (ps_ret (pv 3)))
        pss_nil)
        (pss_one (ps_expr (pe_bm PySem.F.plainAttrs_list PySem.F.slot_list_append PySem.F.type_list_append mt_append (pv 2) (pa_cons (pe_tup (pa_cons (pv 4) (pa_cons (pv 5) pa_nil))) pa_nil))))))))
      (pss_one (ps_ret pe_non))))), ?_⟩
    walk_at "rd"
    by_cases h1 : z < 1
    · rw [if_pos h1]
      exact hN (by omega)
    rw [if_neg h1]
    by_cases h2 : 12 < z
    · rw [if_pos h2]
      exact hN (by omega)
    rw [if_neg h2]
    obtain ⟨qG, qB⟩ := hG (by omega) (by omega)
    refine ⟨by decide, fun p np => ?_⟩
    have ul : us.length = D.length := pl.len
    obtain ⟨Pv, hPv⟩ : ∃ Pv : Nat → L2.St → Hp → Prop, Pv = (fun i σ H' => ∃ (ws : List V) (v3 v4 v5 : Option V), σ = [some (.int z), some (.ref l), some (.ref p), v3, v4, v5] ∧ Same H H' ∧ H' p = some (.lst ws) ∧ PL H' ws (D.take i) ∧ GoodD z ((D.map mm2).take i)) := ⟨_, rfl⟩
    refine for_iterW ?_
    walk_at "rd"
    refine ⟨us, .inl (SqL.of (same_upd np _ _ hl)), by omega, by omega, ?_⟩
    refine for_range (lo := 0) (n := ((us.length : Nat) : Int).toNat) Pv (by rw [hPv]; exact ⟨[], none, none, none, rfl, same_upd np, upd_same, PL.nil0 _, List.nodup_nil, fun d hd => by cases hd⟩) (fun i σ H' hi pv => ?_) (fun σ H' pv => ?_)
    · rw [hPv] at pv
      obtain ⟨ws, v3, v4, v5, rfl, sm, hp, pw, gd0⟩ := pv
      have iD : i < D.length := by omega
      have gv : us[i]? = some (us[i]'(by omega)) := List.getElem?_eq_getElem (by omega)
      obtain ⟨d, gd, td, ev, htd⟩ := pl.get gv
      rw [ev] at gv
      have sn := mm2_snoc gd gd0
      have bad : ∀ Hx, Same H Hx → ¬ GoodD z ((D.map mm2).take (i + 1)) → Q (.int (0 + (i : Int))) Hx := fun Hx sx ng => by
        rw [Int.zero_add]
        exact qB i ⟨by rw [List.length_map]; exact iD, gd0, ng⟩ Hx sx
      walk_at "rd"
      refine ⟨_, SqL.of (sm _ _ hl), .ref td, at_of (j := i) (by omega) gv, td, rfl, [.int d.1, .int d.2], SqT.of (sm _ _ htd), rfl, .int d.1, [.int d.2], rfl, .int d.2, [], rfl, rfl, ?_⟩
      walk_at "rd"
      by_cases c1 : d.1 = d.2
      · rw [if_pos c1, if_pos trivial]
        exact bad _ sm fun g => (sn.mp g).1.1 c1
      rw [if_neg c1]
      by_cases c2 : d.1 < 0
      · rw [if_pos c2, if_pos trivial]
        exact bad _ sm fun g => absurd (sn.mp g).1.2.1 (by omega)
      rw [if_neg c2]
      by_cases c3 : d.2 < 0
      · rw [if_pos c3, if_pos trivial]
        exact bad _ sm fun g => absurd (sn.mp g).1.2.2.1 (by omega)
      rw [if_neg c3]
      by_cases c4 : z ≤ d.1
      · rw [if_pos c4, if_pos trivial]
        exact bad _ sm fun g => absurd (sn.mp g).1.2.2.2.1 (by omega)
      rw [if_neg c4]
      by_cases c5 : z ≤ d.2
      · rw [if_pos c5]
        exact bad _ sm fun g => absurd (sn.mp g).1.2.2.2.2 (by omega)
      rw [if_neg c5]
      refine ⟨by decide, fun t1 nt1 => ?_⟩
      have s1 := same_upd (o := HO.tup [V.int d.1, V.int d.2]) nt1
      have ht1 : IsP (upd H' t1 (HO.tup [V.int d.1, V.int d.2])) (.ref t1) d := ⟨t1, rfl, upd_same⟩
      generalize upd H' t1 (HO.tup [V.int d.1, V.int d.2]) = H1 at s1 ht1 ⊢
      refine ⟨_, _, dp_pair ht1, .lst (SqL.of (s1 _ _ hp)) (dp_all (pw.kt (KT.same s1))), rfl, shaped_list _, ?_⟩
      rw [any_eqv]
      refine ⟨_, rfl, ?_⟩
      by_cases c6 : d ∈ D.take i
      · rw [decide_eq_true c6, if_pos rfl, if_pos trivial]
        exact bad _ (sm.trans s1) fun g => (sn.mp g).2 (.inl c6)
      rw [decide_eq_false c6]
      refine iteF ?_
      refine ⟨by decide, fun t2 nt2 => ?_⟩
      have s2 := s1.trans (same_upd (o := HO.tup [V.int d.2, V.int d.1]) nt2)
      have ht2 : IsP (upd H1 t2 (HO.tup [V.int d.2, V.int d.1])) (.ref t2) (d.2, d.1) := ⟨t2, rfl, upd_same⟩
      generalize upd H1 t2 (HO.tup [V.int d.2, V.int d.1]) = H2 at s2 ht2 ⊢
      refine ⟨_, _, dp_pair ht2, .lst (SqL.of (s2 _ _ hp)) (dp_all (pw.kt (KT.same s2))), rfl, shaped_list _, ?_⟩
      rw [any_eqv]
      refine ⟨_, rfl, ?_⟩
      by_cases c7 : (d.2, d.1) ∈ D.take i
      · rw [decide_eq_true c7, if_pos rfl]
        exact bad _ (sm.trans s2) fun g => (sn.mp g).2 (.inr c7)
      rw [decide_eq_false c7]
      refine iteF ⟨.inl ⟨rfl, _, SqL.of (s2 _ _ hp)⟩, by decide, fun t3 nt3 => ?_⟩
      have s3 := s2.trans (same_upd (o := HO.tup [V.int d.1, V.int d.2]) nt3)
      have npt : p ≠ t3 := ne_of_none (s2 _ _ hp) nt3
      refine ⟨ws, s3 _ _ hp, len_big (by rw [pw.len, List.length_take]; omega), ?_⟩
      rw [hPv]
      refine ⟨ws ++ [.ref t3], _, _, _, rfl, same_ch (sm.trans s3) np, upd_same, ?_, sn.mpr ⟨⟨c1, by omega, by omega, by omega, by omega⟩, fun z => z.elim c6 c7⟩⟩
      rw [List.take_add_one, gd]
      refine PL.snoc ((pw.kt (KT.same s3)).kt (KT.lst (s3 _ _ hp))) ⟨t3, rfl, ?_⟩
      rw [upd_ne npt.symm, upd_same]
    · rw [hPv] at pv
      obtain ⟨ws, v3, v4, v5, rfl, sm, hp, pw, gd0⟩ := pv
      rw [show ((us.length : Nat) : Int).toNat = (D.map mm2).length by rw [List.length_map]; omega, List.take_length] at gd0
      walk_at "rd"
      exact qG gd0 H' sm
end
/-- the classes that the law asks an error for -/
structure Errs (K : PySem.W.Frag) (mg : Str → Option Value) (CT CE CB CR : Addr) : Prop where
  gE : mg "CallsError" = some (.ref CE)
  gT : mg "TooLarge" = some (.ref CB)
  gR : mg "Refused" = some (.ref CR)
  nV : mg "ValueError" = none
  isE : PySem.W.kitOne K (.ref CT) (.ref CE) = some true
  isV : PySem.W.kitOne K (.ref CT) (.type "ValueError") = some true
  noB : PySem.W.kitAny K (.ref CT) [.ref CR, .ref CB] = some false
def tAskE (K : PySem.W.Frag) (CT CE CB CR : Addr) : Addr → Value → Option Addr → TS := fun a cls d =>
  tAsg (tTup (tCons (tXf a cls d CT "place" (tVar 3)) (tCons (tCB (rIsX K a cls d) (tCons (tVar 3) (tCons (tC (.ref CE)) tNil))) (tCons (tCB (rIsX K a cls d) (tCons (tVar 3) (tCons (tC (.ty "ValueError")) tNil))) (tCons (tCB (rIsXT K a cls d) (tCons (tVar 3) (tCons (tTup (tCons (tC (.ref CR)) (tCons (tC (.ref CB)) tNil))) tNil))) tNil))))) (gName 2)
section
variable {P : Program} {w : World} {K : PySem.W.Frag} {mg : Str → Option Value} {base : Heap}
theorem scRef : FnScope ["number", "entries", "told", "e"] ["number", "entries"] (defScope sRef) := ⟨rfl, rfl, rfl, by decide +kernel, rfl, by decide +kernel, by decide +kernel⟩
def spRef (C : Addr) : Sp := fun vs H Q _ => ∃ (z : Int) (l : Addr) (us : List V) (D : List Pr), vs = [.int z, .ref l] ∧ H l = some (.lst us) ∧ PL H us D ∧ D.length ≤ 90 ∧ (¬ (1 ≤ z ∧ z ≤ 12) → ∀ (t : Addr) (H' : Hp), Same H H' → H' t = some (.tup [.int (-1), .bl true, .bl true, .bl false]) → Q (.ref t) H') ∧
  (1 ≤ z → z ≤ 12 → (GoodD z (D.map mm2) → ∀ H', Same H H' → Q .non H') ∧ ∀ k : Nat, BadK z (D.map mm2) k → ∀ (t : Addr) (H' : Hp), Same H H' → H' t = some (.tup [.int k, .bl true, .bl true, .bl false]) → Q (.ref t) H')
theorem ok_ref {f C CT CE CB CR fI fi : Addr} {fd fdi : FuncData} (F : Fun K "_law_refused" "_law_refused" sRef f fd) (T : Bi mg) (U : Hs K mg C) (M : Mk K C fi) (e : Err K mg "BadHouse" "place" CT fI) (es : Errs K mg CT CE CB CR) (GX : FnOk P w K mg base (L2.CX P w) 5 fi fdi ["self", "rooms", "doors"] (spHinitX C CT)) (bi : Binds K fdi ["self", "rooms", "doors"] []) : FnOk P w K mg base CX0 7 f fd ["number", "entries"] (spRef C) := by
  refine F.ok scRef (fun vs H Q E h => ?_) (fun cdv A outer s H vs Q E hr h => ?_)
  · obtain ⟨z, l, us, D, rfl, _⟩ := h
    rfl
  · obtain ⟨z, l, us, D, rfl, hl, pl, dl, hN, hG⟩ := h
    have hr1 : Room 6 _ := hr.mono (by decide)
    refine ⟨_, pss_cons (ps_set (i := 2) scRef.nd rfl (Or.inl rfl) pe_non)
      (pss_cons (ps_try_as (i := 3) (c := .ref CT) (tb := fun W => tDrop (tMakeS C (spHinitX C CT) (WE W) (tCons (tVar 0) (tCons (tVar 1) tNil)))) (ts := tAskE K CT CE CB CR) (Wout := fun _ _ _ _ => False) rfl rfl scRef.nd rfl rfl ⟨rfl, by decide, Or.inl e.gC⟩ takes0
          (fun W pn xe tk _ => pss_one (ps_expr (by exact (pe_makeS M GX hr1 rfl U.mgC bi (fun σ => passAt tk σ) (by exact (pa_cons (pv 0) (pa_cons (pv 1) pa_nil)))))))
          (fun a oe cls d pn hz hf => pss_one (ps_set (i := 2) scRef.nd rfl (Or.inl rfl) (by
            exact (pe_tup (pa_cons (pe_xf e.xf e.noF hz hf (pv 3)) (pa_cons (pe_callB (call_isX hz hf) (by rfl) T.isinstance (by decide +kernel) (pa_cons (pv 3) (pa_cons (pe_glob (v := .ref CE) (by rfl) es.gE rfl) pa_nil))) (pa_cons (pe_callB (call_isX hz hf) (by rfl) T.isinstance (by decide +kernel) (pa_cons (pv 3) (pa_cons (pe_bltn (v := .ty "ValueError") (by rfl) es.nV (by decide +kernel) rfl) pa_nil))) (pa_cons (pe_callB (call_isXT hz hf) (by rfl) T.isinstance (by decide +kernel) (pa_cons (pv 3) (pa_cons (pe_tup (pa_cons (pe_glob (v := .ref CR) (by rfl) es.gR rfl) (pa_cons (pe_glob (v := .ref CB) (by rfl) es.gT rfl) pa_nil))) pa_nil))) pa_nil)))))))))
      (pss_one (ps_ret (pv 2)))), ?_⟩
    walk_at "rd"
    simp only [tMakeS]
    walk_at "rd"
    intro x dx nx ndx nxd
    have s0 : Same H (upd (upd H dx (.own x)) x (.ins C dx [])) := fun b o e => by
      rw [upd_ne (ne_of_none e nx), upd_ne (ne_of_none e ndx)]
      exact e
    have keep : ∀ {H' : Hp}, (∀ b o, upd (upd H dx (.own x)) x (.ins C dx []) b = some o → b ≠ x → H' b = some o) → Same H H' := fun {H'} k b o e => k b o (s0 b o e) (ne_of_none e nx)
    have out : ∀ (k : Int), (∀ (t : Addr) (H' : Hp), Same H H' → H' t = some (.tup [.int k, .bl true, .bl true, .bl false]) → Q (.ref t) H') → BadOutP (WE (wAs K (Value.ref CT) 3 (tAskE K CT CE CB CR) (fun x x_1 x_2 x_3 => False) { nx := tRet (tVar 2) { nx := fun x H' => Q V.non H', rt := Q }, rt := Q }) [some (V.int z), some (V.ref l), some V.non, none]) (upd (upd H dx (.own x)) x (.ins C dx [])) x CT k := fun k ret d H' kp hd => by
      have s1 := keep kp
      refine ⟨true, e.te, fun _ a na => ?_, fun z => nomatch z⟩
      unfold tAskE
      have isx : ∀ {Hx : Hp} {Q' : VK} {c : V} {cv : Value}, Hx d = some (.xd [("place", V.int k)]) → (∀ u, RelV c u → u = cv) → PySem.W.kitOne K (.ref CT) cv = some true → Q' (.bl true) Hx → rIsX K a (.ref CT) (some d) [.ref a, c] Hx Q' := fun {Hx Q' c cv} h1 h2 h3 q => ⟨CT, d, _, c, cv, true, rfl, rfl, rfl, h1, ⟨_, _, _, _, e⟩, h2, h3, q⟩
      refine ⟨_, rfl, rfl, rfl, d, _, V.int k, rfl, hd, (by simp [List.lookup]), ?_⟩
      walk_at "rd"
      refine isx (c := .ref CE) (cv := .ref CE) hd (fun u h => h) es.isE ?_
      refine isx (c := .ty "ValueError") (cv := .type "ValueError") hd (fun u h => h) es.isV ⟨by decide, fun tp ntp => ?_⟩
      have t1 := same_upd (o := HO.tup [V.ref CR, V.ref CB]) ntp
      refine ⟨CT, d, tp, _, CR, CB, false, rfl, rfl, rfl, t1 _ _ hd, ⟨_, _, _, _, e⟩, upd_same, es.noB, by decide, fun t nt => ?_⟩
      exact ret t _ (s1.trans (t1.trans (same_upd nt))) upd_same
    refine ⟨x, dx, l, z, us, D, D.map mm2, rfl, upd_same, s0 _ _ hl, pl.kt (KT.same s0), rfl, by omega, fun n12 => out _ (hN n12), fun n en n1 n12 => ?_⟩
    obtain ⟨qG, qB⟩ := hG (by omega) (by omega)
    exact ⟨fun k bk => out _ (qB k bk), fun good D' own H' _ _ kp _ => ⟨rfl, qG good H' (keep kp)⟩⟩
end

abbrev sIm : Stmt := topS 25
abbrev sMr : Stmt := topS 27
abbrev sMd : Stmt := topS 28
theorem use_sortP {K : PySem.W.Frag} {H : Hp} {p : Addr} {us : List V} {D : List Pr} {Q : VK} (hp : H p = some (.lst us)) (pl : PL H us D) (nd : D.Nodup) (q : ∀ (G : List Pr) (ws : List V) (t : Addr) (H' : Hp), Asc G → G.Perm D → Same H H' → H t = none → H' t = some (.lst ws) → PL H' ws G → Q (.ref t) H') : rSortedPO K [V.ref p] H Q := by
  obtain ⟨kD, kI⟩ := pl.toK
  refine ⟨p, us, kH H, rfl, SqL.of hp, kI, fun ys t so st nt => ?_⟩
  have pm := st.perm
  have pmD : (ys.map (kH H)).Perm D := by
    rw [kD]
    exact pm.map _
  have hy : PL H ys (ys.map (kH H)) := PL.ofK fun v hv => kI v (pm.mem_iff.mp hv)
  exact q _ ys t _ (srtd_asc (pmD.nodup_iff.mpr nd) so) pmD (same_upd nt) nt upd_same (hy.kt (KT.new nt))
def rowQ (n a : Nat) : List Pr := (List.range (n - 1 - a)).map fun j : Nat => (((a : Int), (a : Int) + 1 + (j : Int)) : Pr)
def mdD (k n i : Nat) : List Pr := if k = 3 then (List.range i).flatMap (rowQ n) else (List.range (min i (n - 1))).map fun a : Nat => (((a : Int), (a : Int) + 1) : Pr)
theorem mdD_zero {k n : Nat} : mdD k n 0 = [] := by
  unfold mdD
  split
  · rfl
  · rw [Nat.zero_min]
    rfl
theorem mdD_len (k : Nat) {n i : Nat} (h : n ≤ 12) (hi : i ≤ n) : (mdD k n i).length ≤ 66 := by
  by_cases c : k = 3
  · subst c
    have : ∀ n : Nat, n < 13 → ∀ i : Nat, i < 13 → i ≤ n → (mdD 3 n i).length ≤ 66 := by decide +kernel
    exact this n (by omega) i (by omega) hi
  · unfold mdD
    rw [if_neg c, List.length_map, List.length_range]
    omega
theorem mdD_three (n i : Nat) : mdD 3 n (i + 1) = mdD 3 n i ++ (List.range (n - 1 - i)).map fun j : Nat => (((i : Int), (i : Int) + 1 + (j : Int)) : Pr) := by
  unfold mdD
  rw [if_pos rfl, if_pos rfl, List.range_succ, List.flatMap_append]
  congr 1
  show rowQ n i ++ [] = _
  rw [List.append_nil]
  rfl
theorem mdD_more {k n i : Nat} (hk : k ≠ 3) (h : i + 1 < n) : mdD k n (i + 1) = mdD k n i ++ [((i : Int), (i : Int) + 1)] := by
  unfold mdD
  rw [if_neg hk, if_neg hk, show min (i + 1) (n - 1) = i + 1 by omega, show min i (n - 1) = i by omega, List.range_succ, List.map_append]
  rfl
theorem mdD_stay {k n i : Nat} (hk : k ≠ 3) (h : ¬ i + 1 < n) : mdD k n (i + 1) = mdD k n i := by
  unfold mdD
  rw [if_neg hk, if_neg hk, show min (i + 1) (n - 1) = min i (n - 1) by omega]
theorem mdD_cor {k n : Nat} (hk : k ≠ 3) (h : 1 ≤ n) : mdD k n n = cdL n := by
  unfold mdD cdL
  rw [if_neg hk, show min n (n - 1) = n - 1 by omega]
theorem mdD_full {n : Nat} (h : n ≤ 12) : (mdD 3 n n).Perm (mkD 3 n) := by
  have : ∀ n : Nat, n < 13 → (mdD 3 n n).isPerm (mkD 3 n) = true := by decide +kernel
  exact List.isPerm_iff.mp (this n (by omega))
instance lt2dec (p q : Pr) : Decidable (lt2 p q) := by unfold lt2; infer_instance
theorem star_asc {n : Nat} (h : n ≤ 12) : Asc (mkD 2 n) := by
  have : ∀ n : Nat, n < 13 → List.Pairwise lt2 (mkD 2 n) := by decide +kernel
  exact this n (by omega)
section
variable {P : Program} {w : World} {K : PySem.W.Frag} {mg : Str → Option Value} {base : Heap}
theorem scIm : FnScope ["number", "entries", "house", "doors", "a", "b"] ["number", "entries"] (defScope sIm) := ⟨rfl, rfl, rfl, by decide +kernel, rfl, by decide +kernel, by decide +kernel⟩
def spIm : Sp := fun vs H Q _ => ∃ (n : Nat) (l : Addr) (us : List V) (D : List Pr), vs = [.int n, .ref l] ∧ H l = some (.lst us) ∧ PL H us D ∧ 1 ≤ n ∧ n ≤ 12 ∧ GoodD n (D.map mm2) ∧ ∀ H', Same H H' → Q (.bl true) H'
theorem ok_im {f C fi fo f7 : Addr} {fd fdi fdo fd7 : FuncData} (F : Fun K "_law_is_made" "_law_is_made" sIm f fd) (T : Bi mg) (U : Hs K mg C) (M : Mk K C fi) (Gi : FnOk P w K mg base CX0 2 fi fdi ["self", "rooms", "doors"] (spHinit C)) (bi : Binds K fdi ["self", "rooms", "doors"] []) (m_doors : Md P w K mg base C "doors" ["self"] 1 (spHdoors C) fo fdo) (d__law_same : Df P w K mg base "_law_same" ["got", "due"] 3 (spSame 2) f7 fd7) : FnOk P w K mg base CX0 4 f fd ["number", "entries"] spIm := by
  refine F.ok scIm (fun vs H Q E h => ?_) (fun cdv A outer s H vs Q E hr h => ?_)
  · obtain ⟨n, l, us, D, rfl, _⟩ := h
    rfl
  · obtain ⟨n, l, us, D, rfl, hl, pl, n1, n12, gd, q⟩ := h
    refine ⟨_, (pss_cons (ps_set (i := 2) scIm.nd rfl (Or.inl rfl) (pe_make M Gi (hr.mono (by decide)) (by rfl) U.mgC bi .nil pass0 (pa_cons (pv 0) (pa_cons (pe_callTy call_list_of (by rfl) T.list (by decide +kernel) (pa_cons (pv 1) pa_nil)) pa_nil))))
      (pss_cons (ps_set (i := 3) scIm.nd rfl (Or.inl rfl) (pe_callB cr_sortedPO (by rfl) T.sorted (by decide +kernel) (pa_cons (pe_lc (own := [("a", 4), ("b", 5)]) (g := gTup K 2 (gCons (gName 4) (gCons (gName 5) gNil))) (by rfl) scIm.nd (pi_list (pv 1)) (blkOk_by (N := ["number", "entries", "house", "doors", "a", "b"]) (sc := defScope sIm) (by decide +kernel)) (fun _ _ _ _ _ => pg_tup rfl (pgs_cons (pg_name (i := 4) scIm.nd rfl (Or.inl rfl)) (pgs_cons (pg_name (i := 5) scIm.nd rfl (Or.inl rfl)) pgs_nil))) (fun _ _ _ _ _ => pts_nil) (fun _ _ _ _ _ => (pe_tup (pa_cons (pe_callB (call_min2 rfl) (by rfl) T.min (by decide +kernel) (pa_cons (pv 4) (pa_cons (pv 5) pa_nil))) (pa_cons (pe_callB (call_max2 rfl) (by rfl) T.max (by decide +kernel) (pa_cons (pv 4) (pa_cons (pv 5) pa_nil))) pa_nil))))) pa_nil)))
      (pss_one (ps_ret (pe_and (pe_call d__law_same.ok (hr.mono (by decide)) (by rfl) d__law_same.at_ d__law_same.kp d__law_same.b .nil pass0 (pa_cons (pe_fld (pv 2) rfl) (pa_cons (pv 0) pa_nil))) (pe_one (pe_call d__law_same.ok (hr.mono (by decide)) (by rfl) d__law_same.at_ d__law_same.kp d__law_same.b .nil pass0 (pa_cons (pe_meth0 (pv 2) U.cl m_doors.m m_doors.ok (hr.mono (by decide)) m_doors.b .nil pass0) (pa_cons (pv 3) pa_nil))))))))), ?_⟩
    walk_at "rd"
    refine ⟨us, .inl (SqL.of hl), fun l2 nl2 x dx nx ndx _ => ?_⟩
    have s1 := same_upd (o := HO.lst us) nl2
    have pl1 := pl.kt (KT.same s1)
    refine use_init2 nx ndx upd_same pl1 gd n1 n12 fun D' own H2 mem hh s2 _ => ⟨rfl, ?_⟩
    have s12 := s1.trans s2
    have hl2 := s12 _ _ hl
    have pl2 := pl.kt (KT.same s12)
    have ul : us.length = D.length := pl.len
    have dlen : D.length ≤ 66 := by
      have e := drs_len' n12 gd.1 gd.2
      rw [List.length_map] at e
      exact e
    refine ⟨_, rfl, l, rfl, ⟨_, SqL.of hl2⟩, fun c nc => ?_⟩
    obtain ⟨Pv, hPv⟩ : ∃ Pv : Nat → Hp → Prop, Pv = (fun i H' => ∃ ws, Same H2 H' ∧ H' c = some (.lst ws) ∧ PL H' ws ((D.take i).map mm2)) := ⟨_, rfl⟩
    refine lc_list (K := K) (a := l) (xs := us) Pv (by rw [hPv]; exact ⟨[], same_upd nc, upd_same, PL.nil0 _⟩) (fun i H' _ pv => by rw [hPv] at pv; obtain ⟨_, sm, _⟩ := pv; exact SqL.of (sm _ _ hl2)) (fun i v H' gv pv => ?_) (fun H' pv => ?_)
    · rw [hPv] at pv
      obtain ⟨ws, sm, hc, pw⟩ := pv
      obtain ⟨d, gd2, td, rfl, htd⟩ := pl2.get gv
      have hid : i < D.length := (List.getElem?_eq_some_iff.mp gd2).1
      have htd1 := sm _ _ htd
      have lw : ws.length ≤ 66 := by
        rw [pw.len, List.length_map, List.length_take]
        omega
      simp only [wipe]
      walk_at "rd"
      refine ⟨_, SqT.of htd1, rfl, _, _, rfl, _, _, rfl, rfl, ?_⟩
      walk_at "rd"
      refine ⟨(by show 2 ≤ sizeLine; decide), fun t nt => ?_⟩
      have nct : c ≠ t := ne_of_none hc nt
      refine ⟨ws, by rw [upd_ne nct]; exact hc, len_big (by omega), ?_⟩
      rw [hPv]
      refine ⟨ws ++ [.ref t], same_ch (sm.trans (same_upd nt)) nc, upd_same, ?_⟩
      rw [List.take_add_one, gd2, List.map_append]
      refine PL.snoc ((pw.kt (KT.new nt)).kt (KT.lst (by rw [upd_ne nct]; exact hc))) ⟨t, rfl, ?_⟩
      rw [upd_ne nct.symm, upd_same]
      rfl
    · rw [hPv] at pv
      obtain ⟨ws, s3, hc, pw⟩ := pv
      rw [ul, List.take_length] at pw
      refine use_sortP hc pw gd.1 fun G wg t H4 asc pm s4 nt ht pg => ?_
      have eG : D' = G := asc_uniq hh.ok.asc asc fun d => (mem d).trans pm.mem_iff.symm
      subst eG
      have s34 := s3.trans s4
      have hh4 := hh.same s34
      obtain ⟨dx4, l0, m0, ls, nss, q1, _⟩ := hh4.ex
      refine ⟨C, dx4, _, q1, U.cl, U.nR, .int n, hf_rooms _ _ _, same_ok (Sm.flat rfl) ⟨true, rfl, iteT ?_⟩⟩
      refine ⟨dx4, _, q1, hf_no _ _ _ (by decide +kernel) (by decide +kernel) (by decide +kernel), x, n, D', own, rfl, hh4, fun lsr qd plr nqd => ?_⟩
      have t3 := same_upd (o := HO.lst lsr) nqd
      have dl' := hh.ok.len n12
      exact same_ok (PL.sm upd_same (t3 _ _ ht) (plr.kt (KT.same t3)) (pg.kt (KT.same t3)) (by omega) 0) (q _ (s12.trans (s34.trans t3)))
theorem scMr : FnScope ["kind", "number", "told", "e"] ["kind", "number"] (defScope sMr) := ⟨rfl, rfl, rfl, by decide +kernel, rfl, by decide +kernel, by decide +kernel⟩
def spMr : Sp := fun vs H Q _ => ∃ (k : Nat) (r : Int), vs = [.int k, .int r] ∧ k ≤ 3 ∧ ¬ (1 ≤ r ∧ r ≤ 12) ∧ ∀ (t : Addr) (H' : Hp), Same H H' → H' t = some (.tup [.int (-1), .bl true]) → Q (.ref t) H'
def tAskM (K : PySem.W.Frag) (CT CE : Addr) : Addr → Value → Option Addr → TS := fun a cls d =>
  tAsg (tTup (tCons (tXf a cls d CT "place" (tVar 3)) (tCons (tCB (rIsX K a cls d) (tCons (tVar 3) (tCons (tC (.ref CE)) tNil))) tNil))) (gName 2)
theorem ok_mr {f C CT CE CB CR fI fm : Addr} {fd fdm : FuncData} (F : Fun K "_law_maker_refused" "_law_maker_refused" sMr f fd) (T : Bi mg) (e : Err K mg "BadHouse" "place" CT fI) (es : Errs K mg CT CE CB CR) (GM : FnOk P w K mg base (L2.CX P w) 6 fm fdm ["kind", "number"] (spMade C CT)) (atM : mg "_law_made" = some (.ref fm)) (kM : PySem.W.keepIn K (.ref fm) = true) (bM : Binds K fdm ["kind", "number"] []) : FnOk P w K mg base CX0 8 f fd ["kind", "number"] spMr := by
  refine F.ok scMr (fun vs H Q E h => ?_) (fun cdv A outer s H vs Q E hr h => ?_)
  · obtain ⟨k, r, rfl, _⟩ := h
    rfl
  · obtain ⟨k, r, rfl, k3, n12, ret⟩ := h
    have hr1 : Room 6 _ := hr.mono (by decide)
    refine ⟨_, pss_cons (ps_set (i := 2) scMr.nd rfl (Or.inl rfl) pe_non)
      (pss_cons (ps_try_as (i := 3) (c := .ref CT) (tb := fun W => tDrop (tCallS (spMade C CT) (WE W) (tCons (tVar 0) (tCons (tVar 1) tNil)))) (ts := tAskM K CT CE) (Wout := fun _ _ _ _ => False) rfl rfl scMr.nd rfl rfl ⟨rfl, by decide, Or.inl e.gC⟩ takes0
          (fun W pn xe tk _ => pss_one (ps_expr (by exact (pe_callS GM hr1 rfl atM kM bM (fun σ => passAt tk σ) (by exact (pa_cons (pv 0) (pa_cons (pv 1) pa_nil)))))))
          (fun a oe cls d pn hz hf => pss_one (ps_set (i := 2) scMr.nd rfl (Or.inl rfl) (by
            exact (pe_tup (pa_cons (pe_xf e.xf e.noF hz hf (pv 3)) (pa_cons (pe_callB (call_isX hz hf) (by rfl) T.isinstance (by decide +kernel) (pa_cons (pv 3) (pa_cons (pe_glob (v := .ref CE) (by rfl) es.gE rfl) pa_nil))) pa_nil)))))))
      (pss_one (ps_ret (pv 2)))), ?_⟩
    walk_at "rd"
    simp only [tCallS]
    walk_at "rd"
    refine ⟨k, r, k3, rfl, fun _ d H' s1 hd => ?_, fun n en n1 n2 => absurd (⟨by omega, by omega⟩ : 1 ≤ r ∧ r ≤ 12) n12⟩
    refine ⟨true, e.te, fun _ a na => ?_, fun z => nomatch z⟩
    unfold tAskM
    have isx : ∀ {Hx : Hp} {Q' : VK} {c : V} {cv : Value}, Hx d = some (.xd [("place", V.int (-1))]) → (∀ u, RelV c u → u = cv) → PySem.W.kitOne K (.ref CT) cv = some true → Q' (.bl true) Hx → rIsX K a (.ref CT) (some d) [.ref a, c] Hx Q' := fun {Hx Q' c cv} h1 h2 h3 q => ⟨CT, d, _, c, cv, true, rfl, rfl, rfl, h1, ⟨_, _, _, _, e⟩, h2, h3, q⟩
    refine ⟨_, rfl, rfl, rfl, d, _, V.int (-1), rfl, hd, (by simp [List.lookup]), ?_⟩
    walk_at "rd"
    refine isx (c := .ref CE) (cv := .ref CE) hd (fun u h => h) es.isE ⟨by decide, fun t nt => ?_⟩
    exact ret t _ (s1.trans (same_upd nt)) upd_same
theorem scMd : FnScope ["kind", "number", "doors", "a", "room", "b"] ["kind", "number"] (defScope sMd) := ⟨rfl, rfl, rfl, by decide +kernel, rfl, by decide +kernel, by decide +kernel⟩
def spMd (K : PySem.W.Frag) : Sp := fun vs H Q _ => ∃ (k n : Nat), vs = [.int k, .int n] ∧ k ≤ 3 ∧ 1 ≤ n ∧ n ≤ 12 ∧ ∀ (G : List Pr) (ws : List V) (t : Addr) (H' : Hp), Asc G → (∀ d, d ∈ G ↔ d ∈ mkD k n) → Same H H' → H t = none → H' t = some (.lst ws) → PL H' ws G → Q (.ref t) H'
theorem ok_md {f : Addr} {fd : FuncData} (F : Fun K "_law_maker_doors" "_law_maker_doors" sMd f fd) (T : Bi mg) : FnOk P w K mg base CX0 1 f fd ["kind", "number"] (spMd K) := by
  refine F.ok scMd (fun vs H Q E h => ?_) (fun cdv A outer s H vs Q E hr h => ?_)
  · obtain ⟨k, n, rfl, _⟩ := h
    rfl
  · obtain ⟨k, n, rfl, k3, n1, n12, q⟩ := h
    refine ⟨_, (pss_cons (ps_if (pt_cmpR op_eqI (pv 0) pe_int (nomark _))
      (pss_one (ps_ret (pe_lc (own := [("room", 4)]) (by rfl) scMd.nd (pi_range2 (by rfl) T.range (pa_cons pe_int (pa_cons (pv 1) pa_nil))) (blkOk_by (N := ["kind", "number", "doors", "a", "room", "b"]) (sc := defScope sMd) (by decide +kernel)) (fun _ _ _ _ _ => pg_name (i := 4) scMd.nd rfl (Or.inl rfl)) (fun _ _ _ _ _ => pts_nil) (fun _ _ _ _ _ => (pe_tup (pa_cons pe_int (pa_cons (pv 4) pa_nil)))))))
      pss_nil)
      (pss_cons (ps_set (i := 2) scMd.nd rfl (Or.inl rfl) (pe_lst pa_nil))
      (pss_cons (ps_for PassesOwn.never rfl (pi_range1 (by rfl) T.range (pa_cons (pv 1) pa_nil)) (pg_name (i := 3) scMd.nd rfl (Or.inr rfl))
      (pss_one (ps_if (pt_cmpR op_eqI (pv 0) pe_int (nomark _))
        (pss_one (ps_expr (pe_bm PySem.F.plainAttrs_list PySem.F.slot_list_extend PySem.F.type_list_extend mt_extend (pv 2) (pa_cons (pe_lc (own := [("b", 5)]) (by rfl) scMd.nd (pi_range2 (by rfl) T.range (pa_cons (pe_op op_add (pv 3) pe_int) (pa_cons (pv 1) pa_nil))) (blkOk_by (N := ["kind", "number", "doors", "a", "room", "b"]) (sc := defScope sMd) (by decide +kernel)) (fun _ _ _ _ _ => pg_name (i := 5) scMd.nd rfl (Or.inl rfl)) (fun _ _ _ _ _ => pts_nil) (fun _ _ _ _ _ => (pe_tup (pa_cons (pv 3) (pa_cons (pv 5) pa_nil))))) pa_nil))))
        (pss_one (ps_if (pt_cmpR op_lt (pe_op op_add (pv 3) pe_int) (pv 1) (nomark _))
          (pss_one (ps_expr (pe_bm PySem.F.plainAttrs_list PySem.F.slot_list_append PySem.F.type_list_append mt_append (pv 2) (pa_cons (pe_tup (pa_cons (pv 3) (pa_cons (pe_op op_add (pv 3) pe_int) pa_nil))) pa_nil))))
          pss_nil)))))
      (pss_cons (ps_if (PW.pt (pw_and (pt_cmpR op_eqI (pv 0) pe_int (nomark _)) (pw_and1 (pt_cmpR op_ge (pv 1) pe_int (nomark _)))))
      (pss_one (ps_expr (pe_bm PySem.F.plainAttrs_list PySem.F.slot_list_append PySem.F.type_list_append mt_append (pv 2) (pa_cons (pe_tup (pa_cons pe_int (pa_cons (pe_op op_sub (pv 1) pe_int) pa_nil))) pa_nil))))
      pss_nil)
      (pss_one (ps_ret (pe_callB cr_sortedPO (by rfl) T.sorted (by decide +kernel) (pa_cons (pv 2) pa_nil)))))))), ?_⟩
    walk_at "rd"
    by_cases k2 : (k : Int) = 2
    · rw [if_pos k2]
      have ek : k = 2 := by omega
      subst ek
      refine ⟨_, rfl, 1, n, rfl, ⟨by omega, by omega, by omega, by omega⟩, fun c nc => ?_⟩
      obtain ⟨Pv, hPv⟩ : ∃ Pv : Nat → Hp → Prop, Pv = (fun j Hx => ∃ ws, Same H Hx ∧ Hx c = some (.lst ws) ∧ PL Hx ws ((List.range j).map fun i : Nat => (((0 : Int), (1 : Int) + i) : Pr))) := ⟨_, rfl⟩
      refine lc_range (lo := 1) (n := ((n : Int) - 1).toNat) Pv (by rw [hPv]; exact ⟨[], same_upd nc, upd_same, PL.nil0 _⟩) (fun j Hx hj pv => ?_) (fun Hx pv => ?_)
      · rw [hPv] at pv
        obtain ⟨ws, sx, hc, pw⟩ := pv
        have wl : ws.length = j := by rw [pw.len, List.length_map, List.length_range]
        simp only [wipe]
        walk_at "rd"
        refine ⟨(by show 2 ≤ sizeLine; decide), fun t nt => ?_⟩
        have nct : c ≠ t := ne_of_none hc nt
        refine ⟨ws, by rw [upd_ne nct]; exact hc, len_big (by omega), ?_⟩
        rw [hPv]
        refine ⟨ws ++ [.ref t], same_ch (sx.trans (same_upd nt)) nc, upd_same, ?_⟩
        rw [List.range_succ, List.map_append]
        refine PL.snoc ((pw.kt (KT.new nt)).kt (KT.lst (by rw [upd_ne nct]; exact hc))) ⟨t, rfl, ?_⟩
        rw [upd_ne nct.symm, upd_same]
      · rw [hPv] at pv
        obtain ⟨ws, sx, hc, pw⟩ := pv
        rw [show ((n : Int) - 1).toNat = n - 1 by omega] at pw
        exact q (mkD 2 n) ws c Hx (star_asc n12) (fun d => Iff.rfl) sx nc hc pw
    rw [if_neg k2]
    refine ⟨by decide, fun p np => ?_⟩
    have s0 := same_upd (o := HO.lst []) np
    obtain ⟨Pv, hPv⟩ : ∃ Pv : Nat → L2.St → Hp → Prop, Pv = (fun i σ H' => ∃ (ws : List V) (v3 : Option V), σ = [some (.int k), some (.int n), some (.ref p), v3, none, none] ∧ Same H H' ∧ H' p = some (.lst ws) ∧ PL H' ws (mdD k n i)) := ⟨_, rfl⟩
    refine ⟨_, rfl, n, rfl, by omega, by omega, for_range (lo := 0) (n := (n : Int).toNat) Pv (by rw [hPv]; exact ⟨[], none, rfl, s0, upd_same, by rw [mdD_zero]; exact PL.nil0 _⟩) (fun i σ H' hi pv => ?_) (fun σ H' pv => ?_)⟩
    · have nxt : ∀ ws v3 H', Same H H' → H' p = some (.lst ws) → PL H' ws (mdD k n (i + 1)) → Pv (i + 1) [some (.int k), some (.int n), some (.ref p), v3, none, none] H' := fun ws v3 H' h1 h2 h3 => by
        rw [hPv]
        exact ⟨ws, v3, rfl, h1, h2, h3⟩
      rw [hPv] at pv
      obtain ⟨ws, v3, rfl, sm, hp, pw⟩ := pv
      have hin : i < n := by omega
      have wl : ws.length ≤ 66 := by rw [pw.len]; exact mdD_len k n12 (by omega)
      walk_at "rd"
      by_cases k3' : (k : Int) = 3
      · rw [if_pos k3']
        have ek : k = 3 := by omega
        subst ek
        refine ⟨.inl ⟨rfl, _, SqL.of hp⟩, _, rfl, 0 + (i : Int), 1, rfl, rfl, _, rfl, 0 + (i : Int) + 1, (n : Int), rfl, ⟨by omega, by omega, by omega, by omega⟩, fun c nc => ?_⟩
        have en : ((n : Int) - (0 + (i : Int) + 1)).toNat = n - 1 - i := by omega
        obtain ⟨Pw, hPw⟩ : ∃ Pw : Nat → Hp → Prop, Pw = (fun j H2 => ∃ zs, Same H' H2 ∧ H2 c = some (.lst zs) ∧ PL H2 zs ((List.range j).map fun j : Nat => (((i : Int), (i : Int) + 1 + (j : Int)) : Pr))) := ⟨_, rfl⟩
        refine lc_range (lo := 0 + (i : Int) + 1) (n := ((n : Int) - (0 + (i : Int) + 1)).toNat) Pw (by rw [hPw]; exact ⟨[], same_upd nc, upd_same, PL.nil0 _⟩) (fun j H2 hj pv => ?_) (fun H2 pv => ?_)
        · rw [hPw] at pv
          obtain ⟨zs, s2, hc, pz⟩ := pv
          have zl : zs.length = j := by rw [pz.len, List.length_map, List.length_range]
          simp only [wipe]
          walk_at "rd"
          refine ⟨by decide, fun t nt => ?_⟩
          have nct : c ≠ t := ne_of_none hc nt
          refine ⟨zs, by rw [upd_ne nct]; exact hc, len_big (by omega), ?_⟩
          rw [hPw]
          refine ⟨zs ++ [.ref t], same_ch (s2.trans (same_upd nt)) nc, upd_same, ?_⟩
          rw [List.range_succ, List.map_append]
          refine PL.snoc ((pz.kt (KT.new nt)).kt (KT.lst (by rw [upd_ne nct]; exact hc))) ⟨t, rfl, ?_⟩
          rw [upd_ne nct.symm, upd_same, Int.zero_add]
        · rw [hPw] at pv
          obtain ⟨zs, s2, hc, pz⟩ := pv
          rw [en] at pz
          have hp2 := s2 _ _ hp
          have e := mdD_three n i
          have tl : ws.length + zs.length ≤ 66 := by
            have h1 := mdD_len 3 n12 (show i + 1 ≤ n by omega)
            rw [e, List.length_append, ← pw.len] at h1
            have h2 := pz.len
            show ws.length + zs.length ≤ 66
            rw [h2]
            exact h1
          refine ⟨c, rfl, ws, hp2, zs, hc, Nat.le_of_lt (len_big (by omega)), nxt (ws ++ zs) _ _ (same_ch (sm.trans s2) np) upd_same ?_⟩
          rw [e]
          exact PL.kt (paired_app (pw.kt (KT.same s2)) pz) (KT.lst hp2)
      · rw [if_neg k3']
        by_cases ci : (0 : Int) + (i : Int) + 1 < (n : Int)
        · rw [if_pos ci]
          refine ⟨.inl ⟨rfl, _, SqL.of hp⟩, by decide, fun t nt => ?_⟩
          have npt : p ≠ t := ne_of_none hp nt
          refine ⟨ws, by rw [upd_ne npt]; exact hp, len_big (by omega), nxt (ws ++ [.ref t]) _ _ (same_ch (sm.trans (same_upd nt)) np) upd_same ?_⟩
          rw [mdD_more (by omega) (by omega)]
          refine PL.snoc ((pw.kt (KT.new nt)).kt (KT.lst (by rw [upd_ne npt]; exact hp))) ⟨t, rfl, ?_⟩
          rw [upd_ne npt.symm, upd_same, Int.zero_add]
        · rw [if_neg ci]
          refine nxt ws _ _ sm hp ?_
          rw [mdD_stay (by omega) (by omega)]
          exact pw
    · rw [hPv] at pv
      obtain ⟨ws, v3, rfl, sm, hp, pw⟩ := pv
      rw [show (n : Int).toNat = n by omega] at pw
      have wl : ws.length ≤ 66 := by rw [pw.len]; exact mdD_len k n12 (Nat.le_refl _)
      walk_at "rd"
      have fin : ∀ (us : List V) (D : List Pr) (Hx : Hp), Same H Hx → Hx p = some (.lst us) → PL Hx us D → D.Perm (mkD k n) → rSortedPO K [V.ref p] Hx Q := fun us D Hx sx hx px pm => by
        refine use_sortP hx px (pm.nodup_iff.mpr (mkD_good k3 n12).1) fun G wg t H4 asc pmG s4 nt ht pg => ?_
        exact q G wg t H4 asc (fun d => (pmG.trans pm).mem_iff) (sx.trans s4) (sx.free nt) ht pg
      by_cases k1 : (k : Int) = 1
      · rw [if_pos k1]
        have ek : k = 1 := by omega
        subst ek
        by_cases c3 : (3 : Int) ≤ (n : Int)
        · rw [if_pos c3]
          refine ⟨.inl ⟨rfl, _, SqL.of hp⟩, by decide, fun t nt => ?_⟩
          have npt : p ≠ t := ne_of_none hp nt
          refine ⟨ws, by rw [upd_ne npt]; exact hp, len_big (by omega), ?_⟩
          refine fin (ws ++ [.ref t]) (mdD 1 n n ++ [((0 : Int), (n : Int) - 1)]) _ (same_ch (sm.trans (same_upd nt)) np) upd_same ?_ ?_
          · refine PL.snoc ((pw.kt (KT.new nt)).kt (KT.lst (by rw [upd_ne npt]; exact hp))) ⟨t, rfl, ?_⟩
            rw [upd_ne npt.symm, upd_same]
          · rw [mdD_cor (by omega) n1]
            show List.Perm _ (cdL n ++ if 3 ≤ n then [((0 : Int), (n : Int) - 1)] else [])
            rw [if_pos (by omega)]
        · rw [if_neg c3]
          refine fin ws _ H' sm hp pw ?_
          rw [mdD_cor (by omega) n1]
          show List.Perm _ (cdL n ++ if 3 ≤ n then [((0 : Int), (n : Int) - 1)] else [])
          rw [if_neg (by omega), List.append_nil]
      · rw [if_neg k1]
        refine fin ws _ H' sm hp pw ?_
        have : k = 0 ∨ k = 3 := by omega
        rcases this with rfl | rfl
        · rw [mdD_cor (by omega) n1]
          exact .refl _
        · exact mdD_full n12
end

abbrev sMkr : Stmt := topS 29
theorem nearF_lt {i : Int} {D : List Pr} (asc : Asc D) (ok : ∀ d ∈ D, d.1 < d.2) : (nearF i D).Pairwise (· < ·) := by
  unfold nearF
  refine List.Pairwise.filterMap _ (fun d e h b hb c hc => ?_) (List.Pairwise.imp_of_mem (fun {x y} hx hy h => (⟨h, ok x hx, ok y hy⟩ : lt2 x y ∧ x.1 < x.2 ∧ y.1 < y.2)) asc)
  obtain ⟨h, h1, h2⟩ := h
  unfold lt2 at h
  by_cases c1 : d.1 = i
  · rw [if_pos c1] at hb
    have eb := Option.some.inj hb
    by_cases c2 : e.1 = i
    · rw [if_pos c2] at hc
      have ec := Option.some.inj hc
      omega
    · rw [if_neg c2] at hc
      by_cases c3 : e.2 = i
      · rw [if_pos c3] at hc
        have ec := Option.some.inj hc
        omega
      · rw [if_neg c3] at hc
        cases hc
  · rw [if_neg c1] at hb
    by_cases c4 : d.2 = i
    · rw [if_pos c4] at hb
      have eb := Option.some.inj hb
      by_cases c2 : e.1 = i
      · rw [if_pos c2] at hc
        have ec := Option.some.inj hc
        omega
      · rw [if_neg c2] at hc
        by_cases c3 : e.2 = i
        · rw [if_pos c3] at hc
          have ec := Option.some.inj hc
          omega
        · rw [if_neg c3] at hc
          cases hc
    · rw [if_neg c4] at hb
      cases hb
def nearA (i : Int) (D : List Pr) : List Int := (D.filter fun d => decide (d.2 = i)).map (·.1)
def nearB (i : Int) (D : List Pr) : List Int := (D.filter fun d => decide (d.1 = i)).map (·.2)
theorem nearF_perm (i : Int) : ∀ D : List Pr, (∀ d ∈ D, d.1 < d.2) → (nearA i D ++ nearB i D).Perm (nearF i D)
  | [], _ => List.Perm.nil
  | d :: D, ok => by
    have ih := nearF_perm i D fun e he => ok e (List.mem_cons_of_mem _ he)
    have lt := ok d List.mem_cons_self
    unfold nearA nearB nearF at ih ⊢
    by_cases c1 : d.1 = i
    · have c2 : ¬ d.2 = i := by omega
      rw [List.filter_cons_of_neg (by simp [c2]), List.filter_cons_of_pos (by simp [c1]), List.map_cons, List.filterMap_cons_some (by rw [if_pos c1])]
      exact List.perm_middle.trans (List.Perm.cons _ ih)
    · by_cases c2 : d.2 = i
      · rw [List.filter_cons_of_pos (by simp [c2]), List.filter_cons_of_neg (by simp [c1]), List.map_cons, List.filterMap_cons_some (by rw [if_neg c1, if_pos c2])]
        exact List.Perm.cons _ ih
      · rw [List.filter_cons_of_neg (by simp [c2]), List.filter_cons_of_neg (by simp [c1]), List.filterMap_cons_none (by rw [if_neg c1, if_neg c2])]
        exact ih
theorem near_sorted {i : Int} {D : List Pr} (asc : Asc D) (ok : ∀ d ∈ D, d.1 < d.2) {ys : List Int} (p : ys.Perm (nearA i D ++ nearB i D)) (s : ys.Pairwise (· ≤ ·)) : ys = nearF i D :=
  List.Perm.eq_of_pairwise (fun a b _ _ h1 h2 => Int.le_antisymm h1 h2) s (List.Pairwise.imp (fun h => Int.le_of_lt h) (nearF_lt asc ok)) (p.trans (nearF_perm i D ok))
theorem near_len {i : Int} {r : Nat} {D : List Pr} (h : Drs r D) (hr : r ≤ 12) : (nearF i D).length ≤ 12 := by
  have asc := nearF_lt (i := i) h.asc fun d hd => (h.ok d hd).2.1
  have bd : ∀ x ∈ nearF i D, 0 ≤ x ∧ x < 12 := fun x hx => by
    unfold nearF at hx
    obtain ⟨d, hd, e⟩ := List.mem_filterMap.mp hx
    have ok := h.ok d hd
    by_cases c1 : d.1 = i
    · rw [if_pos c1] at e
      have := Option.some.inj e
      omega
    · rw [if_neg c1] at e
      by_cases c2 : d.2 = i
      · rw [if_pos c2] at e
        have := Option.some.inj e
        omega
      · rw [if_neg c2] at e
        cases e
  have h1 : ((nearF i D).map Int.toNat).Nodup := by
    refine List.pairwise_map.mpr (List.Pairwise.imp_of_mem (fun {x y} hx hy lt e => ?_) asc)
    have b1 := bd x hx
    have b2 := bd y hy
    omega
  have h2 := nat_nodup_len _ (List.range 12) h1 fun c hc => by
    obtain ⟨x, hx, rfl⟩ := List.mem_map.mp hc
    have := bd x hx
    exact List.mem_range.mpr (by omega)
  rw [List.length_map, List.length_range] at h2
  exact h2
theorem sm_ints {H : Hp} {x y : Addr} {l : List Int} (hx : H x = some (.lst (l.map V.int))) (hy : H y = some (.lst (l.map V.int))) (hl : l.length ≤ 100000) (n : Nat) : Sm H (n + 1) (.ref x) (.ref y) := by
  refine .inr ⟨x, y, _, _, rfl, rfl, .inl ⟨hx, hy⟩, ?_, by rw [List.length_map]; exact hl⟩
  clear hx hy hl
  induction l with
  | nil => exact Paired.nil
  | cons a l ih => exact Paired.cons (Sm.flat rfl) ih
theorem sm_pair {H : Hp} {u v : V} {d : Pr} (hu : IsP H u d) (hv : IsP H v d) (n : Nat) : Sm H (n + 1) u v := by
  obtain ⟨t, rfl, e1⟩ := hu
  obtain ⟨t', rfl, e2⟩ := hv
  exact .inr ⟨t, t', _, _, rfl, rfl, .inr ⟨e1, e2⟩, Paired.cons (Sm.flat rfl) (Paired.cons (Sm.flat rfl) Paired.nil), by show 2 ≤ 100000; decide⟩
theorem sm_pairs {H : Hp} {x y : Addr} {us vs : List V} {D : List Pr} (hx : H x = some (.lst us)) (hy : H y = some (.lst vs)) (pu : PL H us D) (pv : PL H vs D) (hl : us.length ≤ 100000) (n : Nat) : Sm H (n + 2) (.ref x) (.ref y) := by
  refine .inr ⟨x, y, _, _, rfl, rfl, .inl ⟨hx, hy⟩, ?_, hl⟩
  clear hx hy hl
  induction pu generalizing vs with
  | nil => cases pv; exact Paired.nil
  | cons r _ ih => cases pv with | cons r2 t2 => exact Paired.cons (sm_pair r r2 n) (ih t2)
section
variable {P : Program} {w : World} {K : PySem.W.Frag} {mg : Str → Option Value} {base : Heap}
theorem scMkr : FnScope ["kind", "number", "house", "doors", "a", "near", "b", "d"] ["kind", "number"] (defScope sMkr) := ⟨rfl, rfl, rfl, by decide +kernel, rfl, by decide +kernel, by decide +kernel⟩
def spMkr : Sp := fun vs H Q _ => ∃ (k : Nat) (z : Int), vs = [.int k, .int z] ∧ k ≤ 3 ∧ ∀ H', Same H H' → Q (.bl true) H'
theorem ok_mkr {f C CT fS fc pc fo fn fh fm fr fd_ : Addr} {fd fdS fdc fdo fdn fdh fdm fdr fdd : FuncData} (F : Fun K "_law_maker_right" "_law_maker_right" sMkr f fd) (T : Bi mg) (U : Hs K mg C) (d__law_same : Df P w K mg base "_law_same" ["got", "due"] 3 (spSame 2) fS fdS)
    (pp : PropOf K C "door_count" pc fc) (bc : Binds K fdc ["self"] []) (Gc : FnOk P w K mg base CX0 1 fc fdc ["self"] (spHcount C)) (m_doors : Md P w K mg base C "doors" ["self"] 1 (spHdoors C) fo fdo) (m_neighbours : Md P w K mg base C "neighbours" ["self", "room"] 1 (spHnear C) fn fdn)
    (m_has_door : Md P w K mg base C "has_door" ["self", "a", "b"] 1 (spHhas C) fh fdh) (GM : FnOk P w K mg base (L2.CX P w) 6 fm fdm ["kind", "number"] (spMade C CT)) (atM : mg "_law_made" = some (.ref fm)) (kM : PySem.W.keepIn K (.ref fm) = true) (bM : Binds K fdm ["kind", "number"] [])
    (d__law_maker_refused : Df P w K mg base "_law_maker_refused" ["kind", "number"] 8 spMr fr fdr) (d__law_maker_doors : Df P w K mg base "_law_maker_doors" ["kind", "number"] 1 (spMd K) fd_ fdd) : FnOk P w K mg base CX0 9 f fd ["kind", "number"] spMkr := by
  refine F.ok scMkr (fun vs H Q E h => ?_) (fun cdv A outer s H vs Q E hr h => ?_)
  · obtain ⟨k, z, rfl, _⟩ := h
    rfl
  · obtain ⟨k, z, rfl, k3, q⟩ := h
    have hr1 : Room 6 _ := hr.mono (by decide)
    refine ⟨_, (pss_cons (ps_if (PW.pt (pw_or (pt_cmpR op_lt (pv 1) pe_int (nomark _)) (pw_or1 (pt_cmpR op_gt (pv 1) pe_int (nomark _)))))
      (pss_one (ps_ret (pe_call d__law_same.ok (hr.mono (by decide)) (by rfl) d__law_same.at_ d__law_same.kp d__law_same.b .nil pass0 (pa_cons (pe_call d__law_maker_refused.ok (hr.mono (by decide)) (by rfl) d__law_maker_refused.at_ d__law_maker_refused.kp d__law_maker_refused.b .nil pass0 (pa_cons (pv 0) (pa_cons (pv 1) pa_nil))) (pa_cons (pe_tup (pa_cons (pe_un un_neg pe_int) (pa_cons pe_bl pa_nil))) pa_nil)))))
      pss_nil)
      (pss_cons (ps_set (i := 2) scMkr.nd rfl (Or.inl rfl) (pe_callS GM hr1 rfl atM kM bM (fun σ => passAt takes0 σ) (pa_cons (pv 0) (pa_cons (pv 1) pa_nil))))
      (pss_cons (ps_set (i := 3) scMkr.nd rfl (Or.inl rfl) (pe_call d__law_maker_doors.ok (hr.mono (by decide)) (by rfl) d__law_maker_doors.at_ d__law_maker_doors.kp d__law_maker_doors.b .nil pass0 (pa_cons (pv 0) (pa_cons (pv 1) pa_nil))))
      (pss_cons (ps_if (PW.pt (pw_or (pt_not (pt_val (pe_call d__law_same.ok (hr.mono (by decide)) (by rfl) d__law_same.at_ d__law_same.kp d__law_same.b .nil pass0 (pa_cons (pe_fld (pv 2) rfl) (pa_cons (pv 1) pa_nil))))) (pw_or1 (pt_not (pt_val (pe_call d__law_same.ok (hr.mono (by decide)) (by rfl) d__law_same.at_ d__law_same.kp d__law_same.b .nil pass0 (pa_cons (pe_prop (pv 2) U.cl pp Gc (hr.mono (by decide)) bc .nil pass0 (by rfl)) (pa_cons (pe_callB call_len_seq (by rfl) T.len (by decide +kernel) (pa_cons (pv 3) pa_nil)) pa_nil))))))))
      (pss_one (ps_ret pe_bl))
      pss_nil)
      (pss_cons (ps_for PassesOwn.never rfl (pi_range1 (by rfl) T.range (pa_cons (pv 1) pa_nil)) (pg_name (i := 4) scMkr.nd rfl (Or.inr rfl))
      (pss_cons (ps_set (i := 5) scMkr.nd rfl (Or.inl rfl) (pe_callB cr_sorted (by rfl) T.sorted (by decide +kernel) (pa_cons (pe_op op_cat (pe_lc (own := [("d", 7)]) (te := tOp (rIxT K) (tVar 7) (tC (.int 0))) (tt := tTest (tOp (rI0 fun i j => .bl (decide (i = j))) (tOp (rIxT K) (tVar 7) (tC (.int 1))) (tVar 4))) (by rfl) scMkr.nd (pi_list (pv 3)) (blkOk_by (N := ["kind", "number", "house", "doors", "a", "near", "b", "d"]) (sc := defScope sMkr) (by decide +kernel)) (fun _ _ _ _ _ => pg_name (i := 7) scMkr.nd rfl (Or.inl rfl)) (fun _ _ _ _ _ => (pts_one (pt_cmpR op_eqI (pe_ix ix_tup (pv 7) pe_int (fun _ _ => rfl)) (pv 4) (nomark _)))) (fun _ _ _ _ _ => (pe_ix ix_tup (pv 7) pe_int (fun _ _ => rfl)))) (pe_lc (own := [("d", 7)]) (te := tOp (rIxT K) (tVar 7) (tC (.int 1))) (tt := tTest (tOp (rI0 fun i j => .bl (decide (i = j))) (tOp (rIxT K) (tVar 7) (tC (.int 0))) (tVar 4))) (by rfl) scMkr.nd (pi_list (pv 3)) (blkOk_by (N := ["kind", "number", "house", "doors", "a", "near", "b", "d"]) (sc := defScope sMkr) (by decide +kernel)) (fun _ _ _ _ _ => pg_name (i := 7) scMkr.nd rfl (Or.inl rfl)) (fun _ _ _ _ _ => (pts_one (pt_cmpR op_eqI (pe_ix ix_tup (pv 7) pe_int (fun _ _ => rfl)) (pv 4) (nomark _)))) (fun _ _ _ _ _ => (pe_ix ix_tup (pv 7) pe_int (fun _ _ => rfl))))) pa_nil)))
        (pss_cons (ps_if (pt_not (pt_val (pe_call d__law_same.ok (hr.mono (by decide)) (by rfl) d__law_same.at_ d__law_same.kp d__law_same.b .nil pass0 (pa_cons (pe_meth (pv 2) U.cl m_neighbours.m m_neighbours.ok (hr.mono (by decide)) m_neighbours.b .nil pass0 (pa_cons (pv 4) pa_nil)) (pa_cons (pv 5) pa_nil)))))
        (pss_one (ps_ret pe_bl))
        pss_nil)
        (pss_one (ps_for PassesOwn.never rfl (pi_range1 (by rfl) T.range (pa_cons (pv 1) pa_nil)) (pg_name (i := 6) scMkr.nd rfl (Or.inl rfl))
        (pss_one (ps_if (pt_not (pt_val (pe_call d__law_same.ok (hr.mono (by decide)) (by rfl) d__law_same.at_ d__law_same.kp d__law_same.b .nil pass0 (pa_cons (pe_meth (pv 2) U.cl m_has_door.m m_has_door.ok (hr.mono (by decide)) m_has_door.b .nil pass0 (pa_cons (pv 4) (pa_cons (pv 6) pa_nil))) (pa_cons (pe_cmpR op_in_seq (pv 6) (pv 5) (by rfl)) pa_nil)))))
          (pss_one (ps_ret pe_bl))
          pss_nil)))))))
      (pss_one (ps_ret (pe_call d__law_same.ok (hr.mono (by decide)) (by rfl) d__law_same.at_ d__law_same.kp d__law_same.b .nil pass0 (pa_cons (pe_meth0 (pv 2) U.cl m_doors.m m_doors.ok (hr.mono (by decide)) m_doors.b .nil pass0) (pa_cons (pv 3) pa_nil)))))))))), ?_⟩
    walk_at "rd"
    simp only [tCallS]
    walk_at "rd"
    by_cases n12 : 1 ≤ z ∧ z ≤ 12
    rotate_left
    · have ref : spMr [.int k, .int z] H (fun x H1 => 2 ≤ sizeLine ∧ ∀ p, H1 p = none → spSame 2 [x, .ref p] (upd H1 p (.tup [.int (-1), .bl true])) Q E) E := by
        refine ⟨k, z, rfl, k3, n12, fun t H' s1 ht => ⟨by decide, fun u nu => ?_⟩⟩
        have s2 := same_upd (o := HO.tup [V.int (-1), V.bl true]) nu
        refine same_ok (.inr ⟨t, u, _, _, rfl, rfl, .inr ⟨s2 _ _ ht, upd_same⟩, Paired.cons (Sm.flat rfl) (Paired.cons (Sm.flat rfl) Paired.nil), by show 2 ≤ 100000; decide⟩) (q _ (s1.trans s2))
      by_cases c1 : z < 1
      · rw [if_pos c1]
        exact ref
      · rw [if_neg c1, if_pos (by omega)]
        exact ref
    rw [if_neg (by omega), if_neg (by omega)]
    obtain ⟨r, rfl⟩ : ∃ r : Nat, z = r := ⟨z.toNat, by omega⟩
    refine ⟨k, r, k3, rfl, fun nn => absurd n12 nn, fun n en n1 n2 p D own H1 mem hh s1 => ?_⟩
    have en2 : r = n := by omega
    subst en2
    walk_at "rd"
    refine ⟨k, r, rfl, k3, n1, n2, fun G us l H2 asc memG s2 nl hl pl => ?_⟩
    have eG : D = G := asc_uniq hh.ok.asc asc fun d => (mem d).trans (memG d).symm
    subst eG
    have hh := hh.same s2
    have q : ∀ H', Same H2 H' → Q (.bl true) H' := fun H' s3 => q H' (s1.trans (s2.trans s3))
    clear s2 s1 nl
    have dl := hh.ok.len hh.r12
    have ul : us.length = D.length := pl.len
    have r12 := hh.r12
    have dok : ∀ d ∈ D, d.1 < d.2 := fun d hd => (hh.ok.ok d hd).2.1
    obtain ⟨dx, l0, m0, ls, nss, h1, _⟩ := hh.ex
    refine ⟨C, dx, _, h1, U.cl, U.nR, .int r, hf_rooms _ _ _, same_ok (Sm.flat rfl) ⟨true, rfl, iteF ?_⟩⟩
    refine ⟨_, rfl, p, dx, _, rfl, h1, p, r, D, own, rfl, hh, ?_⟩
    walk_at "rd"
    refine ⟨us, .inl (SqL.of hl), ?_⟩
    rw [ul]
    refine same_ok (Sm.flat rfl) ⟨true, rfl, iteF ?_⟩
    obtain ⟨H, rfl⟩ : ∃ H, H = H2 := ⟨_, rfl⟩
    obtain ⟨Pw, hPw⟩ : ∃ Pw : Nat → L2.St → Hp → Prop, Pw = (fun i σ H' => ∃ v3 v4 v5 : Option V, σ = [some (.int k), some (.int r), some (.ref p), some (.ref l), v3, v4, v5, none] ∧ Same H H') := ⟨_, rfl⟩
    refine ⟨_, rfl, r, rfl, by omega, by omega, for_range (lo := 0) (n := (r : Int).toNat) Pw (by rw [hPw]; exact ⟨none, none, none, rfl, Same.refl _⟩) (fun i σ H2 hi pv => ?_) (fun σ H' pv => ?_)⟩
    · have nxw : ∀ v3 v4 v5 H', Same H H' → Pw (i + 1) [some (.int k), some (.int r), some (.ref p), some (.ref l), v3, v4, v5, none] H' := fun v3 v4 v5 H' h => by
        rw [hPw]
        exact ⟨v3, v4, v5, rfl, h⟩
      rw [hPw] at pv
      obtain ⟨v3, v4, v5, rfl, sA⟩ := pv
      have hir : i < r := by omega
      have hlH2 := sA _ _ hl
      have plH2 := pl.kt (KT.same sA)
      walk_at "rd"
      refine ⟨_, rfl, l, rfl, ⟨_, SqL.of hlH2⟩, fun c nc => ?_⟩
      obtain ⟨Pv, hPv⟩ : ∃ Pv : Nat → Hp → Prop, Pv = (fun j Hx => Same H2 Hx ∧ Hx c = some (.lst ((nearA (i : Nat) (D.take j)).map V.int))) := ⟨_, rfl⟩
      refine lc_list (K := K) (a := l) (xs := us) Pv (by rw [hPv]; exact ⟨same_upd nc, upd_same⟩) (fun j Hx _ pv => by rw [hPv] at pv; exact SqL.of (pv.1 _ _ hlH2)) (fun j v Hx gv pv => ?_) (fun Hx pv => ?_)
      · have nxt : ∀ Hx, Same H2 Hx → Hx c = some (.lst ((nearA (i : Nat) (D.take (j + 1))).map V.int)) → Pv (j + 1) Hx := fun Hx h1 h2 => by
          rw [hPv]
          exact ⟨h1, h2⟩
        rw [hPv] at pv
        obtain ⟨s2, hc⟩ := pv
        obtain ⟨d, gd, td, rfl, htd⟩ := plH2.get gv
        have htd2 := s2 _ _ htd
        have short : ((nearA (i : Nat) (D.take j)).map V.int).length < sizeLine := len_big (by
          unfold nearA
          rw [List.length_map, List.length_map]
          have e1 := List.length_filter_le (fun d : Pr => decide (d.2 = (i : Int))) (D.take j)
          rw [List.length_take] at e1
          omega)
        simp only [wipe]
        walk_at "rd"
        refine ⟨_, SqT.of htd2, .int d.2, rfl, d.2, rfl, ?_⟩
        have step : nearA (i : Nat) (D.take (j + 1)) = nearA (i : Nat) (D.take j) ++ (if d.2 = (i : Int) then [d.1] else []) := by
          unfold nearA
          rw [List.take_add_one, gd, List.filter_append, List.map_append]
          congr 1
          show List.map _ (List.filter _ [d]) = _
          by_cases e : d.2 = (i : Int)
          · rw [List.filter_cons_of_pos (by simp [e]), if_pos e]
            rfl
          · rw [List.filter_cons_of_neg (by simp [e]), if_neg e]
            rfl
        by_cases e : d.2 = (i : Int)
        · rw [if_pos (show d.2 = 0 + (i : Int) by omega)]
          refine ⟨_, SqT.of htd2, .int d.1, rfl, _, hc, short, nxt _ (same_ch s2 nc) ?_⟩
          rw [upd_same, step, if_pos e, List.map_append]
          rfl
        · rw [if_neg (show ¬ d.2 = 0 + (i : Int) by omega)]
          refine nxt _ s2 ?_
          rw [step, if_neg e, List.append_nil]
          exact hc
      rw [hPv] at pv
      obtain ⟨s2, hc⟩ := pv
      rw [ul, List.take_length] at hc
      clear hPv Pv
      have sB := sA.trans s2
      have hlHx := sB _ _ hl
      have plHx := pl.kt (KT.same sB)
      clear s2
      refine ⟨_, rfl, l, rfl, ⟨_, SqL.of hlHx⟩, fun e ne => ?_⟩
      obtain ⟨Pv, hPv⟩ : ∃ Pv : Nat → Hp → Prop, Pv = (fun j Hy => Same Hx Hy ∧ Hy e = some (.lst ((nearB (i : Nat) (D.take j)).map V.int))) := ⟨_, rfl⟩
      refine lc_list (K := K) (a := l) (xs := us) Pv (by rw [hPv]; exact ⟨same_upd ne, upd_same⟩) (fun j Hy _ pv => by rw [hPv] at pv; exact SqL.of (pv.1 _ _ hlHx)) (fun j v Hy gv pv => ?_) (fun Hy pv => ?_)
      · have nxt : ∀ Hy, Same Hx Hy → Hy e = some (.lst ((nearB (i : Nat) (D.take (j + 1))).map V.int)) → Pv (j + 1) Hy := fun Hy h1 h2 => by
          rw [hPv]
          exact ⟨h1, h2⟩
        rw [hPv] at pv
        obtain ⟨s2, hc⟩ := pv
        obtain ⟨d, gd, td, rfl, htd⟩ := plHx.get gv
        have htd2 := s2 _ _ htd
        have short : ((nearB (i : Nat) (D.take j)).map V.int).length < sizeLine := len_big (by
          unfold nearB
          rw [List.length_map, List.length_map]
          have e1 := List.length_filter_le (fun d : Pr => decide (d.1 = (i : Int))) (D.take j)
          rw [List.length_take] at e1
          omega)
        simp only [wipe]
        walk_at "rd"
        refine ⟨_, SqT.of htd2, .int d.1, rfl, d.1, rfl, ?_⟩
        have step : nearB (i : Nat) (D.take (j + 1)) = nearB (i : Nat) (D.take j) ++ (if d.1 = (i : Int) then [d.2] else []) := by
          unfold nearB
          rw [List.take_add_one, gd, List.filter_append, List.map_append]
          congr 1
          show List.map _ (List.filter _ [d]) = _
          by_cases ee : d.1 = (i : Int)
          · rw [List.filter_cons_of_pos (by simp [ee]), if_pos ee]
            rfl
          · rw [List.filter_cons_of_neg (by simp [ee]), if_neg ee]
            rfl
        by_cases ee : d.1 = (i : Int)
        · rw [if_pos (show d.1 = 0 + (i : Int) by omega)]
          refine ⟨_, SqT.of htd2, .int d.2, rfl, _, hc, short, nxt _ (same_ch s2 ne) ?_⟩
          rw [upd_same, step, if_pos ee, List.map_append]
          rfl
        · rw [if_neg (show ¬ d.1 = 0 + (i : Int) by omega)]
          refine nxt _ s2 ?_
          rw [step, if_neg ee, List.append_nil]
          exact hc
      rw [hPv] at pv
      obtain ⟨s2, he⟩ := pv
      rw [ul, List.take_length] at he
      clear hPv Pv
      have sC := sB.trans s2
      have hc2 := s2 _ _ hc
      have nlen := near_len (i := (i : Int)) hh.ok r12
      have plen := (nearF_perm (i : Nat) D dok).length_eq
      rw [List.length_append] at plen
      refine ⟨c, e, _, _, rfl, rfl, hc2, he, Nat.le_of_lt (len_big (by rw [List.length_map, List.length_map]; omega)), fun t nt => ?_⟩
      rw [← List.map_append]
      have sD : Same H (upd Hy t (HO.lst ((nearA (i : Nat) D ++ nearB (i : Nat) D).map V.int))) := sC.trans (same_upd nt)
      refine ⟨t, _, rfl, SqL.of upd_same, by rw [List.length_append]; omega, fun ys nr pm so nnr => ?_⟩
      have ey := near_sorted hh.ok.asc dok pm so
      subst ey
      generalize upd Hy t (HO.lst ((nearA (i : Nat) D ++ nearB (i : Nat) D).map V.int)) = Hd at sD nnr
      have sE := sD.trans (same_upd (o := HO.lst ((nearF (i : Nat) D).map V.int)) nnr)
      have hnr : upd Hd nr (HO.lst ((nearF (i : Nat) D).map V.int)) nr = some (HO.lst ((nearF (i : Nat) D).map V.int)) := upd_same
      generalize upd Hd nr (HO.lst ((nearF (i : Nat) D).map V.int)) = He at sE hnr
      refine ⟨dx, _, sE _ _ h1, hf_no _ _ _ (by decide +kernel) (by decide +kernel) (by decide +kernel), p, r, D, own, i, by rw [Int.zero_add], hh.same sE, hir, fun t2 nt2 => ?_⟩
      have sF : Same He (upd He t2 (HO.lst ((nearF (i : Nat) D).map V.int))) := same_upd nt2
      refine same_ok (sm_ints upd_same (sF _ _ hnr) (by omega) 1) ⟨true, rfl, iteF ?_⟩
      have sG := sE.trans sF
      have hnr2 := sF _ _ hnr
      generalize upd He t2 (HO.lst ((nearF (i : Nat) D).map V.int)) = Hg at sG hnr2
      clear sF hnr sE sD
      obtain ⟨Pu, hPu⟩ : ∃ Pu : Nat → L2.St → Hp → Prop, Pu = (fun j σ H' => ∃ v5 : Option V, σ = [some (.int k), some (.int r), some (.ref p), some (.ref l), some (.int (0 + (i : Int))), some (.ref nr), v5, none] ∧ H' = Hg) := ⟨_, rfl⟩
      refine ⟨_, rfl, r, rfl, by omega, by omega, for_range (lo := 0) (n := (r : Int).toNat) Pu (by rw [hPu]; exact ⟨_, rfl, rfl⟩) (fun j σ Hz hj pv => ?_) (fun σ Hz pv => ?_)⟩
      · have nxu : ∀ v5, Pu (j + 1) [some (.int k), some (.int r), some (.ref p), some (.ref l), some (.int (0 + (i : Int))), some (.ref nr), v5, none] Hg := fun v5 => by
          rw [hPu]
          exact ⟨v5, rfl, rfl⟩
        rw [hPu] at pv
        obtain ⟨v5, rfl, rfl⟩ := pv
        walk_at "rd"
        refine ⟨dx, _, sG _ _ h1, hf_no _ _ _ (by decide +kernel) (by decide +kernel) (by decide +kernel), p, r, D, own, i, 0 + (j : Int), by rw [Int.zero_add], hh.same sG, hir, ?_⟩
        refine ⟨nr, _, rfl, .inl (SqL.of hnr2), rfl, flat_ints _, ?_⟩
        rw [inV_ints]
        refine same_ok (Sm.flat rfl) ⟨true, rfl, iteF ?_⟩
        exact nxu _
      · rw [hPu] at pv
        obtain ⟨v5, rfl, rfl⟩ := pv
        exact nxw _ _ _ _ sG
    · rw [hPw] at pv
      obtain ⟨v3, v4, v5, rfl, sA⟩ := pv
      walk_at "rd"
      refine ⟨dx, _, sA _ _ h1, hf_no _ _ _ (by decide +kernel) (by decide +kernel) (by decide +kernel), p, r, D, own, rfl, hh.same sA, fun ws t pw nt => ?_⟩
      have s1 : Same H' (upd H' t (HO.lst ws)) := same_upd nt
      refine same_ok (sm_pairs upd_same ((sA.trans s1) _ _ hl) (pw.kt (KT.same s1)) (pl.kt (KT.same (sA.trans s1))) (by rw [pw.len]; omega) 0) (q _ (sA.trans s1))
end

abbrev sLaw : Stmt := topS 30
theorem badK_uniq {r : Int} {D : List Pr} {i k : Nat} (h1 : BadK r D i) (h2 : BadK r D k) : i = k := by
  have key : ∀ {i k : Nat}, BadK r D i → BadK r D k → ¬ i < k := fun {i k} h1 h2 lt => by
    refine h1.2.2 ?_
    have e : D.take (i + 1) = (D.take k).take (i + 1) := by rw [List.take_take, Nat.min_eq_left lt]
    rw [e]
    exact good_take h2.2.1
  have a := key h1 h2
  have b := key h2 h1
  omega
section
variable {P : Program} {w : World} {K : PySem.W.Frag} {mg : Str → Option Value} {base : Heap}
theorem scLaw : FnScope ["script", "n", "m", "p", "rooms", "number", "entries", "due", "handed", "told", "asked", "kind"] ["script"] (defScope sLaw) := ⟨rfl, rfl, rfl, by decide +kernel, rfl, by decide +kernel, by decide +kernel⟩
def spLaw (K : PySem.W.Frag) : Sp := fun vs H Q _ => ∃ (a : Addr) (ns : List Int), vs = [.ref a] ∧ SqL K H a (ns.map V.int) ∧ ns.length ≤ 63 ∧ ∀ H', Q (.bl true) H'
theorem ok_law {f C f1 f2 f3 f4 f5 f6 f7 f8 f9 fa fb : Addr} {fd fd1 fd2 fd3 fd4 fd5 fd6 fd7 fd8 fd9 fda fdb : FuncData} (F : Fun K "law" "law" sLaw f fd) (T : Bi mg) (U : Hs K mg C)
    (d__law_cell : Df P w K mg base "_law_cell" ["script", "k"] 1 (spCell K) f1 fd1) (d__law_numbers : Df P w K mg base "_law_numbers" ["cell", "count"] 1 (spNum K) f2 fd2) (d__law_doors : Df P w K mg base "_law_doors" ["numbers", "rooms"] 2 (spDrs K) f3 fd3)
    (d__law_passed : Df P w K mg base "_law_passed" ["numbers", "doors"] 2 (spPass K) f4 fd4) (d__law_asked_rooms : Df P w K mg base "_law_asked_rooms" ["rooms", "numbers", "cell"] 1 (spAsk K) f5 fd5) (d__law_entries : Df P w K mg base "_law_entries" ["good", "rooms", "numbers"] 3 (spEnt K) f6 fd6)
    (d__law_first_bad : Df P w K mg base "_law_first_bad" ["number", "entries"] 1 spFb f7 fd7) (d__law_refused : Df P w K mg base "_law_refused" ["number", "entries"] 7 (spRef C) f8 fd8) (d__law_is_made : Df P w K mg base "_law_is_made" ["number", "entries"] 4 spIm f9 fd9)
    (d__law_maker_right : Df P w K mg base "_law_maker_right" ["kind", "number"] 9 spMkr fa fda) (d__law_same : Df P w K mg base "_law_same" ["got", "due"] 3 (spSame 2) fb fdb) : FnOk P w K mg base CX0 10 f fd ["script"] (spLaw K) := by
  refine F.ok scLaw (fun vs H Q E h => ?_) (fun cdv A outer s H vs Q E hr h => ?_)
  · obtain ⟨a, ns, rfl, _⟩ := h
    rfl
  · obtain ⟨a, ss, rfl, hS, _, q⟩ := h
    refine ⟨_, (pss_cons (ps_set (i := 1) scLaw.nd rfl (Or.inl rfl) (pe_call d__law_numbers.ok (hr.mono (by decide)) (by rfl) d__law_numbers.at_ d__law_numbers.kp d__law_numbers.b .nil pass0 (pa_cons (pe_call d__law_cell.ok (hr.mono (by decide)) (by rfl) d__law_cell.at_ d__law_cell.kp d__law_cell.b .nil pass0 (pa_cons (pv 0) (pa_cons pe_int pa_nil))) (pa_cons pe_int pa_nil))))
      (pss_cons (ps_set (i := 2) scLaw.nd rfl (Or.inl rfl) (pe_call d__law_numbers.ok (hr.mono (by decide)) (by rfl) d__law_numbers.at_ d__law_numbers.kp d__law_numbers.b .nil pass0 (pa_cons (pe_call d__law_cell.ok (hr.mono (by decide)) (by rfl) d__law_cell.at_ d__law_cell.kp d__law_cell.b .nil pass0 (pa_cons (pv 0) (pa_cons pe_int pa_nil))) (pa_cons pe_int pa_nil))))
      (pss_cons (ps_set (i := 3) scLaw.nd rfl (Or.inl rfl) (pe_call d__law_numbers.ok (hr.mono (by decide)) (by rfl) d__law_numbers.at_ d__law_numbers.kp d__law_numbers.b .nil pass0 (pa_cons (pe_call d__law_cell.ok (hr.mono (by decide)) (by rfl) d__law_cell.at_ d__law_cell.kp d__law_cell.b .nil pass0 (pa_cons (pv 0) (pa_cons pe_int pa_nil))) (pa_cons pe_int pa_nil))))
      (pss_cons (ps_set (i := 4) scLaw.nd rfl (Or.inl rfl) (pe_op op_add pe_int (pe_op op_mod (pe_callTy cr_intI (by rfl) T.int (by decide +kernel) (pa_cons (pe_op op_fdiv (pe_ix ix_list (pv 1) pe_int (fun _ _ => rfl)) pe_int) pa_nil)) pe_int)))
      (pss_cons (ps_set (i := 5) scLaw.nd rfl (Or.inl rfl) (pe_call d__law_asked_rooms.ok (hr.mono (by decide)) (by rfl) d__law_asked_rooms.at_ d__law_asked_rooms.kp d__law_asked_rooms.b .nil pass0 (pa_cons (pv 4) (pa_cons (pv 3) (pa_cons (pe_call d__law_cell.ok (hr.mono (by decide)) (by rfl) d__law_cell.at_ d__law_cell.kp d__law_cell.b .nil pass0 (pa_cons (pv 0) (pa_cons pe_int pa_nil))) pa_nil)))))
      (pss_cons (ps_set (i := 6) scLaw.nd rfl (Or.inl rfl) (pe_call d__law_entries.ok (hr.mono (by decide)) (by rfl) d__law_entries.at_ d__law_entries.kp d__law_entries.b .nil pass0 (pa_cons (pe_call d__law_passed.ok (hr.mono (by decide)) (by rfl) d__law_passed.at_ d__law_passed.kp d__law_passed.b .nil pass0 (pa_cons (pv 2) (pa_cons (pe_call d__law_doors.ok (hr.mono (by decide)) (by rfl) d__law_doors.at_ d__law_doors.kp d__law_doors.b .nil pass0 (pa_cons (pv 1) (pa_cons (pv 4) pa_nil))) pa_nil))) (pa_cons (pv 4) (pa_cons (pv 3) pa_nil)))))
      (pss_cons (ps_set (i := 7) scLaw.nd rfl (Or.inl rfl) (pe_call d__law_first_bad.ok (hr.mono (by decide)) (by rfl) d__law_first_bad.at_ d__law_first_bad.kp d__law_first_bad.b .nil pass0 (pa_cons (pv 5) (pa_cons (pv 6) pa_nil))))
      (pss_cons (ps_set (i := 8) scLaw.nd rfl (Or.inl rfl) (pe_callTy call_list_of (by rfl) T.list (by decide +kernel) (pa_cons (pv 6) pa_nil)))
      (pss_cons (ps_set (i := 9) scLaw.nd rfl (Or.inl rfl) (pe_call d__law_refused.ok (hr.mono (by decide)) (by rfl) d__law_refused.at_ d__law_refused.kp d__law_refused.b .nil pass0 (pa_cons (pv 5) (pa_cons (pv 8) pa_nil))))
      (pss_cons (ps_if (pt_not (pt_val (pe_call d__law_same.ok (hr.mono (by decide)) (by rfl) d__law_same.at_ d__law_same.kp d__law_same.b .nil pass0 (pa_cons (pv 8) (pa_cons (pv 6) pa_nil)))))
      (pss_one (ps_ret pe_bl))
      pss_nil)
      (pss_cons (ps_if (pt_cmpR op_isN (pv 7) pe_non (nomark _))
      (pss_one (ps_if (PW.pt (pw_or (pt_cmpR op_notN (pv 9) pe_non (nomark _)) (pw_or1 (pt_not (pt_val (pe_call d__law_is_made.ok (hr.mono (by decide)) (by rfl) d__law_is_made.at_ d__law_is_made.kp d__law_is_made.b .nil pass0 (pa_cons (pv 5) (pa_cons (pv 6) pa_nil))))))))
        (pss_one (ps_ret pe_bl))
        pss_nil))
      (pss_one (ps_if (pt_not (pt_val (pe_call d__law_same.ok (hr.mono (by decide)) (by rfl) d__law_same.at_ d__law_same.kp d__law_same.b .nil pass0 (pa_cons (pv 9) (pa_cons (pe_tup (pa_cons (pv 7) (pa_cons pe_bl (pa_cons pe_bl (pa_cons pe_bl pa_nil))))) pa_nil)))))
        (pss_one (ps_ret pe_bl))
        (pss_one (ps_if (PW.pt (pw_and (pt_cmpR op_eqI (pv 7) (pe_un un_neg pe_int) (nomark _)) (pw_and1 (pt_not (pt_val (pe_call d__law_is_made.ok (hr.mono (by decide)) (by rfl) d__law_is_made.at_ d__law_is_made.kp d__law_is_made.b .nil pass0 (pa_cons (pv 4) (pa_cons (pe_lst pa_nil) pa_nil))))))))
          (pss_one (ps_ret pe_bl))
          (pss_one (ps_if (PW.pt (pw_and (pt_cmpR op_ge (pv 7) pe_int (nomark _)) (pw_and1 (pt_not (pt_val (pe_call d__law_is_made.ok (hr.mono (by decide)) (by rfl) d__law_is_made.at_ d__law_is_made.kp d__law_is_made.b .nil pass0 (pa_cons (pv 5) (pa_cons (pe_slice sl_list (pv 6) po_none (po_some (pv 7))) pa_nil))))))))
            (pss_one (ps_ret pe_bl))
            pss_nil)))))))
      (pss_cons (ps_for PassesOwn.never rfl (pi_list (pe_lst (pa_cons (pe_callB (call_min2 rfl) (by rfl) T.min (by decide +kernel) (pa_cons (pv 5) (pa_cons pe_int pa_nil))) (pa_cons pe_int (pa_cons pe_int (pa_cons pe_int pa_nil)))))) (pg_name (i := 10) scLaw.nd rfl (Or.inl rfl))
      (pss_one (ps_for PassesOwn.never rfl (pi_range1 (by rfl) T.range (pa_cons pe_int pa_nil)) (pg_name (i := 11) scLaw.nd rfl (Or.inl rfl))
        (pss_one (ps_if (pt_not (pt_val (pe_call d__law_maker_right.ok (hr.mono (by decide)) (by rfl) d__law_maker_right.at_ d__law_maker_right.kp d__law_maker_right.b .nil pass0 (pa_cons (pv 11) (pa_cons (pv 10) pa_nil)))))
          (pss_one (ps_ret pe_bl))
          pss_nil)))))
      (pss_one (ps_ret (pe_call d__law_same.ok (hr.mono (by decide)) (by rfl) d__law_same.at_ d__law_same.kp d__law_same.b .nil pass0 (pa_cons (ClX.pe_cval (pe_glob (v := .ref C) (by rfl) U.mgC rfl)) (pa_cons pe_int pa_nil))))))))))))))))), ?_⟩
    walk_at "rd"
    refine ⟨a, ss, 0, rfl, hS, fun c0 _ => ⟨c0, 79, rfl, by decide, fun nl ln H1 N1 s1 fn1 hln => ?_⟩⟩
    refine ⟨a, ss, 1, rfl, s1.seq hS, fun c1 _ => ⟨c1, 132, rfl, by decide, fun ml lm H2 N2 s2 fm hlm => ?_⟩⟩
    refine ⟨a, ss, 2, rfl, (s1.trans s2).seq hS, fun c2 _ => ⟨c2, 38, rfl, by decide, fun pp lp H3 N3 s3 fp hlp => ?_⟩⟩
    have hln := (s2.trans s3) _ _ hln
    have hlm := s3 _ _ hlm
    have hS := (s1.trans (s2.trans s3)).seq hS
    clear s1 s2 s3 fn1 fm fp
    obtain ⟨n0, gn0⟩ : ∃ n0, nl[0]? = some n0 := ⟨nl[0]'(by rw [N1.1]; omega), List.getElem?_eq_getElem (by rw [N1.1]; omega)⟩
    have g0 : (nl.map V.int)[0]? = some (.int n0) := by rw [List.getElem?_map, gn0]; rfl
    refine ⟨ln, rfl, _, SqL.of hln, .int n0, at_of (j := 0) rfl g0, _, rfl, ⟨by decide, by decide⟩, by decide, ?_⟩
    obtain ⟨r, er, hr1, hr12⟩ : ∃ r : Nat, 1 + n0 / 8 % 12 = (r : Int) ∧ 1 ≤ r ∧ r ≤ 12 := ⟨(1 + n0 / 8 % 12).toNat, by omega, by omega, by omega⟩
    rw [er]
    refine ⟨a, ss, 3, rfl, hS, fun c3 _ => ⟨lp, pp, r, c3, rfl, SqL.of hlp, by rw [N3.1]; omega, fun z => ?_⟩⟩
    refine ⟨ln, nl, r, rfl, SqL.of hln, by rw [N1.1]; omega, hr1, hr12, fun D us ld H4 drs s4 fd4 hld pD => ?_⟩
    refine ⟨lm, ld, ml, us, D, r, rfl, SqL.of (s4 _ _ hlm), by rw [N2.1]; omega, hld, pD, drs, hr12, fun ws Ep lq H5 s5 nlq hlq pw perm => ?_⟩
    have epl : Ep.length ≤ 66 := by
      have e := perm.length_eq
      rw [List.length_map] at e
      have := drs.len hr12
      omega
    refine ⟨lq, lp, r, ws, Ep, pp, rfl, hlq, pw, hr1, epl, SqL.of ((s4.trans s5) _ _ hlp), N3.1, N3.2, fun En us2 le H6 s6 hle ple len68 => ?_⟩
    have ul : us2.length = En.length := ple.len
    clear hlq pw perm epl hlp hld pD drs hlm hln hS s4 s5 s6 nlq fd4 N1 N2 N3 gn0 g0
    have tail : ∀ (vd vl vt : V) (Hx : Hp), tFor (iList K (tLst (tCons (tCB (fun xs H Q => ∃ i j, xs = [V.int i, V.int j] ∧ Q (V.int (if j < i then j else i)) H) (tCons (tVar 5) (tCons (tC (V.int 60)) tNil))) (tCons (tC (V.int 1)) (tCons (tC (V.int 2)) (tCons (tC (V.int 3)) tNil)))))) (gName 10)
        (tFor (iRng1 (tCons (tC (V.int 4)) tNil)) (gName 11) (tIfS (tNot (tB (tCall spMkr [] E0 (tCons (tVar 11) (tCons (tVar 10) tNil))))) (tRet (tC (V.bl false))) tNext))
        { nx := tRet (tCall (spSame 2) [] E0 (tCons (ClX.tCVal K (tC (V.ref C)) (Str.ofString "MOST_ROOMS")) (tCons (tC (V.int 12)) tNil))) { nx := fun x H' => Q V.non H', rt := Q }, rt := Q }
        [some (V.ref a), some (V.ref ln), some (V.ref lm), some (V.ref lp), some (V.int (r : Int)), some (V.int z), some (V.ref le), some vd, some vl, some vt, none, none] Hx := fun vd vl vt Hx => by
      refine for_iterW ?_
      walk_at "rd"
      refine ⟨by decide, fun kl nkl => ⟨⟨_, SqL.of upd_same⟩, ?_⟩⟩
      generalize (if (60 : Int) < z then (60 : Int) else z) = w0
      have hkl : upd Hx kl (HO.lst [V.int w0, V.int 1, V.int 2, V.int 3]) kl = some (.lst [V.int w0, V.int 1, V.int 2, V.int 3]) := upd_same
      generalize upd Hx kl (HO.lst [V.int w0, V.int 1, V.int 2, V.int 3]) = Hy at hkl ⊢
      obtain ⟨Pv, hPv⟩ : ∃ Pv : Nat → L2.St → Hp → Prop, Pv = (fun j σ H' => ∃ v10 v11, σ = [some (V.ref a), some (V.ref ln), some (V.ref lm), some (V.ref lp), some (V.int (r : Int)), some (V.int z), some (V.ref le), some vd, some vl, some vt, v10, v11] ∧ Same Hy H') := ⟨_, rfl⟩
      refine for_list (K := K) (a := kl) (xs := [V.int w0, V.int 1, V.int 2, V.int 3]) Pv (by rw [hPv]; exact ⟨_, _, rfl, Same.refl _⟩) (fun i σ H' _ pv => by rw [hPv] at pv; obtain ⟨_, _, _, sm⟩ := pv; exact SqL.of (sm _ _ hkl)) (fun i v σ H8 gv pv => ?_) (fun σ H8 pv => ?_)
      · rw [hPv] at pv
        obtain ⟨v10, v11, rfl, s78⟩ := pv
        obtain ⟨y, rfl⟩ : ∃ y : Int, v = V.int y := by
          have m := List.mem_of_getElem? gv
          simp only [List.mem_cons, List.not_mem_nil, or_false] at m
          rcases m with e | e | e | e <;> exact ⟨_, e⟩
        walk_at "rd"
        obtain ⟨Pw, hPw⟩ : ∃ Pw : Nat → L2.St → Hp → Prop, Pw = (fun j σ H' => ∃ v11, σ = [some (V.ref a), some (V.ref ln), some (V.ref lm), some (V.ref lp), some (V.int (r : Int)), some (V.int z), some (V.ref le), some vd, some vl, some vt, some (V.int y), v11] ∧ Same Hy H') := ⟨_, rfl⟩
        refine ⟨_, rfl, by decide, by decide, for_range (lo := 0) (n := (4 : Int).toNat) Pw (by rw [hPw]; exact ⟨_, rfl, s78⟩) (fun j σ H9 hj pv => ?_) (fun σ H9 pv => ?_)⟩
        · rw [hPw] at pv
          obtain ⟨v11, rfl, s9⟩ := pv
          have hj4 : j < 4 := hj
          walk_at "rd"
          refine ⟨j, y, by rw [Int.zero_add], by omega, fun H' s10 => ⟨true, rfl, iteF ?_⟩⟩
          rw [hPw]
          exact ⟨_, rfl, s9.trans s10⟩
        · rw [hPw] at pv
          obtain ⟨v11, rfl, s9⟩ := pv
          show Pv (i + 1) _ _
          rw [hPv]
          exact ⟨_, _, rfl, s9⟩
      · rw [hPv] at pv
        obtain ⟨v10, v11, rfl, s78⟩ := pv
        obtain ⟨mc, u, c1, c2⟩ := U.rd
        walk_at "rd"
        exact ⟨C, mc, .int 12, u, rfl, c1, c2, same_ok (Sm.flat rfl) (q _)⟩
    have sm4 : ∀ {Hx : Hp} {t1 t2 : Addr} {xs : List V}, Hx t1 = some (.tup xs) → Hx t2 = some (.tup xs) → (∀ x ∈ xs, flat4 x = true) → xs.length ≤ 100000 → Sm Hx 2 (.ref t1) (.ref t2) := fun {Hx t1 t2 xs} h1 h2 h3 h4 => by
      refine .inr ⟨t1, t2, _, _, rfl, rfl, .inr ⟨h1, h2⟩, ?_, h4⟩
      clear h1 h2 h4
      induction xs with
      | nil => exact Paired.nil
      | cons a l ih => exact Paired.cons (Sm.flat (h3 a List.mem_cons_self)) (ih fun x hx => h3 x (List.mem_cons_of_mem _ hx))
    by_cases z12 : 1 ≤ z ∧ z ≤ 12
    rotate_left
    · refine ⟨z, le, us2, En, rfl, hle, ple, by omega, fun _ => ?_, fun h1 h2 => absurd ⟨h1, h2⟩ z12⟩
      walk_at "rd"
      refine ⟨us2, .inl (SqL.of hle), fun lh nlh => ?_⟩
      have s7 := same_upd (o := HO.lst us2) nlh
      refine ⟨z, lh, us2, En, rfl, upd_same, ple.kt (KT.same s7), by omega, fun _ t H8 s8 ht => ?_, fun h1 h2 => absurd ⟨h1, h2⟩ z12⟩
      refine same_ok (PL.sm (s8 _ _ upd_same) (s8 _ _ (s7 _ _ hle)) (ple.kt (KT.same (s7.trans s8))) (ple.kt (KT.same (s7.trans s8))) (by omega) 0) ⟨true, rfl, iteF ?_⟩
      rw [if_neg (show ¬ False from id)]
      refine ⟨by decide, fun u nu => ?_⟩
      have s9 := same_upd (o := HO.tup [V.int (-1), V.bl true, V.bl true, V.bl false]) nu
      refine same_ok (sm4 (s9 _ _ ht) upd_same (by simp [flat4]) (by show 4 ≤ 100000; decide)) ⟨true, rfl, iteF ?_⟩
      rw [if_pos trivial]
      refine ⟨by decide, fun e ne => ?_⟩
      refine ⟨r, e, [], [], rfl, upd_same, PL.nil0 _, hr1, hr12, ⟨List.nodup_nil, fun d hd => by cases hd⟩, fun H10 s11 => ⟨true, rfl, iteF ?_⟩⟩
      rw [if_neg (show ¬ (0 : Int) ≤ -1 by decide), if_neg (show ¬ False from id)]
      exact tail _ _ _ H10
    · obtain ⟨n, rfl⟩ : ∃ n : Nat, z = n := ⟨z.toNat, by omega⟩
      have n1 : 1 ≤ n := by omega
      have n12 : n ≤ 12 := by omega
      refine ⟨n, le, us2, En, rfl, hle, ple, by omega, fun nn => absurd z12 nn, fun h1 h2 => ⟨fun good H7 s7 => ?_, fun k bk H7 s7 => ?_⟩⟩
      · walk_at "rd"
        refine ⟨us2, .inl (SqL.of (s7 _ _ hle)), fun lh nlh => ?_⟩
        have s8 := s7.trans (same_upd (o := HO.lst us2) nlh)
        refine ⟨n, lh, us2, En, rfl, upd_same, ple.kt (KT.same s8), by omega, fun nn => absurd z12 nn, fun h1 h2 => ⟨fun _ H9 s9 => ?_, fun k' bk' => absurd good (bad_not bk')⟩⟩
        have s79 := s8.trans s9
        refine same_ok (PL.sm (s9 _ _ upd_same) (s79 _ _ hle) (ple.kt (KT.same s79)) (ple.kt (KT.same s79)) (by omega) 0) ⟨true, rfl, iteF ?_⟩
        rw [if_pos trivial, if_neg (show ¬ (!decide (V.non = V.non)) = true by simp)]
        exact ⟨n, le, us2, En, rfl, s79 _ _ hle, ple.kt (KT.same s79), n1, n12, good, fun H10 s10 => ⟨true, rfl, iteF (tail _ _ _ H10)⟩⟩
      · walk_at "rd"
        refine ⟨us2, .inl (SqL.of (s7 _ _ hle)), fun lh nlh => ?_⟩
        have s8 := s7.trans (same_upd (o := HO.lst us2) nlh)
        refine ⟨n, lh, us2, En, rfl, upd_same, ple.kt (KT.same s8), by omega, fun nn => absurd z12 nn, fun h1 h2 => ⟨fun good => absurd good (bad_not bk), fun k' bk' t H9 s9 ht => ?_⟩⟩
        have ek := badK_uniq bk bk'
        subst ek
        have s79 := s8.trans s9
        refine same_ok (PL.sm (s9 _ _ upd_same) (s79 _ _ hle) (ple.kt (KT.same s79)) (ple.kt (KT.same s79)) (by omega) 0) ⟨true, rfl, iteF ?_⟩
        rw [if_neg (show ¬ False from id)]
        refine ⟨by decide, fun u nu => ?_⟩
        have s10 := same_upd (o := HO.tup [V.int (k : Int), V.bl true, V.bl true, V.bl false]) nu
        refine same_ok (sm4 (s10 _ _ ht) upd_same (by simp [flat4]) (by show 4 ≤ 100000; decide)) ⟨true, rfl, iteF ?_⟩
        have s7x := s79.trans s10
        have kl := bk.1
        rw [List.length_map] at kl
        rw [if_neg (show ¬ False from id)]
        rw [if_pos (show (0 : Int) ≤ (k : Int) by omega)]
        refine ⟨us2, SqL.of (s7x _ _ hle), fun p np => ?_⟩
        rw [cut_take]
        have s11 := s7x.trans (same_upd (o := HO.lst (us2.take k)) np)
        have gk : GoodD (n : Int) ((En.take k).map mm2) := by
          rw [List.map_take]
          exact bk.2.1
        exact ⟨n, p, us2.take k, En.take k, rfl, upd_same, paired_take k (ple.kt (KT.same s11)), n1, n12, gk, fun H10 _ => ⟨true, rfl, iteF (tail _ _ _ H10)⟩⟩
end

set_option maxHeartbeats 8000000 in
theorem all_mk {l : PySem.W.OpenLaw} {w : World} {K : PySem.W.Frag} {h : Heap} {mg : Str → Option Value} {fa : Addr} (X : K.In h) (G : h.Ns mainGlobals mg) (hfa : mg "law" = some (.ref fa))
    {f_check_room_count : Addr} {od_check_room_count an_check_room_count : Option Addr} {sl_check_room_count : Array (Option Value)} {oc_check_room_count kV_check_room_count dc_check_room_count pm_check_room_count cd_check_room_count ct_check_room_count : Value}
    {f_checked_doors : Addr} {od_checked_doors an_checked_doors : Option Addr} {sl_checked_doors : Array (Option Value)} {oc_checked_doors kV_checked_doors dc_checked_doors pm_checked_doors cd_checked_doors ct_checked_doors : Value}
    {f_corridor_doors : Addr} {od_corridor_doors an_corridor_doors : Option Addr} {sl_corridor_doors : Array (Option Value)} {oc_corridor_doors kV_corridor_doors dc_corridor_doors pm_corridor_doors cd_corridor_doors ct_corridor_doors : Value}
    {f__law_cell : Addr} {od__law_cell an__law_cell : Option Addr} {sl__law_cell : Array (Option Value)} {oc__law_cell kV__law_cell dc__law_cell pm__law_cell cd__law_cell ct__law_cell : Value}
    {f__law_numbers : Addr} {od__law_numbers an__law_numbers : Option Addr} {sl__law_numbers : Array (Option Value)} {oc__law_numbers kV__law_numbers dc__law_numbers pm__law_numbers cd__law_numbers ct__law_numbers : Value}
    {f__law_names : Addr} {od__law_names an__law_names : Option Addr} {sl__law_names : Array (Option Value)} {oc__law_names kV__law_names dc__law_names pm__law_names cd__law_names ct__law_names : Value}
    {f__law_joined : Addr} {od__law_joined an__law_joined : Option Addr} {sl__law_joined : Array (Option Value)} {oc__law_joined kV__law_joined dc__law_joined pm__law_joined cd__law_joined ct__law_joined : Value}
    {f__law_doors : Addr} {od__law_doors an__law_doors : Option Addr} {sl__law_doors : Array (Option Value)} {oc__law_doors kV__law_doors dc__law_doors pm__law_doors cd__law_doors ct__law_doors : Value}
    {f__law_same : Addr} {od__law_same an__law_same : Option Addr} {sl__law_same : Array (Option Value)} {oc__law_same kV__law_same dc__law_same pm__law_same cd__law_same ct__law_same : Value}
    {f__law_passed : Addr} {od__law_passed an__law_passed : Option Addr} {sl__law_passed : Array (Option Value)} {oc__law_passed kV__law_passed dc__law_passed pm__law_passed cd__law_passed ct__law_passed : Value}
    {f__law_bad_pair : Addr} {od__law_bad_pair an__law_bad_pair : Option Addr} {sl__law_bad_pair : Array (Option Value)} {oc__law_bad_pair kV__law_bad_pair dc__law_bad_pair pm__law_bad_pair cd__law_bad_pair ct__law_bad_pair : Value}
    {f__law_spoilt : Addr} {od__law_spoilt an__law_spoilt : Option Addr} {sl__law_spoilt : Array (Option Value)} {oc__law_spoilt kV__law_spoilt dc__law_spoilt pm__law_spoilt cd__law_spoilt ct__law_spoilt : Value}
    {f__law_integer : Addr} {od__law_integer an__law_integer : Option Addr} {sl__law_integer : Array (Option Value)} {oc__law_integer kV__law_integer dc__law_integer pm__law_integer cd__law_integer ct__law_integer : Value}
    {f__law_entries : Addr} {od__law_entries an__law_entries : Option Addr} {sl__law_entries : Array (Option Value)} {oc__law_entries kV__law_entries dc__law_entries pm__law_entries cd__law_entries ct__law_entries : Value}
    {f__law_asked_rooms : Addr} {od__law_asked_rooms an__law_asked_rooms : Option Addr} {sl__law_asked_rooms : Array (Option Value)} {oc__law_asked_rooms kV__law_asked_rooms dc__law_asked_rooms pm__law_asked_rooms cd__law_asked_rooms ct__law_asked_rooms : Value}
    {f__law_first_bad : Addr} {od__law_first_bad an__law_first_bad : Option Addr} {sl__law_first_bad : Array (Option Value)} {oc__law_first_bad kV__law_first_bad dc__law_first_bad pm__law_first_bad cd__law_first_bad ct__law_first_bad : Value}
    {f__law_refused : Addr} {od__law_refused an__law_refused : Option Addr} {sl__law_refused : Array (Option Value)} {oc__law_refused kV__law_refused dc__law_refused pm__law_refused cd__law_refused ct__law_refused : Value}
    {f__law_is_made : Addr} {od__law_is_made an__law_is_made : Option Addr} {sl__law_is_made : Array (Option Value)} {oc__law_is_made kV__law_is_made dc__law_is_made pm__law_is_made cd__law_is_made ct__law_is_made : Value}
    {f__law_made : Addr} {od__law_made an__law_made : Option Addr} {sl__law_made : Array (Option Value)} {oc__law_made kV__law_made dc__law_made pm__law_made cd__law_made ct__law_made : Value}
    {f__law_maker_refused : Addr} {od__law_maker_refused an__law_maker_refused : Option Addr} {sl__law_maker_refused : Array (Option Value)} {oc__law_maker_refused kV__law_maker_refused dc__law_maker_refused pm__law_maker_refused cd__law_maker_refused ct__law_maker_refused : Value}
    {f__law_maker_doors : Addr} {od__law_maker_doors an__law_maker_doors : Option Addr} {sl__law_maker_doors : Array (Option Value)} {oc__law_maker_doors kV__law_maker_doors dc__law_maker_doors pm__law_maker_doors cd__law_maker_doors ct__law_maker_doors : Value}
    {f__law_maker_right : Addr} {od__law_maker_right an__law_maker_right : Option Addr} {sl__law_maker_right : Array (Option Value)} {oc__law_maker_right kV__law_maker_right dc__law_maker_right pm__law_maker_right cd__law_maker_right ct__law_maker_right : Value}
    {f_law : Addr} {od_law an_law : Option Addr} {sl_law : Array (Option Value)} {oc_law kV_law dc_law pm_law cd_law ct_law : Value}
    {f_m_init_ : Addr} {od_m_init_ an_m_init_ : Option Addr} {sl_m_init_ : Array (Option Value)} {oc_m_init_ kV_m_init_ dc_m_init_ pm_m_init_ cd_m_init_ ct_m_init_ : Value}
    {f_mdoors : Addr} {od_mdoors an_mdoors : Option Addr} {sl_mdoors : Array (Option Value)} {oc_mdoors kV_mdoors dc_mdoors pm_mdoors cd_mdoors ct_mdoors : Value}
    {f_mneighbours : Addr} {od_mneighbours an_mneighbours : Option Addr} {sl_mneighbours : Array (Option Value)} {oc_mneighbours kV_mneighbours dc_mneighbours pm_mneighbours cd_mneighbours ct_mneighbours : Value}
    {f_mhas_door : Addr} {od_mhas_door an_mhas_door : Option Addr} {sl_mhas_door : Array (Option Value)} {oc_mhas_door kV_mhas_door dc_mhas_door pm_mhas_door cd_mhas_door ct_mhas_door : Value}
    {pa_pdoor_count : Addr} {rs_pdoor_count : List Value}
    {f_pdoor_count : Addr} {od_pdoor_count an_pdoor_count : Option Addr} {sl_pdoor_count : Array (Option Value)} {oc_pdoor_count kV_pdoor_count dc_pdoor_count pm_pdoor_count cd_pdoor_count ct_pdoor_count : Value}
    {pa_scorridor : Addr} {rs_scorridor : List Value}
    {f_scorridor : Addr} {od_scorridor an_scorridor : Option Addr} {sl_scorridor : Array (Option Value)} {oc_scorridor kV_scorridor dc_scorridor pm_scorridor cd_scorridor ct_scorridor : Value}
    {pa_sring : Addr} {rs_sring : List Value}
    {f_sring : Addr} {od_sring an_sring : Option Addr} {sl_sring : Array (Option Value)} {oc_sring kV_sring dc_sring pm_sring cd_sring ct_sring : Value}
    {pa_sstar : Addr} {rs_sstar : List Value}
    {f_sstar : Addr} {od_sstar an_sstar : Option Addr} {sl_sstar : Array (Option Value)} {oc_sstar kV_sstar dc_sstar pm_sstar cd_sstar ct_sstar : Value}
    {pa_sfull : Addr} {rs_sfull : List Value}
    {f_sfull : Addr} {od_sfull an_sfull : Option Addr} {sl_sfull : Array (Option Value)} {oc_sfull kV_sfull dc_sfull pm_sfull cd_sfull ct_sfull : Value}
    {CE CB CR : Addr}
    {C : Addr}
    {tk_MOST_ROOMS : Tok}
    {CT : Addr} {nm_e q_e : Str} {N_e : Addr} {bs_e : List Value} {sn_e : List Str} {sub_e : List Value} {ab_e : Bool} {col_e : Option Bool} {dd_e : Option Addr} {m0_e m1_e m2_e m3_e m5_e : Option Value}
    {f_einit : Addr} {od_einit an_einit : Option Addr} {sl_einit : Array (Option Value)} {oc_einit kV_einit dc_einit pm_einit cd_einit ct_einit : Value}
    (aC : PySem.W.nsIn K mainGlobals "House" = some (some (.ref C)))
    (pg : PySem.W.plainGet K C Str.empty = true)
    (hd : PySem.W.hasDictIn K C = true)
    (po : PySem.W.plainOver K C = true)
    (sa : PySem.W.findIn K (.ref C) "__setattr__" = some (some (.builtin "object.__setattr__")))
    (mk : PySem.W.makesIn K C = true)
    (kc : PySem.W.keepIn K (.ref C) = true)
    (a_check_room_count : PySem.W.nsIn K mainGlobals "check_room_count" = some (some (.ref f_check_room_count)))
    (l_check_room_count : K.lookup f_check_room_count = some ⟨oc_check_room_count, od_check_room_count, .func (PySem.W.fnOf "check_room_count" "check_room_count" (defArgs sRoom) (defBody sRoom) (defScope sRoom) .none kV_check_room_count dc_check_room_count pm_check_room_count an_check_room_count cd_check_room_count ct_check_room_count), sl_check_room_count⟩)
    (c_check_room_count : PySem.W.codeIn K cd_check_room_count "check_room_count" = true)
    (k_check_room_count : PySem.W.keepIn K (.ref f_check_room_count) = true)
    (a_checked_doors : PySem.W.nsIn K mainGlobals "checked_doors" = some (some (.ref f_checked_doors)))
    (l_checked_doors : K.lookup f_checked_doors = some ⟨oc_checked_doors, od_checked_doors, .func (PySem.W.fnOf "checked_doors" "checked_doors" (defArgs sChk) (defBody sChk) (defScope sChk) .none kV_checked_doors dc_checked_doors pm_checked_doors an_checked_doors cd_checked_doors ct_checked_doors), sl_checked_doors⟩)
    (c_checked_doors : PySem.W.codeIn K cd_checked_doors "checked_doors" = true)
    (k_checked_doors : PySem.W.keepIn K (.ref f_checked_doors) = true)
    (a_corridor_doors : PySem.W.nsIn K mainGlobals "corridor_doors" = some (some (.ref f_corridor_doors)))
    (l_corridor_doors : K.lookup f_corridor_doors = some ⟨oc_corridor_doors, od_corridor_doors, .func (PySem.W.fnOf "corridor_doors" "corridor_doors" (defArgs sCd) (defBody sCd) (defScope sCd) .none kV_corridor_doors dc_corridor_doors pm_corridor_doors an_corridor_doors cd_corridor_doors ct_corridor_doors), sl_corridor_doors⟩)
    (c_corridor_doors : PySem.W.codeIn K cd_corridor_doors "corridor_doors" = true)
    (k_corridor_doors : PySem.W.keepIn K (.ref f_corridor_doors) = true)
    (a__law_cell : PySem.W.nsIn K mainGlobals "_law_cell" = some (some (.ref f__law_cell)))
    (l__law_cell : K.lookup f__law_cell = some ⟨oc__law_cell, od__law_cell, .func (PySem.W.fnOf "_law_cell" "_law_cell" (defArgs sCell) (defBody sCell) (defScope sCell) .none kV__law_cell dc__law_cell pm__law_cell an__law_cell cd__law_cell ct__law_cell), sl__law_cell⟩)
    (c__law_cell : PySem.W.codeIn K cd__law_cell "_law_cell" = true)
    (k__law_cell : PySem.W.keepIn K (.ref f__law_cell) = true)
    (a__law_numbers : PySem.W.nsIn K mainGlobals "_law_numbers" = some (some (.ref f__law_numbers)))
    (l__law_numbers : K.lookup f__law_numbers = some ⟨oc__law_numbers, od__law_numbers, .func (PySem.W.fnOf "_law_numbers" "_law_numbers" (defArgs sNum) (defBody sNum) (defScope sNum) .none kV__law_numbers dc__law_numbers pm__law_numbers an__law_numbers cd__law_numbers ct__law_numbers), sl__law_numbers⟩)
    (c__law_numbers : PySem.W.codeIn K cd__law_numbers "_law_numbers" = true)
    (k__law_numbers : PySem.W.keepIn K (.ref f__law_numbers) = true)
    (a__law_names : PySem.W.nsIn K mainGlobals "_law_names" = some (some (.ref f__law_names)))
    (l__law_names : K.lookup f__law_names = some ⟨oc__law_names, od__law_names, .func (PySem.W.fnOf "_law_names" "_law_names" (defArgs sNam) (defBody sNam) (defScope sNam) .none kV__law_names dc__law_names pm__law_names an__law_names cd__law_names ct__law_names), sl__law_names⟩)
    (c__law_names : PySem.W.codeIn K cd__law_names "_law_names" = true)
    (k__law_names : PySem.W.keepIn K (.ref f__law_names) = true)
    (a__law_joined : PySem.W.nsIn K mainGlobals "_law_joined" = some (some (.ref f__law_joined)))
    (l__law_joined : K.lookup f__law_joined = some ⟨oc__law_joined, od__law_joined, .func (PySem.W.fnOf "_law_joined" "_law_joined" (defArgs sJnd) (defBody sJnd) (defScope sJnd) .none kV__law_joined dc__law_joined pm__law_joined an__law_joined cd__law_joined ct__law_joined), sl__law_joined⟩)
    (c__law_joined : PySem.W.codeIn K cd__law_joined "_law_joined" = true)
    (k__law_joined : PySem.W.keepIn K (.ref f__law_joined) = true)
    (a__law_doors : PySem.W.nsIn K mainGlobals "_law_doors" = some (some (.ref f__law_doors)))
    (l__law_doors : K.lookup f__law_doors = some ⟨oc__law_doors, od__law_doors, .func (PySem.W.fnOf "_law_doors" "_law_doors" (defArgs sDrs) (defBody sDrs) (defScope sDrs) .none kV__law_doors dc__law_doors pm__law_doors an__law_doors cd__law_doors ct__law_doors), sl__law_doors⟩)
    (c__law_doors : PySem.W.codeIn K cd__law_doors "_law_doors" = true)
    (k__law_doors : PySem.W.keepIn K (.ref f__law_doors) = true)
    (a__law_same : PySem.W.nsIn K mainGlobals "_law_same" = some (some (.ref f__law_same)))
    (l__law_same : K.lookup f__law_same = some ⟨oc__law_same, od__law_same, .func (PySem.W.fnOf "_law_same" "_law_same" (defArgs sSame) (defBody sSame) (defScope sSame) .none kV__law_same dc__law_same pm__law_same an__law_same cd__law_same ct__law_same), sl__law_same⟩)
    (c__law_same : PySem.W.codeIn K cd__law_same "_law_same" = true)
    (k__law_same : PySem.W.keepIn K (.ref f__law_same) = true)
    (a__law_passed : PySem.W.nsIn K mainGlobals "_law_passed" = some (some (.ref f__law_passed)))
    (l__law_passed : K.lookup f__law_passed = some ⟨oc__law_passed, od__law_passed, .func (PySem.W.fnOf "_law_passed" "_law_passed" (defArgs sPass) (defBody sPass) (defScope sPass) .none kV__law_passed dc__law_passed pm__law_passed an__law_passed cd__law_passed ct__law_passed), sl__law_passed⟩)
    (c__law_passed : PySem.W.codeIn K cd__law_passed "_law_passed" = true)
    (k__law_passed : PySem.W.keepIn K (.ref f__law_passed) = true)
    (a__law_bad_pair : PySem.W.nsIn K mainGlobals "_law_bad_pair" = some (some (.ref f__law_bad_pair)))
    (l__law_bad_pair : K.lookup f__law_bad_pair = some ⟨oc__law_bad_pair, od__law_bad_pair, .func (PySem.W.fnOf "_law_bad_pair" "_law_bad_pair" (defArgs sBp) (defBody sBp) (defScope sBp) .none kV__law_bad_pair dc__law_bad_pair pm__law_bad_pair an__law_bad_pair cd__law_bad_pair ct__law_bad_pair), sl__law_bad_pair⟩)
    (c__law_bad_pair : PySem.W.codeIn K cd__law_bad_pair "_law_bad_pair" = true)
    (k__law_bad_pair : PySem.W.keepIn K (.ref f__law_bad_pair) = true)
    (a__law_spoilt : PySem.W.nsIn K mainGlobals "_law_spoilt" = some (some (.ref f__law_spoilt)))
    (l__law_spoilt : K.lookup f__law_spoilt = some ⟨oc__law_spoilt, od__law_spoilt, .func (PySem.W.fnOf "_law_spoilt" "_law_spoilt" (defArgs sSpo) (defBody sSpo) (defScope sSpo) .none kV__law_spoilt dc__law_spoilt pm__law_spoilt an__law_spoilt cd__law_spoilt ct__law_spoilt), sl__law_spoilt⟩)
    (c__law_spoilt : PySem.W.codeIn K cd__law_spoilt "_law_spoilt" = true)
    (k__law_spoilt : PySem.W.keepIn K (.ref f__law_spoilt) = true)
    (a__law_integer : PySem.W.nsIn K mainGlobals "_law_integer" = some (some (.ref f__law_integer)))
    (l__law_integer : K.lookup f__law_integer = some ⟨oc__law_integer, od__law_integer, .func (PySem.W.fnOf "_law_integer" "_law_integer" (defArgs sInt) (defBody sInt) (defScope sInt) .none kV__law_integer dc__law_integer pm__law_integer an__law_integer cd__law_integer ct__law_integer), sl__law_integer⟩)
    (c__law_integer : PySem.W.codeIn K cd__law_integer "_law_integer" = true)
    (k__law_integer : PySem.W.keepIn K (.ref f__law_integer) = true)
    (a__law_entries : PySem.W.nsIn K mainGlobals "_law_entries" = some (some (.ref f__law_entries)))
    (l__law_entries : K.lookup f__law_entries = some ⟨oc__law_entries, od__law_entries, .func (PySem.W.fnOf "_law_entries" "_law_entries" (defArgs sEnt) (defBody sEnt) (defScope sEnt) .none kV__law_entries dc__law_entries pm__law_entries an__law_entries cd__law_entries ct__law_entries), sl__law_entries⟩)
    (c__law_entries : PySem.W.codeIn K cd__law_entries "_law_entries" = true)
    (k__law_entries : PySem.W.keepIn K (.ref f__law_entries) = true)
    (a__law_asked_rooms : PySem.W.nsIn K mainGlobals "_law_asked_rooms" = some (some (.ref f__law_asked_rooms)))
    (l__law_asked_rooms : K.lookup f__law_asked_rooms = some ⟨oc__law_asked_rooms, od__law_asked_rooms, .func (PySem.W.fnOf "_law_asked_rooms" "_law_asked_rooms" (defArgs sAsk) (defBody sAsk) (defScope sAsk) .none kV__law_asked_rooms dc__law_asked_rooms pm__law_asked_rooms an__law_asked_rooms cd__law_asked_rooms ct__law_asked_rooms), sl__law_asked_rooms⟩)
    (c__law_asked_rooms : PySem.W.codeIn K cd__law_asked_rooms "_law_asked_rooms" = true)
    (k__law_asked_rooms : PySem.W.keepIn K (.ref f__law_asked_rooms) = true)
    (a__law_first_bad : PySem.W.nsIn K mainGlobals "_law_first_bad" = some (some (.ref f__law_first_bad)))
    (l__law_first_bad : K.lookup f__law_first_bad = some ⟨oc__law_first_bad, od__law_first_bad, .func (PySem.W.fnOf "_law_first_bad" "_law_first_bad" (defArgs sFb) (defBody sFb) (defScope sFb) .none kV__law_first_bad dc__law_first_bad pm__law_first_bad an__law_first_bad cd__law_first_bad ct__law_first_bad), sl__law_first_bad⟩)
    (c__law_first_bad : PySem.W.codeIn K cd__law_first_bad "_law_first_bad" = true)
    (k__law_first_bad : PySem.W.keepIn K (.ref f__law_first_bad) = true)
    (a__law_refused : PySem.W.nsIn K mainGlobals "_law_refused" = some (some (.ref f__law_refused)))
    (l__law_refused : K.lookup f__law_refused = some ⟨oc__law_refused, od__law_refused, .func (PySem.W.fnOf "_law_refused" "_law_refused" (defArgs sRef) (defBody sRef) (defScope sRef) .none kV__law_refused dc__law_refused pm__law_refused an__law_refused cd__law_refused ct__law_refused), sl__law_refused⟩)
    (c__law_refused : PySem.W.codeIn K cd__law_refused "_law_refused" = true)
    (k__law_refused : PySem.W.keepIn K (.ref f__law_refused) = true)
    (a__law_is_made : PySem.W.nsIn K mainGlobals "_law_is_made" = some (some (.ref f__law_is_made)))
    (l__law_is_made : K.lookup f__law_is_made = some ⟨oc__law_is_made, od__law_is_made, .func (PySem.W.fnOf "_law_is_made" "_law_is_made" (defArgs sIm) (defBody sIm) (defScope sIm) .none kV__law_is_made dc__law_is_made pm__law_is_made an__law_is_made cd__law_is_made ct__law_is_made), sl__law_is_made⟩)
    (c__law_is_made : PySem.W.codeIn K cd__law_is_made "_law_is_made" = true)
    (k__law_is_made : PySem.W.keepIn K (.ref f__law_is_made) = true)
    (a__law_made : PySem.W.nsIn K mainGlobals "_law_made" = some (some (.ref f__law_made)))
    (l__law_made : K.lookup f__law_made = some ⟨oc__law_made, od__law_made, .func (PySem.W.fnOf "_law_made" "_law_made" (defArgs sLmade) (defBody sLmade) (defScope sLmade) .none kV__law_made dc__law_made pm__law_made an__law_made cd__law_made ct__law_made), sl__law_made⟩)
    (c__law_made : PySem.W.codeIn K cd__law_made "_law_made" = true)
    (k__law_made : PySem.W.keepIn K (.ref f__law_made) = true)
    (a__law_maker_refused : PySem.W.nsIn K mainGlobals "_law_maker_refused" = some (some (.ref f__law_maker_refused)))
    (l__law_maker_refused : K.lookup f__law_maker_refused = some ⟨oc__law_maker_refused, od__law_maker_refused, .func (PySem.W.fnOf "_law_maker_refused" "_law_maker_refused" (defArgs sMr) (defBody sMr) (defScope sMr) .none kV__law_maker_refused dc__law_maker_refused pm__law_maker_refused an__law_maker_refused cd__law_maker_refused ct__law_maker_refused), sl__law_maker_refused⟩)
    (c__law_maker_refused : PySem.W.codeIn K cd__law_maker_refused "_law_maker_refused" = true)
    (k__law_maker_refused : PySem.W.keepIn K (.ref f__law_maker_refused) = true)
    (a__law_maker_doors : PySem.W.nsIn K mainGlobals "_law_maker_doors" = some (some (.ref f__law_maker_doors)))
    (l__law_maker_doors : K.lookup f__law_maker_doors = some ⟨oc__law_maker_doors, od__law_maker_doors, .func (PySem.W.fnOf "_law_maker_doors" "_law_maker_doors" (defArgs sMd) (defBody sMd) (defScope sMd) .none kV__law_maker_doors dc__law_maker_doors pm__law_maker_doors an__law_maker_doors cd__law_maker_doors ct__law_maker_doors), sl__law_maker_doors⟩)
    (c__law_maker_doors : PySem.W.codeIn K cd__law_maker_doors "_law_maker_doors" = true)
    (k__law_maker_doors : PySem.W.keepIn K (.ref f__law_maker_doors) = true)
    (a__law_maker_right : PySem.W.nsIn K mainGlobals "_law_maker_right" = some (some (.ref f__law_maker_right)))
    (l__law_maker_right : K.lookup f__law_maker_right = some ⟨oc__law_maker_right, od__law_maker_right, .func (PySem.W.fnOf "_law_maker_right" "_law_maker_right" (defArgs sMkr) (defBody sMkr) (defScope sMkr) .none kV__law_maker_right dc__law_maker_right pm__law_maker_right an__law_maker_right cd__law_maker_right ct__law_maker_right), sl__law_maker_right⟩)
    (c__law_maker_right : PySem.W.codeIn K cd__law_maker_right "_law_maker_right" = true)
    (k__law_maker_right : PySem.W.keepIn K (.ref f__law_maker_right) = true)
    (a_law : PySem.W.nsIn K mainGlobals "law" = some (some (.ref f_law)))
    (l_law : K.lookup f_law = some ⟨oc_law, od_law, .func (PySem.W.fnOf "law" "law" (defArgs sLaw) (defBody sLaw) (defScope sLaw) .none kV_law dc_law pm_law an_law cd_law ct_law), sl_law⟩)
    (c_law : PySem.W.codeIn K cd_law "law" = true)
    (k_law : PySem.W.keepIn K (.ref f_law) = true)
    (a_m_init_ : PySem.W.findIn K (.ref C) "__init__" = some (some (.ref f_m_init_)))
    (l_m_init_ : K.lookup f_m_init_ = some ⟨oc_m_init_, od_m_init_, .func (PySem.W.fnOf "__init__" "House.__init__" (defArgs sHinit) (defBody sHinit) (defScope sHinit) .none kV_m_init_ dc_m_init_ pm_m_init_ an_m_init_ cd_m_init_ ct_m_init_), sl_m_init_⟩)
    (c_m_init_ : PySem.W.codeIn K cd_m_init_ "House.__init__" = true)
    (k_m_init_ : PySem.W.keepIn K (.ref f_m_init_) = true)
    (i_m_init_ : PySem.W.isFn K (.ref f_m_init_) = true)
    (a_mdoors : PySem.W.findIn K (.ref C) "doors" = some (some (.ref f_mdoors)))
    (l_mdoors : K.lookup f_mdoors = some ⟨oc_mdoors, od_mdoors, .func (PySem.W.fnOf "doors" "House.doors" (defArgs sHdoors) (defBody sHdoors) (defScope sHdoors) .none kV_mdoors dc_mdoors pm_mdoors an_mdoors cd_mdoors ct_mdoors), sl_mdoors⟩)
    (c_mdoors : PySem.W.codeIn K cd_mdoors "House.doors" = true)
    (k_mdoors : PySem.W.keepIn K (.ref f_mdoors) = true)
    (i_mdoors : PySem.W.isFn K (.ref f_mdoors) = true)
    (a_mneighbours : PySem.W.findIn K (.ref C) "neighbours" = some (some (.ref f_mneighbours)))
    (l_mneighbours : K.lookup f_mneighbours = some ⟨oc_mneighbours, od_mneighbours, .func (PySem.W.fnOf "neighbours" "House.neighbours" (defArgs sHnear) (defBody sHnear) (defScope sHnear) .none kV_mneighbours dc_mneighbours pm_mneighbours an_mneighbours cd_mneighbours ct_mneighbours), sl_mneighbours⟩)
    (c_mneighbours : PySem.W.codeIn K cd_mneighbours "House.neighbours" = true)
    (k_mneighbours : PySem.W.keepIn K (.ref f_mneighbours) = true)
    (i_mneighbours : PySem.W.isFn K (.ref f_mneighbours) = true)
    (a_mhas_door : PySem.W.findIn K (.ref C) "has_door" = some (some (.ref f_mhas_door)))
    (l_mhas_door : K.lookup f_mhas_door = some ⟨oc_mhas_door, od_mhas_door, .func (PySem.W.fnOf "has_door" "House.has_door" (defArgs sHhas) (defBody sHhas) (defScope sHhas) .none kV_mhas_door dc_mhas_door pm_mhas_door an_mhas_door cd_mhas_door ct_mhas_door), sl_mhas_door⟩)
    (c_mhas_door : PySem.W.codeIn K cd_mhas_door "House.has_door" = true)
    (k_mhas_door : PySem.W.keepIn K (.ref f_mhas_door) = true)
    (i_mhas_door : PySem.W.isFn K (.ref f_mhas_door) = true)
    (a_pdoor_count : PySem.W.findIn K (.ref C) "door_count" = some (some (.ref pa_pdoor_count)))
    (g_pdoor_count : PySem.W.specialIn K (.ref pa_pdoor_count) "__get__" = some (some (.builtin "property.__get__")))
    (t_pdoor_count : PySem.W.takesIn K (.ref pa_pdoor_count) = some true)
    (r_pdoor_count : PySem.W.recIn K pa_pdoor_count "property" = some (.ref f_pdoor_count :: rs_pdoor_count))
    (l_pdoor_count : K.lookup f_pdoor_count = some ⟨oc_pdoor_count, od_pdoor_count, .func (PySem.W.fnOf "door_count" "House.door_count" (defArgs sHcount) (defBody sHcount) (defScope sHcount) .none kV_pdoor_count dc_pdoor_count pm_pdoor_count an_pdoor_count cd_pdoor_count ct_pdoor_count), sl_pdoor_count⟩)
    (c_pdoor_count : PySem.W.codeIn K cd_pdoor_count "House.door_count" = true)
    (k_pdoor_count : PySem.W.keepIn K (.ref f_pdoor_count) = true)
    (a_scorridor : PySem.W.findCls K (.ref C) (.type "type") "corridor" = some (.get (.builtin "staticmethod.__get__") (.ref pa_scorridor) .none (.ref C)))
    (r_scorridor : PySem.W.recIn K pa_scorridor "staticmethod" = some (.ref f_scorridor :: rs_scorridor))
    (l_scorridor : K.lookup f_scorridor = some ⟨oc_scorridor, od_scorridor, .func (PySem.W.fnOf "corridor" "House.corridor" (defArgs sHcor) (defBody sHcor) (defScope sHcor) .none kV_scorridor dc_scorridor pm_scorridor an_scorridor cd_scorridor ct_scorridor), sl_scorridor⟩)
    (c_scorridor : PySem.W.codeIn K cd_scorridor "House.corridor" = true)
    (k_scorridor : PySem.W.keepIn K (.ref f_scorridor) = true)
    (a_sring : PySem.W.findCls K (.ref C) (.type "type") "ring" = some (.get (.builtin "staticmethod.__get__") (.ref pa_sring) .none (.ref C)))
    (r_sring : PySem.W.recIn K pa_sring "staticmethod" = some (.ref f_sring :: rs_sring))
    (l_sring : K.lookup f_sring = some ⟨oc_sring, od_sring, .func (PySem.W.fnOf "ring" "House.ring" (defArgs sHring) (defBody sHring) (defScope sHring) .none kV_sring dc_sring pm_sring an_sring cd_sring ct_sring), sl_sring⟩)
    (c_sring : PySem.W.codeIn K cd_sring "House.ring" = true)
    (k_sring : PySem.W.keepIn K (.ref f_sring) = true)
    (a_sstar : PySem.W.findCls K (.ref C) (.type "type") "star" = some (.get (.builtin "staticmethod.__get__") (.ref pa_sstar) .none (.ref C)))
    (r_sstar : PySem.W.recIn K pa_sstar "staticmethod" = some (.ref f_sstar :: rs_sstar))
    (l_sstar : K.lookup f_sstar = some ⟨oc_sstar, od_sstar, .func (PySem.W.fnOf "star" "House.star" (defArgs sHstar) (defBody sHstar) (defScope sHstar) .none kV_sstar dc_sstar pm_sstar an_sstar cd_sstar ct_sstar), sl_sstar⟩)
    (c_sstar : PySem.W.codeIn K cd_sstar "House.star" = true)
    (k_sstar : PySem.W.keepIn K (.ref f_sstar) = true)
    (a_sfull : PySem.W.findCls K (.ref C) (.type "type") "full" = some (.get (.builtin "staticmethod.__get__") (.ref pa_sfull) .none (.ref C)))
    (r_sfull : PySem.W.recIn K pa_sfull "staticmethod" = some (.ref f_sfull :: rs_sfull))
    (l_sfull : K.lookup f_sfull = some ⟨oc_sfull, od_sfull, .func (PySem.W.fnOf "full" "House.full" (defArgs sHfull) (defBody sHfull) (defScope sHfull) .none kV_sfull dc_sfull pm_sfull an_sfull cd_sfull ct_sfull), sl_sfull⟩)
    (c_sfull : PySem.W.codeIn K cd_sfull "House.full" = true)
    (k_sfull : PySem.W.keepIn K (.ref f_sfull) = true)
    (n_rooms : PySem.W.findIn K (.ref C) "rooms" = some none)
    (n__doors : PySem.W.findIn K (.ref C) "_doors" = some none)
    (n__near : PySem.W.findIn K (.ref C) "_near" = some none)
    (cr1 : PySem.W.readsIn K C (.type "type") = true)
    (cr2 : PySem.W.specialIn K (.ref C) "__getattribute__" = some (some (.builtin "type.__getattribute__")))
    (cv_MOST_ROOMS : PySem.W.findCls K (.ref C) (.type "type") "MOST_ROOMS" = some (.val (.int 12 tk_MOST_ROOMS)))
    (gE : PySem.W.nsIn K mainGlobals "CallsError" = some (some (.ref CE)))
    (eC : PySem.W.nsIn K mainGlobals "BadHouse" = some (some (.ref CT)))
    (exL : K.lookup CT = some (excClassObj nm_e q_e CT N_e bs_e [.ref CE, .type "ValueError", .type "Exception", .type "BaseException", .type "object"] true sn_e sub_e ab_e col_e dd_e m0_e m1_e m2_e m3_e m5_e "ValueError.__new__"))
    (esa : PySem.W.findIn K (.ref CT) "__setattr__" = some (some (.builtin "object.__setattr__")))
    (ega : PySem.W.findIn K (.ref CT) "__getattribute__" = some (some (.builtin "BaseException.__getattribute__")))
    (egg : PySem.W.findIn K (.ref CT) "__getattr__" = some none)
    (enf : PySem.W.findIn K (.ref CT) "place" = some none)
    (ei : PySem.W.findIn K (.ref CT) "__init__" = some (some (.ref f_einit)))
    (et : PySem.W.typeIn K (.ref f_einit) = some (.type "function"))
    (l_einit : K.lookup f_einit = some ⟨oc_einit, od_einit, .func (PySem.W.fnOf "__init__" "BadHouse.__init__" (defArgs sBinit) (defBody sBinit) (defScope sBinit) .none kV_einit dc_einit pm_einit an_einit cd_einit ct_einit), sl_einit⟩)
    (c_einit : PySem.W.codeIn K cd_einit "BadHouse.__init__" = true)
    (k_einit : PySem.W.keepIn K (.ref f_einit) = true)
    (ekC : PySem.W.keepIn K (.ref CT) = true)
    (eeC : PySem.W.subIn K (.ref CT) (.type "BaseException") = some true)
    (etC : PySem.W.typeIn K (.ref CT) = some (.type "type"))
    (ehC : PySem.W.hasDictIn K CT = true)
    (esC : PySem.W.subIn K (.ref CT) (.ref CT) = some true)
    (ecc : PySem.W.findIn K (.ref CT) "__class__" = some (some (.builtin "object.__class__")))
    (ehn : PySem.W.specialIn K (.builtin "object.__class__") "__get__" = some (some (.builtin "getset_descriptor.__get__")))
    (eht : PySem.W.takesIn K (.builtin "object.__class__") = some true)
    (ehm : PySem.W.mroIn K CT (.type "object") = some true)
    (gB : PySem.W.nsIn K mainGlobals "TooLarge" = some (some (.ref CB)))
    (gR : PySem.W.nsIn K mainGlobals "Refused" = some (some (.ref CR)))
    (isE : PySem.W.kitOne K (.ref CT) (.ref CE) = some true)
    (isV : PySem.W.kitOne K (.ref CT) (.type "ValueError") = some true)
    (noB : PySem.W.kitAny K (.ref CT) [.ref CR, .ref CB] = some false)
    (z_len : PySem.W.nsIn K mainGlobals "len" = some none)
    (z_abs : PySem.W.nsIn K mainGlobals "abs" = some none)
    (z_int : PySem.W.nsIn K mainGlobals "int" = some none)
    (z_range : PySem.W.nsIn K mainGlobals "range" = some none)
    (z_list : PySem.W.nsIn K mainGlobals "list" = some none)
    (z_tuple : PySem.W.nsIn K mainGlobals "tuple" = some none)
    (z_min : PySem.W.nsIn K mainGlobals "min" = some none)
    (z_max : PySem.W.nsIn K mainGlobals "max" = some none)
    (z_sorted : PySem.W.nsIn K mainGlobals "sorted" = some none)
    (z_isinstance : PySem.W.nsIn K mainGlobals "isinstance" = some none)
    (z_bool : PySem.W.nsIn K mainGlobals "bool" = some none)
    (z_str : PySem.W.nsIn K mainGlobals "str" = some none)
    (z_set : PySem.W.nsIn K mainGlobals "set" = some none)
    (z_enumerate : PySem.W.nsIn K mainGlobals "enumerate" = some none)
    (z_ValueError : PySem.W.nsIn K mainGlobals "ValueError" = some none) :
    ∃ fd : FuncData, (∀ (s : Shared) (v : Value), BindsTo s fd ⟨[v], []⟩ [("script", v)]) ∧ ∀ base : Heap, K.In base → base.Ns mainGlobals mg → FnOk l.prog w K mg base CX0 10 fa fd ["script"] (spLaw K) := by
  have e := hfa.symm.trans (PySem.W.mg_of X G a_law)
  cases e
  have T : Bi mg := ⟨PySem.W.mg_none_of X G z_len, PySem.W.mg_none_of X G z_abs, PySem.W.mg_none_of X G z_int, PySem.W.mg_none_of X G z_range, PySem.W.mg_none_of X G z_list, PySem.W.mg_none_of X G z_tuple, PySem.W.mg_none_of X G z_min, PySem.W.mg_none_of X G z_max, PySem.W.mg_none_of X G z_sorted, PySem.W.mg_none_of X G z_isinstance, PySem.W.mg_none_of X G z_bool, PySem.W.mg_none_of X G z_str, PySem.W.mg_none_of X G z_set, PySem.W.mg_none_of X G z_enumerate⟩
  have F_check_room_count := fun_mk (st := sRoom) l_check_room_count c_check_room_count k_check_room_count
  have at_check_room_count := PySem.W.mg_of X G a_check_room_count
  have b_check_room_count := F_check_room_count.binds (ps := ["rooms"]) fun _ _ _ _ _ _ us hl => match us, hl with | [_], _ => rfl
  have F_checked_doors := fun_mk (st := sChk) l_checked_doors c_checked_doors k_checked_doors
  have at_checked_doors := PySem.W.mg_of X G a_checked_doors
  have b_checked_doors := F_checked_doors.binds (ps := ["rooms", "doors"]) fun _ _ _ _ _ _ us hl => match us, hl with | [_, _], _ => rfl
  have F_corridor_doors := fun_mk (st := sCd) l_corridor_doors c_corridor_doors k_corridor_doors
  have at_corridor_doors := PySem.W.mg_of X G a_corridor_doors
  have b_corridor_doors := F_corridor_doors.binds (ps := ["rooms"]) fun _ _ _ _ _ _ us hl => match us, hl with | [_], _ => rfl
  have F__law_cell := fun_mk (st := sCell) l__law_cell c__law_cell k__law_cell
  have at__law_cell := PySem.W.mg_of X G a__law_cell
  have b__law_cell := F__law_cell.binds (ps := ["script", "k"]) fun _ _ _ _ _ _ us hl => match us, hl with | [_, _], _ => rfl
  have F__law_numbers := fun_mk (st := sNum) l__law_numbers c__law_numbers k__law_numbers
  have at__law_numbers := PySem.W.mg_of X G a__law_numbers
  have b__law_numbers := F__law_numbers.binds (ps := ["cell", "count"]) fun _ _ _ _ _ _ us hl => match us, hl with | [_, _], _ => rfl
  have F__law_names := fun_mk (st := sNam) l__law_names c__law_names k__law_names
  have at__law_names := PySem.W.mg_of X G a__law_names
  have b__law_names := F__law_names.binds (ps := ["numbers", "at", "rooms"]) fun _ _ _ _ _ _ us hl => match us, hl with | [_, _, _], _ => rfl
  have F__law_joined := fun_mk (st := sJnd) l__law_joined c__law_joined k__law_joined
  have at__law_joined := PySem.W.mg_of X G a__law_joined
  have b__law_joined := F__law_joined.binds (ps := ["kind", "a", "b", "rooms", "number", "parent"]) fun _ _ _ _ _ _ us hl => match us, hl with | [_, _, _, _, _, _], _ => rfl
  have F__law_doors := fun_mk (st := sDrs) l__law_doors c__law_doors k__law_doors
  have at__law_doors := PySem.W.mg_of X G a__law_doors
  have b__law_doors := F__law_doors.binds (ps := ["numbers", "rooms"]) fun _ _ _ _ _ _ us hl => match us, hl with | [_, _], _ => rfl
  have F__law_same := fun_mk (st := sSame) l__law_same c__law_same k__law_same
  have at__law_same := PySem.W.mg_of X G a__law_same
  have b__law_same := F__law_same.binds (ps := ["got", "due"]) fun _ _ _ _ _ _ us hl => match us, hl with | [_, _], _ => rfl
  have F__law_passed := fun_mk (st := sPass) l__law_passed c__law_passed k__law_passed
  have at__law_passed := PySem.W.mg_of X G a__law_passed
  have b__law_passed := F__law_passed.binds (ps := ["numbers", "doors"]) fun _ _ _ _ _ _ us hl => match us, hl with | [_, _], _ => rfl
  have F__law_bad_pair := fun_mk (st := sBp) l__law_bad_pair c__law_bad_pair k__law_bad_pair
  have at__law_bad_pair := PySem.W.mg_of X G a__law_bad_pair
  have b__law_bad_pair := F__law_bad_pair.binds (ps := ["entries", "rooms", "kind", "number"]) fun _ _ _ _ _ _ us hl => match us, hl with | [_, _, _, _], _ => rfl
  have F__law_spoilt := fun_mk (st := sSpo) l__law_spoilt c__law_spoilt k__law_spoilt
  have at__law_spoilt := PySem.W.mg_of X G a__law_spoilt
  have b__law_spoilt := F__law_spoilt.binds (ps := ["entries", "rooms", "numbers", "at"]) fun _ _ _ _ _ _ us hl => match us, hl with | [_, _, _, _], _ => rfl
  have F__law_integer := fun_mk (st := sInt) l__law_integer c__law_integer k__law_integer
  have at__law_integer := PySem.W.mg_of X G a__law_integer
  have b__law_integer := F__law_integer.binds (ps := ["number", "rooms"]) fun _ _ _ _ _ _ us hl => match us, hl with | [_, _], _ => rfl
  have F__law_entries := fun_mk (st := sEnt) l__law_entries c__law_entries k__law_entries
  have at__law_entries := PySem.W.mg_of X G a__law_entries
  have b__law_entries := F__law_entries.binds (ps := ["good", "rooms", "numbers"]) fun _ _ _ _ _ _ us hl => match us, hl with | [_, _, _], _ => rfl
  have F__law_asked_rooms := fun_mk (st := sAsk) l__law_asked_rooms c__law_asked_rooms k__law_asked_rooms
  have at__law_asked_rooms := PySem.W.mg_of X G a__law_asked_rooms
  have b__law_asked_rooms := F__law_asked_rooms.binds (ps := ["rooms", "numbers", "cell"]) fun _ _ _ _ _ _ us hl => match us, hl with | [_, _, _], _ => rfl
  have F__law_first_bad := fun_mk (st := sFb) l__law_first_bad c__law_first_bad k__law_first_bad
  have at__law_first_bad := PySem.W.mg_of X G a__law_first_bad
  have b__law_first_bad := F__law_first_bad.binds (ps := ["number", "entries"]) fun _ _ _ _ _ _ us hl => match us, hl with | [_, _], _ => rfl
  have F__law_refused := fun_mk (st := sRef) l__law_refused c__law_refused k__law_refused
  have at__law_refused := PySem.W.mg_of X G a__law_refused
  have b__law_refused := F__law_refused.binds (ps := ["number", "entries"]) fun _ _ _ _ _ _ us hl => match us, hl with | [_, _], _ => rfl
  have F__law_is_made := fun_mk (st := sIm) l__law_is_made c__law_is_made k__law_is_made
  have at__law_is_made := PySem.W.mg_of X G a__law_is_made
  have b__law_is_made := F__law_is_made.binds (ps := ["number", "entries"]) fun _ _ _ _ _ _ us hl => match us, hl with | [_, _], _ => rfl
  have F__law_made := fun_mk (st := sLmade) l__law_made c__law_made k__law_made
  have at__law_made := PySem.W.mg_of X G a__law_made
  have b__law_made := F__law_made.binds (ps := ["kind", "number"]) fun _ _ _ _ _ _ us hl => match us, hl with | [_, _], _ => rfl
  have F__law_maker_refused := fun_mk (st := sMr) l__law_maker_refused c__law_maker_refused k__law_maker_refused
  have at__law_maker_refused := PySem.W.mg_of X G a__law_maker_refused
  have b__law_maker_refused := F__law_maker_refused.binds (ps := ["kind", "number"]) fun _ _ _ _ _ _ us hl => match us, hl with | [_, _], _ => rfl
  have F__law_maker_doors := fun_mk (st := sMd) l__law_maker_doors c__law_maker_doors k__law_maker_doors
  have at__law_maker_doors := PySem.W.mg_of X G a__law_maker_doors
  have b__law_maker_doors := F__law_maker_doors.binds (ps := ["kind", "number"]) fun _ _ _ _ _ _ us hl => match us, hl with | [_, _], _ => rfl
  have F__law_maker_right := fun_mk (st := sMkr) l__law_maker_right c__law_maker_right k__law_maker_right
  have at__law_maker_right := PySem.W.mg_of X G a__law_maker_right
  have b__law_maker_right := F__law_maker_right.binds (ps := ["kind", "number"]) fun _ _ _ _ _ _ us hl => match us, hl with | [_, _], _ => rfl
  have F_law := fun_mk (st := sLaw) l_law c_law k_law
  have at_law := PySem.W.mg_of X G a_law
  have F_m_init_ := fun_mk (st := sHinit) l_m_init_ c_m_init_ k_m_init_
  have b_m_init_ := F_m_init_.binds (ps := ["self", "rooms", "doors"]) fun _ _ _ _ _ _ us hl => match us, hl with | [_, _, _], _ => rfl
  have mk_ : Mk K C f_m_init_ := ⟨mk, a_m_init_, i_m_init_, kc⟩
  have F_mdoors := fun_mk (st := sHdoors) l_mdoors c_mdoors k_mdoors
  have b_mdoors := F_mdoors.binds (ps := ["self"]) fun _ _ _ _ _ _ us hl => match us, hl with | [_], _ => rfl
  have mt_mdoors : Meth K C "doors" f_mdoors := ⟨a_mdoors, i_mdoors, k_mdoors⟩
  have F_mneighbours := fun_mk (st := sHnear) l_mneighbours c_mneighbours k_mneighbours
  have b_mneighbours := F_mneighbours.binds (ps := ["self", "room"]) fun _ _ _ _ _ _ us hl => match us, hl with | [_, _], _ => rfl
  have mt_mneighbours : Meth K C "neighbours" f_mneighbours := ⟨a_mneighbours, i_mneighbours, k_mneighbours⟩
  have F_mhas_door := fun_mk (st := sHhas) l_mhas_door c_mhas_door k_mhas_door
  have b_mhas_door := F_mhas_door.binds (ps := ["self", "a", "b"]) fun _ _ _ _ _ _ us hl => match us, hl with | [_, _, _], _ => rfl
  have mt_mhas_door : Meth K C "has_door" f_mhas_door := ⟨a_mhas_door, i_mhas_door, k_mhas_door⟩
  have F_pdoor_count := fun_mk (st := sHcount) l_pdoor_count c_pdoor_count k_pdoor_count
  have b_pdoor_count := F_pdoor_count.binds (ps := ["self"]) fun _ _ _ _ _ _ us hl => match us, hl with | [_], _ => rfl
  have po_pdoor_count : PropOf K C "door_count" pa_pdoor_count f_pdoor_count := ⟨a_pdoor_count, g_pdoor_count, t_pdoor_count, ⟨_, r_pdoor_count⟩⟩
  have F_scorridor := fun_mk (st := sHcor) l_scorridor c_scorridor k_scorridor
  have b_scorridor := F_scorridor.binds (ps := ["rooms"]) fun _ _ _ _ _ _ us hl => match us, hl with | [_], _ => rfl
  have st_scorridor : Smt K C "corridor" pa_scorridor f_scorridor := ⟨cr1, cr2, a_scorridor, ⟨_, r_scorridor⟩, k_scorridor⟩
  have F_sring := fun_mk (st := sHring) l_sring c_sring k_sring
  have b_sring := F_sring.binds (ps := ["rooms"]) fun _ _ _ _ _ _ us hl => match us, hl with | [_], _ => rfl
  have st_sring : Smt K C "ring" pa_sring f_sring := ⟨cr1, cr2, a_sring, ⟨_, r_sring⟩, k_sring⟩
  have F_sstar := fun_mk (st := sHstar) l_sstar c_sstar k_sstar
  have b_sstar := F_sstar.binds (ps := ["rooms"]) fun _ _ _ _ _ _ us hl => match us, hl with | [_], _ => rfl
  have st_sstar : Smt K C "star" pa_sstar f_sstar := ⟨cr1, cr2, a_sstar, ⟨_, r_sstar⟩, k_sstar⟩
  have F_sfull := fun_mk (st := sHfull) l_sfull c_sfull k_sfull
  have b_sfull := F_sfull.binds (ps := ["rooms"]) fun _ _ _ _ _ _ us hl => match us, hl with | [_], _ => rfl
  have st_sfull : Smt K C "full" pa_sfull f_sfull := ⟨cr1, cr2, a_sfull, ⟨_, r_sfull⟩, k_sfull⟩
  have F_einit := fun_mk (st := sBinit) l_einit c_einit k_einit
  have b_einit := F_einit.binds (ps := ["self", "place"]) fun _ _ _ _ _ _ us hl => match us, hl with | [_, _], _ => rfl
  have er : Err K mg "BadHouse" "place" CT f_einit := ⟨⟨⟨_, _, _, _, _, _, _, _, _, _, _, _, _, _, _, exL, (show PySem.HandSPX.refsVE [.type "ValueError", .type "Exception", .type "BaseException", .type "object"] = true by decide +kernel)⟩, esa, eeC, etC, ekC⟩, PySem.W.mg_of X G eC, ei, et, enf, ⟨ega, egg, eeC, ehC⟩, ecc, ehn, eht, ehm, PySem.W.exm_ref eeC ehC etC esC⟩
  have es : Errs K mg CT CE CB CR := ⟨PySem.W.mg_of X G gE, PySem.W.mg_of X G gB, PySem.W.mg_of X G gR, PySem.W.mg_none_of X G z_ValueError, isE, isV, noB⟩
  have U : Hs K mg C := ⟨⟨pg, hd, po, sa⟩, n_rooms, n__doors, n__near, PySem.W.mg_of X G aC, ⟨.type "type", _, ⟨cr1, cr2⟩, ⟨cv_MOST_ROOMS, ⟨_, rfl⟩⟩⟩⟩
  refine ⟨PySem.W.fnOf "law" "law" (defArgs sLaw) (defBody sLaw) (defScope sLaw) .none kV_law dc_law pm_law an_law cd_law ct_law, fun s v => .of_eq rfl, fun base _ _ => ?_⟩
  have R1 : Df l.prog w K mg base "check_room_count" _ 1 spRoom _ _ := ⟨at_check_room_count, k_check_room_count, b_check_room_count, ok_room F_check_room_count U⟩
  have R2 : Df l.prog w K mg base "checked_doors" _ 1 spChk _ _ := ⟨at_checked_doors, k_checked_doors, b_checked_doors, ok_chk F_checked_doors T⟩
  have R3 : Df l.prog w K mg base "corridor_doors" _ 1 spCd _ _ := ⟨at_corridor_doors, k_corridor_doors, b_corridor_doors, ok_cd F_corridor_doors T⟩
  have GI := ok_hinit (P := l.prog) (w := w) (base := base) F_m_init_ T U R1 R2
  have GB := ok_binit (P := l.prog) (w := w) (mg := mg) (base := base) F_einit er.oex er.noF
  have GR := ok_roomX (P := l.prog) (w := w) (base := base) F_check_room_count U er b_einit GB
  have GC := ok_chkX (P := l.prog) (w := w) (base := base) F_checked_doors T er b_einit GB
  have GX := ok_hinitX (P := l.prog) (w := w) (base := base) F_m_init_ T U GR at_check_room_count k_check_room_count b_check_room_count GC at_checked_doors k_checked_doors b_checked_doors
  have M0 : Mkr l.prog w K mg base C CT "corridor" 0 _ _ _ := ⟨st_scorridor, ok_corridorX F_scorridor T U mk_ GI b_m_init_ GR at_check_room_count k_check_room_count b_check_room_count R3, b_scorridor⟩
  have M1 : Mkr l.prog w K mg base C CT "ring" 1 _ _ _ := ⟨st_sring, ok_ringX F_sring T U mk_ GI b_m_init_ GR at_check_room_count k_check_room_count b_check_room_count R3, b_sring⟩
  have M2 : Mkr l.prog w K mg base C CT "star" 2 _ _ _ := ⟨st_sstar, ok_starX F_sstar T U mk_ GI b_m_init_ GR at_check_room_count k_check_room_count b_check_room_count R3, b_sstar⟩
  have M3 : Mkr l.prog w K mg base C CT "full" 3 _ _ _ := ⟨st_sfull, ok_fullX F_sfull T U mk_ GI b_m_init_ GR at_check_room_count k_check_room_count b_check_room_count R3, b_sfull⟩
  have GM := ok_made (P := l.prog) (w := w) (base := base) F__law_made T U M0 M1 M2 M3
  have MD : Md l.prog w K mg base C "doors" _ 1 (spHdoors C) _ _ := ⟨mt_mdoors, b_mdoors, ok_hdoors F_mdoors T U⟩
  have MN : Md l.prog w K mg base C "neighbours" _ 1 (spHnear C) _ _ := ⟨mt_mneighbours, b_mneighbours, ok_hnear F_mneighbours T U⟩
  have MH : Md l.prog w K mg base C "has_door" _ 1 (spHhas C) _ _ := ⟨mt_mhas_door, b_mhas_door, ok_hhas F_mhas_door T U⟩
  have D1 : Df l.prog w K mg base "_law_cell" _ 1 (spCell K) _ _ := ⟨at__law_cell, k__law_cell, b__law_cell, ok_cell F__law_cell T⟩
  have D2 : Df l.prog w K mg base "_law_numbers" _ 1 (spNum K) _ _ := ⟨at__law_numbers, k__law_numbers, b__law_numbers, ok_num F__law_numbers T⟩
  have D3 : Df l.prog w K mg base "_law_names" _ 1 (spNam K) _ _ := ⟨at__law_names, k__law_names, b__law_names, ok_nam F__law_names T⟩
  have D4 : Df l.prog w K mg base "_law_joined" _ 1 spJnd _ _ := ⟨at__law_joined, k__law_joined, b__law_joined, ok_jnd F__law_joined T⟩
  have D5 : Df l.prog w K mg base "_law_doors" _ 2 (spDrs K) _ _ := ⟨at__law_doors, k__law_doors, b__law_doors, ok_drs F__law_doors T D3 D4⟩
  have D8 : Df l.prog w K mg base "_law_same" _ 3 (spSame 2) _ _ := ⟨at__law_same, k__law_same, b__law_same, ok_same F__law_same T b__law_same at__law_same 2⟩
  have D6 : Df l.prog w K mg base "_law_passed" _ 2 (spPass K) _ _ := ⟨at__law_passed, k__law_passed, b__law_passed, ok_pass F__law_passed T D3⟩
  have D7 : Df l.prog w K mg base "_law_bad_pair" _ 1 spBp _ _ := ⟨at__law_bad_pair, k__law_bad_pair, b__law_bad_pair, ok_bp F__law_bad_pair T⟩
  have D9 : Df l.prog w K mg base "_law_spoilt" _ 2 (spSpo K) _ _ := ⟨at__law_spoilt, k__law_spoilt, b__law_spoilt, ok_spo F__law_spoilt T D7⟩
  have D10 : Df l.prog w K mg base "_law_integer" _ 1 spInt _ _ := ⟨at__law_integer, k__law_integer, b__law_integer, ok_int F__law_integer T⟩
  have D11 : Df l.prog w K mg base "_law_entries" _ 3 (spEnt K) _ _ := ⟨at__law_entries, k__law_entries, b__law_entries, ok_ent F__law_entries T D9 D10⟩
  have D12 : Df l.prog w K mg base "_law_asked_rooms" _ 1 (spAsk K) _ _ := ⟨at__law_asked_rooms, k__law_asked_rooms, b__law_asked_rooms, ok_ask F__law_asked_rooms T⟩
  have D13 : Df l.prog w K mg base "_law_first_bad" _ 1 spFb _ _ := ⟨at__law_first_bad, k__law_first_bad, b__law_first_bad, ok_fb F__law_first_bad T⟩
  have D14 : Df l.prog w K mg base "_law_refused" _ 7 (spRef C) _ _ := ⟨at__law_refused, k__law_refused, b__law_refused, ok_ref F__law_refused T U mk_ er es GX b_m_init_⟩
  have D15 : Df l.prog w K mg base "_law_is_made" _ 4 spIm _ _ := ⟨at__law_is_made, k__law_is_made, b__law_is_made, ok_im F__law_is_made T U mk_ GI b_m_init_ MD D8⟩
  have D16 : Df l.prog w K mg base "_law_maker_refused" _ 8 spMr _ _ := ⟨at__law_maker_refused, k__law_maker_refused, b__law_maker_refused, ok_mr F__law_maker_refused T er es GM at__law_made k__law_made b__law_made⟩
  have D17 : Df l.prog w K mg base "_law_maker_doors" _ 1 (spMd K) _ _ := ⟨at__law_maker_doors, k__law_maker_doors, b__law_maker_doors, ok_md F__law_maker_doors T⟩
  have D18 : Df l.prog w K mg base "_law_maker_right" _ 9 spMkr _ _ := ⟨at__law_maker_right, k__law_maker_right, b__law_maker_right, ok_mkr F__law_maker_right T U D8 po_pdoor_count b_pdoor_count (ok_hcount F_pdoor_count T U) MD MN MH GM at__law_made k__law_made b__law_made D16 D17⟩
  exact ok_law F_law T U D1 D2 D5 D6 D12 D11 D13 D14 D15 D18 D8
theorem walk {l : PySem.W.OpenLaw} {q : Program} {loose : List Str} {XP : (Str → Option Value) → Heap → Prop} {YP : World → Heap → Prop} {d : DefRec} {K : Params → PySem.W.Frag} (hn : l.most = some 63) (hdf : d.params.defaults = [])
    (hY : ∀ (w : World) (h : Heap), YP w h → (K w.params).In h)
    (F : ∀ (w : World) (mg : Str → Option Value) (fa : Addr) (h : Heap), (K w.params).In h → h.Ns mainGlobals mg → mg d.name = some (.ref fa) →
      ∃ fd : FuncData, (∀ (s : Shared) (u : Value), BindsTo s fd ⟨[u], []⟩ [("script", u)]) ∧ ∀ base : Heap, (K w.params).In base → base.Ns mainGlobals mg → FnOk l.prog w (K w.params) mg base CX0 10 fa fd ["script"] (spLaw (K w.params))) :
    PySem.W.WalkO q loose XP YP l.row.toRowW d [] (fun f vs => PySem.call f vs) :=
  L2.walk_of (n := 63) (k := 10) (x := "script") (CX := fun _ => CX0) (sp := fun w => spLaw (K w.params)) hn (by decide) hdf ⟨rfl, by decide, by decide⟩ hY F (fun _ _ a ns hl _ hS => ⟨a, ns, rfl, hS, hl, fun _ => rfl⟩) fun _ _ _ _ _ z => z
end My

open PySem PySem.W PyProof.Rows in
set_option maxRecDepth 100000 in
set_option maxHeartbeats 0 in
theorem PySem.Challenge.cw_callsheard_k01_house_refused_holds : PySem.Challenge.rw_callsheard_k01_house_refused.Holds := by
  w_on; o_law; k_head; (case hw => w_witness2)
  k_fill
  refine My.walk (l := PySem.Challenge.rw_callsheard_k01_house_refused) rfl rfl (fun w h Y => PySem.W.kIn_of Y) ?F
  case F =>
    intro w mg fa h KX G hmg
    refine' My.all_mk KX G hmg ?aC ?pg ?hd ?po ?sa ?mk ?kc ?a_check_room_count ?l_check_room_count ?c_check_room_count ?k_check_room_count ?a_checked_doors ?l_checked_doors ?c_checked_doors ?k_checked_doors ?a_corridor_doors ?l_corridor_doors ?c_corridor_doors ?k_corridor_doors ?a__law_cell ?l__law_cell ?c__law_cell ?k__law_cell ?a__law_numbers ?l__law_numbers ?c__law_numbers ?k__law_numbers ?a__law_names ?l__law_names ?c__law_names ?k__law_names ?a__law_joined ?l__law_joined ?c__law_joined ?k__law_joined ?a__law_doors ?l__law_doors ?c__law_doors ?k__law_doors ?a__law_same ?l__law_same ?c__law_same ?k__law_same ?a__law_passed ?l__law_passed ?c__law_passed ?k__law_passed ?a__law_bad_pair ?l__law_bad_pair ?c__law_bad_pair ?k__law_bad_pair ?a__law_spoilt ?l__law_spoilt ?c__law_spoilt ?k__law_spoilt ?a__law_integer ?l__law_integer ?c__law_integer ?k__law_integer ?a__law_entries ?l__law_entries ?c__law_entries ?k__law_entries ?a__law_asked_rooms ?l__law_asked_rooms ?c__law_asked_rooms ?k__law_asked_rooms ?a__law_first_bad ?l__law_first_bad ?c__law_first_bad ?k__law_first_bad ?a__law_refused ?l__law_refused ?c__law_refused ?k__law_refused ?a__law_is_made ?l__law_is_made ?c__law_is_made ?k__law_is_made ?a__law_made ?l__law_made ?c__law_made ?k__law_made ?a__law_maker_refused ?l__law_maker_refused ?c__law_maker_refused ?k__law_maker_refused ?a__law_maker_doors ?l__law_maker_doors ?c__law_maker_doors ?k__law_maker_doors ?a__law_maker_right ?l__law_maker_right ?c__law_maker_right ?k__law_maker_right ?a_law ?l_law ?c_law ?k_law ?a_m_init_ ?l_m_init_ ?c_m_init_ ?k_m_init_ ?i_m_init_ ?a_mdoors ?l_mdoors ?c_mdoors ?k_mdoors ?i_mdoors ?a_mneighbours ?l_mneighbours ?c_mneighbours ?k_mneighbours ?i_mneighbours ?a_mhas_door ?l_mhas_door ?c_mhas_door ?k_mhas_door ?i_mhas_door ?a_pdoor_count ?g_pdoor_count ?t_pdoor_count ?r_pdoor_count ?l_pdoor_count ?c_pdoor_count ?k_pdoor_count ?a_scorridor ?r_scorridor ?l_scorridor ?c_scorridor ?k_scorridor ?a_sring ?r_sring ?l_sring ?c_sring ?k_sring ?a_sstar ?r_sstar ?l_sstar ?c_sstar ?k_sstar ?a_sfull ?r_sfull ?l_sfull ?c_sfull ?k_sfull ?n_rooms ?n__doors ?n__near ?cr1 ?cr2 ?cv_MOST_ROOMS ?gE ?eC ?exL ?esa ?ega ?egg ?enf ?ei ?et ?l_einit ?c_einit ?k_einit ?ekC ?eeC ?etC ?ehC ?esC ?ecc ?ehn ?eht ?ehm ?gB ?gR ?isE ?isV ?noB ?z_len ?z_abs ?z_int ?z_range ?z_list ?z_tuple ?z_min ?z_max ?z_sorted ?z_isinstance ?z_bool ?z_str ?z_set ?z_enumerate ?z_ValueError
    (case aC => k_is)
    (case pg => k_is)
    (case hd => k_is)
    (case po => k_is)
    (case sa => k_is)
    (case mk => k_is)
    (case kc => k_is)
    (case a_check_room_count => k_is)
    (case l_check_room_count => k_is)
    (case c_check_room_count => k_is)
    (case k_check_room_count => k_is)
    (case a_checked_doors => k_is)
    (case l_checked_doors => k_is)
    (case c_checked_doors => k_is)
    (case k_checked_doors => k_is)
    (case a_corridor_doors => k_is)
    (case l_corridor_doors => k_is)
    (case c_corridor_doors => k_is)
    (case k_corridor_doors => k_is)
    (case a__law_cell => k_is)
    (case l__law_cell => k_is)
    (case c__law_cell => k_is)
    (case k__law_cell => k_is)
    (case a__law_numbers => k_is)
    (case l__law_numbers => k_is)
    (case c__law_numbers => k_is)
    (case k__law_numbers => k_is)
    (case a__law_names => k_is)
    (case l__law_names => k_is)
    (case c__law_names => k_is)
    (case k__law_names => k_is)
    (case a__law_joined => k_is)
    (case l__law_joined => k_is)
    (case c__law_joined => k_is)
    (case k__law_joined => k_is)
    (case a__law_doors => k_is)
    (case l__law_doors => k_is)
    (case c__law_doors => k_is)
    (case k__law_doors => k_is)
    (case a__law_same => k_is)
    (case l__law_same => k_is)
    (case c__law_same => k_is)
    (case k__law_same => k_is)
    (case a__law_passed => k_is)
    (case l__law_passed => k_is)
    (case c__law_passed => k_is)
    (case k__law_passed => k_is)
    (case a__law_bad_pair => k_is)
    (case l__law_bad_pair => k_is)
    (case c__law_bad_pair => k_is)
    (case k__law_bad_pair => k_is)
    (case a__law_spoilt => k_is)
    (case l__law_spoilt => k_is)
    (case c__law_spoilt => k_is)
    (case k__law_spoilt => k_is)
    (case a__law_integer => k_is)
    (case l__law_integer => k_is)
    (case c__law_integer => k_is)
    (case k__law_integer => k_is)
    (case a__law_entries => k_is)
    (case l__law_entries => k_is)
    (case c__law_entries => k_is)
    (case k__law_entries => k_is)
    (case a__law_asked_rooms => k_is)
    (case l__law_asked_rooms => k_is)
    (case c__law_asked_rooms => k_is)
    (case k__law_asked_rooms => k_is)
    (case a__law_first_bad => k_is)
    (case l__law_first_bad => k_is)
    (case c__law_first_bad => k_is)
    (case k__law_first_bad => k_is)
    (case a__law_refused => k_is)
    (case l__law_refused => k_is)
    (case c__law_refused => k_is)
    (case k__law_refused => k_is)
    (case a__law_is_made => k_is)
    (case l__law_is_made => k_is)
    (case c__law_is_made => k_is)
    (case k__law_is_made => k_is)
    (case a__law_made => k_is)
    (case l__law_made => k_is)
    (case c__law_made => k_is)
    (case k__law_made => k_is)
    (case a__law_maker_refused => k_is)
    (case l__law_maker_refused => k_is)
    (case c__law_maker_refused => k_is)
    (case k__law_maker_refused => k_is)
    (case a__law_maker_doors => k_is)
    (case l__law_maker_doors => k_is)
    (case c__law_maker_doors => k_is)
    (case k__law_maker_doors => k_is)
    (case a__law_maker_right => k_is)
    (case l__law_maker_right => k_is)
    (case c__law_maker_right => k_is)
    (case k__law_maker_right => k_is)
    (case a_law => k_is)
    (case l_law => k_is)
    (case c_law => k_is)
    (case k_law => k_is)
    (case a_m_init_ => k_is)
    (case l_m_init_ => k_is)
    (case c_m_init_ => k_is)
    (case k_m_init_ => k_is)
    (case i_m_init_ => k_is)
    (case a_mdoors => k_is)
    (case l_mdoors => k_is)
    (case c_mdoors => k_is)
    (case k_mdoors => k_is)
    (case i_mdoors => k_is)
    (case a_mneighbours => k_is)
    (case l_mneighbours => k_is)
    (case c_mneighbours => k_is)
    (case k_mneighbours => k_is)
    (case i_mneighbours => k_is)
    (case a_mhas_door => k_is)
    (case l_mhas_door => k_is)
    (case c_mhas_door => k_is)
    (case k_mhas_door => k_is)
    (case i_mhas_door => k_is)
    (case a_pdoor_count => k_is)
    (case g_pdoor_count => k_is)
    (case t_pdoor_count => k_is)
    (case r_pdoor_count => k_is)
    (case l_pdoor_count => k_is)
    (case c_pdoor_count => k_is)
    (case k_pdoor_count => k_is)
    (case a_scorridor => k_is)
    (case r_scorridor => k_is)
    (case l_scorridor => k_is)
    (case c_scorridor => k_is)
    (case k_scorridor => k_is)
    (case a_sring => k_is)
    (case r_sring => k_is)
    (case l_sring => k_is)
    (case c_sring => k_is)
    (case k_sring => k_is)
    (case a_sstar => k_is)
    (case r_sstar => k_is)
    (case l_sstar => k_is)
    (case c_sstar => k_is)
    (case k_sstar => k_is)
    (case a_sfull => k_is)
    (case r_sfull => k_is)
    (case l_sfull => k_is)
    (case c_sfull => k_is)
    (case k_sfull => k_is)
    (case n_rooms => k_is)
    (case n__doors => k_is)
    (case n__near => k_is)
    (case cr1 => k_is)
    (case cr2 => k_is)
    (case cv_MOST_ROOMS => k_is)
    (case gE => k_is)
    (case eC => k_is)
    (case exL => k_is)
    (case esa => k_is)
    (case ega => k_is)
    (case egg => k_is)
    (case enf => k_is)
    (case ei => k_is)
    (case et => k_is)
    (case l_einit => k_is)
    (case c_einit => k_is)
    (case k_einit => k_is)
    (case ekC => k_is)
    (case eeC => k_is)
    (case etC => k_is)
    (case ehC => k_is)
    (case esC => k_is)
    (case ecc => k_is)
    (case ehn => k_is)
    (case eht => k_is)
    (case ehm => k_is)
    (case gB => k_is)
    (case gR => k_is)
    (case isE => kit_is)
    (case isV => kit_is)
    (case noB => kit_is)
    (case z_len => k_is)
    (case z_abs => k_is)
    (case z_int => k_is)
    (case z_range => k_is)
    (case z_list => k_is)
    (case z_tuple => k_is)
    (case z_min => k_is)
    (case z_max => k_is)
    (case z_sorted => k_is)
    (case z_isinstance => k_is)
    (case z_bool => k_is)
    (case z_str => k_is)
    (case z_set => k_is)
    (case z_enumerate => k_is)
    (case z_ValueError => k_is)


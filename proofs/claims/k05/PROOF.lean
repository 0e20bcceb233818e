import PyProof.Rows.All
import Wide.All
import OpenK.AllK
import Wide.FinOn
import HandS.ForMost
import HandS.SortRule
import HandS.IsInst
import HandS.Deep
import HandS.Property
import HandS.TupSets
import HandS.Style
import HandS.Conv
import HandS.Evl
import HandS.ClsMeth
import HandS.Strs
import HandS.Rev
import PySem.Challenge.RW_callsheard_k05_last_calls
set_option Elab.async false
set_option linter.all false
set_option maxRecDepth 100000
namespace My
open PySem PySem.Spec PyProof.Rows L2
theorem cxK {CX : CXT} {P : Program} {w : World} {K : PySem.W.Frag} {mg : Str → Option Value} {base : Heap} {N : List Str} {q : Str} {sc : Scope} {f : Addr} {cdv : Value} {A : Around} {outer : List Env} {s : Shared} {H : Hp} {E : XK} : (cxOf CX P w K mg base N q sc f cdv A outer s H E).nox.K = K := rfl
theorem cxK2 {CX : CXT} {P : Program} {w : World} {K : PySem.W.Frag} {mg : Str → Option Value} {base : Heap} {N : List Str} {q : Str} {sc : Scope} {f : Addr} {cdv : Value} {A : Around} {outer : List Env} {s : Shared} {H : Hp} {E : XK} : (cxOf CX P w K mg base N q sc f cdv A outer s H E).K = K := rfl
theorem cxP {CX : CXT} {P : Program} {w : World} {K : PySem.W.Frag} {mg : Str → Option Value} {base : Heap} {N : List Str} {q : Str} {sc : Scope} {f : Addr} {cdv : Value} {A : Around} {outer : List Env} {s : Shared} {H : Hp} {E : XK} : (cxOf CX P w K mg base N q sc f cdv A outer s H E).prog = P := rfl
theorem cxW {CX : CXT} {P : Program} {w : World} {K : PySem.W.Frag} {mg : Str → Option Value} {base : Heap} {N : List Str} {q : Str} {sc : Scope} {f : Addr} {cdv : Value} {A : Around} {outer : List Env} {s : Shared} {H : Hp} {E : XK} : (cxOf CX P w K mg base N q sc f cdv A outer s H E).w = w := rfl
/-- built-in names that the text has not bound -/
structure Bi (mg : Str → Option Value) : Prop where
  len : mg "len" = none
  abs : mg "abs" = none
  int : mg "int" = none
  range : mg "range" = none
  list : mg "list" = none
  tuple : mg "tuple" = none
  min : mg "min" = none
  max : mg "max" = none
  sorted : mg "sorted" = none
  isinstance : mg "isinstance" = none
  bool : mg "bool" = none
  str : mg "str" = none
  set : mg "set" = none
  enumerate : mg "enumerate" = none
/-- a def of the text, bound in the module, that keeps a promise -/
structure Df (P : Program) (w : World) (K : PySem.W.Frag) (mg : Str → Option Value) (base : Heap) (x : Str) (ps : List Str) (k : Nat) (sp : Sp) (f : Addr) (fd : FuncData) : Prop where
  at_ : mg x = some (.ref f)
  kp : PySem.W.keepIn K (.ref f) = true
  b : Binds K fd ps []
  ok : FnOk P w K mg base CX0 k f fd ps sp
local macro_rules | `(tactic| walk_at "rd") => `(tactic| try simp only [cxK, cxK2, cxP, cxW, L2.start, List.length_cons, List.length_nil, List.replicate_succ, List.replicate_zero, List.map_cons, List.map_nil, List.cons_append, List.nil_append, tVar, tC, tAdd, tSub, t2I, tIsN, tNotN, tB, tAnd, tOr, tNot, tAndV, tOrV, tNotV, tIf, tNext, tSeq, tBreak, tCont, tDrop, tRet, tRetN, tIfS, gName, gNil, gCons, gTup, gSub, tAsg, tOp, tUn, rI, rI0, rU, tTest, tChain, tNil, tCons, tTup, tLst, tCall, tCB, tNoPart, tPart, tSl, rIxL, rIxT, rIxS, rSetL, rAppend, rExtend, tBM, tBM0, tFld, tMeth, tMake, sFld, tYes, tLstRg, tRg1, tRg2, rSlL, iRng1, iRng2, iList, List.getElem?_cons_zero, List.getElem?_cons_succ, Option.some.injEq, List.cons.injEq, V.int.injEq, V.ref.injEq, V.bl.injEq, V.str.injEq, exists_eq_left', exists_eq_left, exists_eq_right, exists_eq_right', true_and, and_true, and_assoc, exists_and_left, exists_and_right, List.set_cons_zero, List.set_cons_succ, List.append_nil, reduceCtorEq, false_and, and_false, exists_false, or_false, false_or, decide_eq_true_eq, Nat.reduceAdd, Nat.reduceSub])
section
variable {X : Cx}
theorem cr_intI : CallR X (.type "int") (fun xs H Q => ∃ i, xs = [.int i] ∧ Q (.int i) H) := fun pins s σ H xs us Q I r h => call_int1 pins s σ H xs us Q I r (.inl h)
theorem op_eqI : OpR X (compareOp .Eq) (rI0 fun i j => .bl (decide (i = j))) := fun pins s σ H x y v u Q I rx ry h => by
  obtain ⟨i, j, rfl, rfl, q⟩ := h
  have e : decide (i = j) = decide (V.int i = V.int j) := by
    by_cases h : i = j
    · subst h
      rw [decide_eq_true rfl, decide_eq_true rfl]
    · rw [decide_eq_false h, decide_eq_false (fun z => h (V.int.inj z))]
  exact op_eq pins s σ H _ _ v u Q I rx ry ⟨rfl, by rw [← e]; exact q⟩
theorem op_neI : OpR X (compareOp .NotEq) (rI0 fun i j => .bl (!decide (i = j))) := fun pins s σ H x y v u Q I rx ry h => by
  obtain ⟨i, j, rfl, rfl, q⟩ := h
  have e : decide (i = j) = decide (V.int i = V.int j) := by
    by_cases h : i = j
    · subst h
      rw [decide_eq_true rfl, decide_eq_true rfl]
    · rw [decide_eq_false h, decide_eq_false (fun z => h (V.int.inj z))]
  exact op_ne pins s σ H _ _ v u Q I rx ry ⟨rfl, by rw [← e]; exact q⟩
def rIsT : R2 := fun x y H Q => ∃ b : Bool, y = .bl b ∧ Q (.bl (decide (x = .bl b))) H
/-- x is True, x is False -/
theorem op_isT : OpR X (compareOp .Is) rIsT := by
  intro pins s σ H x y v u Q I rx ry h
  obtain ⟨b, rfl, q⟩ := h
  cases (show u = Value.bool b from ry)
  cases x with
  | non => cases (show v = Value.none from rx); exact wpAny_is_other rfl (fun z => nomatch z) ⟨.bl false, H, I, rfl, by simpa using q⟩
  | bl a =>
    cases (show v = Value.bool a from rx)
    by_cases e : a = b
    · subst e
      exact wpAny_is_self rfl ⟨.bl true, H, I, rfl, by simpa using q⟩
    · exact wpAny_is_other rfl (fun z => e (Value.bool.inj z)) ⟨.bl false, H, I, rfl, by simpa [e] using q⟩
  | int i => obtain ⟨t, e⟩ := (show ∃ t, v = Value.int i t from rx); cases e; exact wpAny_is_other rfl (fun z => nomatch z) ⟨.bl false, H, I, rfl, by simpa using q⟩
  | str i => obtain ⟨t, e⟩ := (show ∃ t, v = Value.str i t from rx); cases e; exact wpAny_is_other rfl (fun z => nomatch z) ⟨.bl false, H, I, rfl, by simpa using q⟩
  | byt i => obtain ⟨t, e⟩ := (show ∃ t, v = Value.bytes i t from rx); cases e; exact wpAny_is_other rfl (fun z => nomatch z) ⟨.bl false, H, I, rfl, by simpa using q⟩
  | flt i => obtain ⟨t, e⟩ := (show ∃ t, v = Value.float i t from rx); cases e; exact wpAny_is_other rfl (fun z => nomatch z) ⟨.bl false, H, I, rfl, by simpa using q⟩
  | ref a => cases (show v = Value.ref a from rx); exact wpAny_is_other rfl (fun z => nomatch z) ⟨.bl false, H, I, rfl, by simpa using q⟩
  | ty n => cases (show v = Value.type n from rx); exact wpAny_is_other rfl (fun z => nomatch z) ⟨.bl false, H, I, rfl, by simpa using q⟩
end
theorem same_upd {H : Hp} {p : Addr} {o : HO} (h : H p = none) : Same H (upd H p o) := fun b x e => by
  rw [upd_ne (ne_of_none e h)]
  exact e
/-- a list that was new and is changed: what stood before stands -/
theorem same_ch {H0 H : Hp} {p : Addr} {o : HO} (s : Same H0 H) (n : H0 p = none) : Same H0 (upd H p o) := fun b x e => by
  rw [upd_ne (ne_of_none e n)]
  exact s _ _ e
theorem ixn {n j : Nat} {z : Int} (e : z = (j : Int)) (hj : j < n) : ixN n z = some j := by
  rw [e]
  unfold ixN
  rw [if_pos (by omega), if_pos (by omega)]
  simp
theorem len_big {n : Nat} (h : n ≤ 100000) : n < sizeLine := Nat.lt_of_le_of_lt h (by decide)
theorem mem_ix {α : Type} {l : List α} {i : Nat} (h : i < l.length) : ∃ x, l[i]? = some x ∧ x ∈ l := ⟨l[i], List.getElem?_eq_getElem h, List.getElem_mem h⟩

def topS (i : Nat) : Stmt := PySem.Challenge.pw_callsheard_k05_last_calls.main.body.getD i (.Pass ⟨0, 0, 0, 0⟩)
abbrev sCell : Stmt := topS 17
abbrev sNum : Stmt := topS 18
def cellN (ns : List Int) (k : Nat) : Int := (ns.getD k 0).natAbs
theorem cellN_nn (ns : List Int) (k : Nat) : 0 ≤ cellN ns k := Int.natCast_nonneg _
section
variable {P : Program} {w : World} {K : PySem.W.Frag} {mg : Str → Option Value} {base : Heap}
theorem scCell : FnScope ["script", "k"] ["script", "k"] (defScope sCell) := ⟨rfl, rfl, rfl, by decide +kernel, rfl, by decide +kernel, by decide +kernel⟩
def spCell (K : PySem.W.Frag) : Sp := fun vs H Q _ => ∃ (a : Addr) (ns : List Int) (k : Nat), vs = [.ref a, .int k] ∧ SqL K H a (ns.map V.int) ∧ ∀ c, 0 ≤ c → Q (.int c) H
theorem ok_cell {f : Addr} {fd : FuncData} (F : Fun K "_law_cell" "_law_cell" sCell f fd) (T : Bi mg) : FnOk P w K mg base CX0 1 f fd ["script", "k"] (spCell K) := by
  refine F.ok scCell (fun vs H Q E h => ?_) (fun cdv A outer s H vs Q E hr h => ?_)
  · obtain ⟨a, ns, k, rfl, _⟩ := h
    rfl
  · obtain ⟨a, ns, k, rfl, hS, q⟩ := h
    refine ⟨_, (pss_cons (ps_if (pt_cmpR op_lt (pv 1) (pe_callB call_len_seq (by rfl) T.len (by decide +kernel) (pa_cons (pv 0) pa_nil)) (nomark _))
      (pss_one (ps_ret (pe_callB call_abs (by rfl) T.abs (by decide +kernel) (pa_cons (pe_callTy cr_intI (by rfl) T.int (by decide +kernel) (pa_cons (pe_ix ix_list (pv 0) (pv 1) (fun _ _ => rfl)) pa_nil)) pa_nil))))
      pss_nil)
      (pss_one (ps_ret pe_int))), ?_⟩
    walk_at "rd"
    refine ⟨_, .inl hS, ?_⟩
    rw [List.length_map]
    refine ite2 (fun hk => ?_) (fun _ => q _ (Int.le_refl _))
    have hk2 : k < ns.length := by omega
    refine ⟨_, hS, V.int ns[k], atI_nat (by rw [List.getElem?_map, List.getElem?_eq_getElem hk2]; rfl), _, rfl, ?_⟩
    refine q _ ?_
    split <;> omega
theorem scNum : FnScope ["cell", "count", "numbers", "rest", "mixed", "k"] ["cell", "count"] (defScope sNum) := ⟨rfl, rfl, rfl, by decide +kernel, rfl, by decide +kernel, by decide +kernel⟩
/-- n ints from 0 on below 997 -/
def Nums (n : Nat) (ns : List Int) : Prop := ns.length = n ∧ ∀ x ∈ ns, 0 ≤ x ∧ x < 997
def spNum (K : PySem.W.Frag) : Sp := fun vs H Q _ => ∃ (c : Int) (n : Nat), vs = [.int c, .int n] ∧ n ≤ 1000 ∧ ∀ ns p H', Nums n ns → Same H H' → H p = none → H' p = some (.lst (ns.map V.int)) → Q (.ref p) H'
theorem ok_num {f : Addr} {fd : FuncData} (F : Fun K "_law_numbers" "_law_numbers" sNum f fd) (T : Bi mg) : FnOk P w K mg base CX0 1 f fd ["cell", "count"] (spNum K) := by
  refine F.ok scNum (fun vs H Q E h => ?_) (fun cdv A outer s H vs Q E hr h => ?_)
  · obtain ⟨c, n, rfl, _⟩ := h
    rfl
  · obtain ⟨c, n, rfl, hn, q⟩ := h
    refine ⟨_, (pss_cons (ps_set (i := 2) scNum.nd rfl (Or.inl rfl) (pe_lst pa_nil))
      (pss_cons (ps_set (i := 3) scNum.nd rfl (Or.inl rfl) (pv 0))
      (pss_cons (ps_set (i := 4) scNum.nd rfl (Or.inl rfl) (pe_op op_mod (pe_callTy cr_intI (by rfl) T.int (by decide +kernel) (pa_cons (pe_op op_add (pe_op op_mul (pv 0) pe_int) pe_int) pa_nil)) pe_int))
      (pss_cons (ps_for PassesOwn.never rfl (pi_range1 (by rfl) T.range (pa_cons (pv 1) pa_nil)) (pg_name (i := 5) scNum.nd rfl (Or.inl rfl))
      (pss_cons (ps_set (i := 4) scNum.nd rfl (Or.inl rfl) (pe_op op_mod (pe_callTy cr_intI (by rfl) T.int (by decide +kernel) (pa_cons (pe_op op_add (pe_op op_add (pe_op op_mul (pv 4) pe_int) (pe_op op_mul pe_int (pv 5))) pe_int) pa_nil)) pe_int))
        (pss_one (ps_if (pt_cmpR op_ge (pv 0) (pe_op op_pow pe_int pe_int) (nomark _))
        (pss_cons (ps_expr (pe_bm PySem.F.plainAttrs_list PySem.F.slot_list_append PySem.F.type_list_append mt_append (pv 2) (pa_cons (pe_op op_mod (pe_callTy cr_intI (by rfl) T.int (by decide +kernel) (pa_cons (pv 3) pa_nil)) pe_int) pa_nil)))
          (pss_one (ps_set (i := 3) scNum.nd rfl (Or.inl rfl) (pe_op op_fdiv (pv 3) pe_int))))
        (pss_one (ps_expr (pe_bm PySem.F.plainAttrs_list PySem.F.slot_list_append PySem.F.type_list_append mt_append (pv 2) (pa_cons (pe_op op_mod (pe_callTy cr_intI (by rfl) T.int (by decide +kernel) (pa_cons (pe_op op_fdiv (pv 4) pe_int) pa_nil)) pe_int) pa_nil))))))))
      (pss_one (ps_ret (pv 2))))))), ?_⟩
    walk_at "rd"
    refine ⟨by decide, fun p np => ⟨.inr (by decide), by decide, ?_⟩⟩
    refine ⟨_, rfl, _, rfl, by omega, by omega, for_range (lo := 0) (n := (n : Int).toNat) (fun i σ H' => ∃ (ns : List Int) (rest mixed : Int) (v : Option V), σ = [some (.int c), some (.int n), some (.ref p), some (.int rest), some (.int mixed), v] ∧ Nums i ns ∧ Same H H' ∧ H' p = some (.lst (ns.map V.int)))
      ⟨[], c, _, none, rfl, ⟨rfl, fun x hx => by cases hx⟩, same_upd np, upd_same⟩ ?_ ?_⟩
    · rintro i σ H' hi ⟨ns, rest, mixed, v, rfl, hns, sm, hp⟩
      have small : (List.map V.int ns).length < sizeLine := len_big (by rw [List.length_map, hns.1]; omega)
      have next : ∀ y, 0 ≤ y → y < 997 → Nums (i + 1) (ns ++ [y]) := fun y h0 h1 => by
        refine ⟨by rw [List.length_append, hns.1]; rfl, fun x hx => ?_⟩
        rcases List.mem_append.mp hx with hx | hx
        · exact hns.2 x hx
        · rw [List.mem_singleton.mp hx]
          exact ⟨h0, h1⟩
      have ty : tyV K "list" (.ref p) H' := .inl ⟨rfl, _, SqL.of hp⟩
      walk_at "rd"
      refine ⟨.inr (by decide), .inl (by decide), by decide, ⟨by decide, by decide, by decide⟩, ite2 (fun _ => ?_) (fun _ => ?_)⟩
      · refine ⟨ty, by decide, _, hp, small, ⟨by decide, by decide⟩, ns ++ [rest % 997], next _ (Int.emod_nonneg _ (by decide)) (Int.emod_lt_of_pos _ (by decide)), same_ch sm np, ?_⟩
        rw [upd_same, List.map_append]
        rfl
      · refine ⟨ty, ⟨by decide, by decide⟩, by decide, _, hp, small, ns ++ [(mixed * 48271 + 7919 * (0 + (i : Int)) + 12345) % 2147483647 / 1009 % 997], next _ (Int.emod_nonneg _ (by decide)) (Int.emod_lt_of_pos _ (by decide)), same_ch sm np, ?_⟩
        rw [upd_same, List.map_append]
        rfl
    · rintro σ H' ⟨ns, rest, mixed, v, rfl, hns, sm, hp⟩
      walk_at "rd"
      exact q ns p H' (by simpa using hns) sm np hp
end

/-! ### pairs of ints in the heap -/
abbrev Pr := Int × Int
/-- v is a tuple of the two ints -/
def IsP (H : Hp) (v : V) (d : Pr) : Prop := ∃ t, v = .ref t ∧ H t = some (.tup [.int d.1, .int d.2])
def PL (H : Hp) (vs : List V) (D : List Pr) : Prop := Paired (IsP H) vs D
def kH (H : Hp) (v : V) : Pr := match v with
  | .ref t => match H t with
    | some (.tup [.int x, .int y]) => (x, y)
    | _ => (0, 0)
  | _ => (0, 0)
theorem IsP.k {H : Hp} {v : V} {d : Pr} (h : IsP H v d) : kH H v = d := by
  obtain ⟨t, rfl, e⟩ := h
  unfold kH
  simp only [e]
/-- tuples stand -/
def KT (H H' : Hp) : Prop := ∀ t xs, H t = some (.tup xs) → H' t = some (.tup xs)
theorem KT.refl (H : Hp) : KT H H := fun _ _ h => h
theorem KT.trans {H H1 H2 : Hp} (a : KT H H1) (b : KT H1 H2) : KT H H2 := fun t xs h => b t xs (a t xs h)
theorem KT.same {H H' : Hp} (s : Same H H') : KT H H' := fun t xs h => s t _ h
theorem KT.new {H : Hp} {p : Addr} {o : HO} (n : H p = none) : KT H (upd H p o) := KT.same (same_upd n)
theorem KT.ch {H : Hp} {p : Addr} {o o' : HO} (n : H p = some o') (ho : ∀ xs, o' ≠ .tup xs) : KT H (upd H p o) := fun t xs h => by
  rw [upd_ne]
  · exact h
  · rintro rfl
    rw [h] at n
    exact ho xs (Option.some.inj n).symm
theorem KT.lst {H : Hp} {p : Addr} {o : HO} {vs : List V} (n : H p = some (.lst vs)) : KT H (upd H p o) := KT.ch n (fun _ h => by cases h)
theorem IsP.kt {H H' : Hp} {v : V} {d : Pr} (h : IsP H v d) (k : KT H H') : IsP H' v d := by
  obtain ⟨t, e, h⟩ := h
  exact ⟨t, e, k _ _ h⟩
theorem PL.kt {H H' : Hp} {vs : List V} {D : List Pr} (h : PL H vs D) (k : KT H H') : PL H' vs D := Paired.mapP h fun _ _ q => q.kt k
theorem PL.len {H : Hp} {vs : List V} {D : List Pr} (h : PL H vs D) : vs.length = D.length := Paired.length h
theorem PL.nil0 (H : Hp) : PL H [] [] := Paired.nil
theorem PL.snoc {H : Hp} {vs : List V} {D : List Pr} {v : V} {d : Pr} (h : PL H vs D) (q : IsP H v d) : PL H (vs ++ [v]) (D ++ [d]) := Paired.snoc h q
theorem PL.get : ∀ {H : Hp} {vs : List V} {D : List Pr} {i : Nat} {v : V}, PL H vs D → vs[i]? = some v → ∃ d, D[i]? = some d ∧ IsP H v d
  | _, _, _, _, _, Paired.nil, e => by simp at e
  | _, _, _, 0, v, .cons r _, e => by
    have e2 := Option.some.inj e
    subst e2
    exact ⟨_, rfl, r⟩
  | _, _, _, i + 1, v, .cons _ t, e => PL.get (i := i) t e
theorem PL.get2 : ∀ {H : Hp} {vs : List V} {D : List Pr} {i : Nat} {d : Pr}, PL H vs D → D[i]? = some d → ∃ v, vs[i]? = some v ∧ IsP H v d
  | _, _, _, _, _, Paired.nil, e => by simp at e
  | _, _, _, 0, v, .cons r _, e => by
    have e2 := Option.some.inj e
    subst e2
    exact ⟨_, rfl, r⟩
  | _, _, _, i + 1, v, .cons _ t, e => PL.get2 (i := i) t e
theorem PL.toK : ∀ {H : Hp} {vs : List V} {D : List Pr}, PL H vs D → D = vs.map (kH H) ∧ ∀ v ∈ vs, IsP H v (kH H v)
  | _, _, _, Paired.nil => ⟨rfl, fun v hv => by cases hv⟩
  | H, _, _, .cons r t => by
    obtain ⟨e, h⟩ := PL.toK t
    have q := r.k
    refine ⟨by rw [List.map_cons, ← e, q], fun v hv => ?_⟩
    rcases List.mem_cons.mp hv with rfl | hv
    · rw [q]
      exact r
    · exact h v hv
theorem PL.ofK {H : Hp} : ∀ {vs : List V}, (∀ v ∈ vs, IsP H v (kH H v)) → PL H vs (vs.map (kH H))
  | [], _ => Paired.nil
  | v :: vs, h => .cons (h v List.mem_cons_self) (PL.ofK fun u hu => h u (List.mem_cons_of_mem _ hu))
/-! ### sorted lists of pairs -/
def lt2 (p q : Pr) : Prop := p.1 < q.1 ∨ (p.1 = q.1 ∧ p.2 < q.2)
def Asc (D : List Pr) : Prop := D.Pairwise lt2
theorem lt2_irr (p : Pr) : ¬ lt2 p p := by
  unfold lt2
  omega
theorem lt2_ne {p q : Pr} (h : lt2 p q) : p ≠ q := by
  rintro rfl
  exact lt2_irr p h
theorem Asc.nodup {D : List Pr} (h : Asc D) : D.Nodup := List.Pairwise.imp lt2_ne h
theorem asc_of {D : List Pr} (nd : D.Nodup) (h : D.Pairwise fun x y => ¬ lt2 y x) : Asc D := by
  induction D with
  | nil => exact List.Pairwise.nil
  | cons p D ih =>
    obtain ⟨h1, h2⟩ := List.pairwise_cons.mp h
    obtain ⟨n1, n2⟩ := List.nodup_cons.mp nd
    refine List.pairwise_cons.mpr ⟨fun q hq => ?_, ih n2 h2⟩
    have a := h1 q hq
    have b : p ≠ q := fun e => n1 (by rw [e]; exact hq)
    unfold lt2 at a ⊢
    obtain ⟨p1, p2⟩ := p
    obtain ⟨q1, q2⟩ := q
    have c : ¬ (p1 = q1 ∧ p2 = q2) := fun ⟨e1, e2⟩ => b (by rw [e1, e2])
    simp only at a ⊢
    omega
/-- two ascending lists with the same pairs are one -/
theorem asc_uniq : ∀ {D E : List Pr}, Asc D → Asc E → (∀ p, p ∈ D ↔ p ∈ E) → D = E
  | [], [], _, _, _ => rfl
  | [], q :: E, _, _, h => by
    have := (h q).mpr List.mem_cons_self
    cases this
  | p :: D, [], _, _, h => by
    have := (h p).mp List.mem_cons_self
    cases this
  | p :: D, q :: E, hD, hE, h => by
    obtain ⟨a1, a2⟩ := List.pairwise_cons.mp hD
    obtain ⟨b1, b2⟩ := List.pairwise_cons.mp hE
    have e : p = q := by
      rcases List.mem_cons.mp ((h p).mp List.mem_cons_self) with e | hp
      · exact e
      · rcases List.mem_cons.mp ((h q).mpr List.mem_cons_self) with e | hq
        · exact e.symm
        · have c1 := b1 p hp
          have c2 := a1 q hq
          unfold lt2 at c1 c2
          omega
    subst e
    rw [asc_uniq a2 b2 fun z => ?_]
    constructor
    · intro hz
      rcases List.mem_cons.mp ((h z).mp (List.mem_cons_of_mem _ hz)) with e | hz2
      · subst e
        exact absurd (a1 z hz) (lt2_irr z)
      · exact hz2
    · intro hz
      rcases List.mem_cons.mp ((h z).mpr (List.mem_cons_of_mem _ hz)) with e | hz2
      · subst e
        exact absurd (b1 z hz) (lt2_irr z)
      · exact hz2
theorem srtd_asc {H : Hp} {ys : List V} (nd : (ys.map (kH H)).Nodup) (h : SrtO.Srtd (ltP (kH H)) ys) : Asc (ys.map (kH H)) := by
  refine asc_of nd (List.pairwise_map.mpr (List.Pairwise.imp (fun {x y} h => ?_) h))
  exact SrtO.lexB_no.mp h
/-- doors of a house with r rooms -/
structure Drs (r : Nat) (D : List Pr) : Prop where
  asc : Asc D
  ok : ∀ d ∈ D, 0 ≤ d.1 ∧ d.1 < d.2 ∧ d.2 < r
def cd (d : Pr) : Nat := (d.1 * 12 + d.2).toNat
theorem drs_len' {r : Nat} {D : List Pr} (hr : r ≤ 12) (nd : D.Nodup) (ok : ∀ d ∈ D, 0 ≤ d.1 ∧ d.1 < d.2 ∧ d.2 < r) : D.length ≤ 66 := by
  have h1 : (D.map cd).Nodup := by
    refine List.pairwise_map.mpr (List.Pairwise.imp_of_mem (fun {x y} hx hy hne e => ?_) nd)
    have a := ok x hx
    have b := ok y hy
    unfold cd at e
    obtain ⟨x1, x2⟩ := x
    obtain ⟨y1, y2⟩ := y
    simp only at a b e
    have : x1 = y1 ∧ x2 = y2 := by omega
    exact hne (by rw [this.1, this.2])
  have h2 : ∀ c ∈ D.map cd, c ∈ (List.range 144).filter fun c => c / 12 < c % 12 := fun c hc => by
    obtain ⟨d, hd, rfl⟩ := List.mem_map.mp hc
    have a := ok d hd
    refine List.mem_filter.mpr ⟨List.mem_range.mpr ?_, ?_⟩
    · unfold cd
      omega
    · rw [decide_eq_true_eq]
      unfold cd
      omega
  have h3 := nat_nodup_len (D.map cd) _ h1 h2
  rw [List.length_map] at h3
  exact Nat.le_trans h3 (by decide)
theorem Drs.len {r : Nat} {D : List Pr} (hr : r ≤ 12) (h : Drs r D) : D.length ≤ 66 := drs_len' hr h.asc.nodup h.ok

abbrev sNam : Stmt := topS 19
theorem sub_lt_of {i n : Nat} (h : i < n) : (0 : Int) < (n : Int) - (i : Int) := by omega
/-- the ints from 0 on below n -/
def rg (n : Nat) : List Int := (List.range n).map Int.ofNat
theorem rg_len (n : Nat) : (rg n).length = n := by unfold rg; rw [List.length_map, List.length_range]
theorem rgV_rg (n : Nat) : rgV 0 (n : Int) = (rg n).map V.int := by
  unfold rgV rg
  rw [List.map_map]
  show List.map _ (List.range ((n : Int) - 0).toNat) = _
  rw [show ((n : Int) - 0).toNat = n by omega]
  refine List.map_congr_left fun i _ => ?_
  show V.int (0 + (i : Int)) = V.int (i : Int)
  rw [Int.zero_add]
theorem set_map {α β : Type} (f : α → β) (l : List α) (i : Nat) (x : α) : (l.map f).set i (f x) = (l.set i x).map f := by
  rw [List.map_set]
section
variable {P : Program} {w : World} {K : PySem.W.Frag} {mg : Str → Option Value} {base : Heap}
theorem scNam : FnScope ["numbers", "at", "rooms", "names", "k", "j", "kept"] ["numbers", "at", "rooms"] (defScope sNam) := ⟨rfl, rfl, rfl, by decide +kernel, rfl, by decide +kernel, by decide +kernel⟩
def spNam (K : PySem.W.Frag) : Sp := fun vs H Q _ => ∃ (a : Addr) (ns : List Int) (at_ r : Nat), vs = [.ref a, .int at_, .int r] ∧ SqL K H a (ns.map V.int) ∧ at_ + r ≤ ns.length ∧ r ≤ 1000 ∧
  ∀ xs p H', List.Perm xs (rg r) → Same H H' → H p = none → H' p = some (.lst (xs.map V.int)) → Q (.ref p) H'
theorem ok_nam {f : Addr} {fd : FuncData} (F : Fun K "_law_names" "_law_names" sNam f fd) (T : Bi mg) : FnOk P w K mg base CX0 1 f fd ["numbers", "at", "rooms"] (spNam K) := by
  refine F.ok scNam (fun vs H Q E h => ?_) (fun cdv A outer s H vs Q E hr h => ?_)
  · obtain ⟨a, ns, at_, r, rfl, _⟩ := h
    rfl
  · obtain ⟨a, ns, at_, r, rfl, hS, hat, hr1, q⟩ := h
    refine ⟨_, (pss_cons (ps_set (i := 3) scNam.nd rfl (Or.inl rfl) (pe_listRg rfl (by rfl) T.list (prg_1 (by rfl) T.range (pv 2))))
      (pss_cons (ps_for PassesOwn.never rfl (pi_range1 (by rfl) T.range (pa_cons (pv 2) pa_nil)) (pg_name (i := 4) scNam.nd rfl (Or.inl rfl))
      (pss_cons (ps_set (i := 5) scNam.nd rfl (Or.inl rfl) (pe_op op_add (pv 4) (pe_op op_mod (pe_callTy cr_intI (by rfl) T.int (by decide +kernel) (pa_cons (pe_ix ix_list (pv 0) (pe_op op_add (pv 1) (pv 4)) (fun _ _ => rfl)) pa_nil)) (pe_op op_sub (pv 2) (pv 4)))))
        (pss_cons (ps_set (i := 6) scNam.nd rfl (Or.inl rfl) (pe_ix ix_list (pv 3) (pv 4) (fun _ _ => rfl)))
        (pss_cons (ps_asg (pe_ix ix_list (pv 3) (pv 5) (fun _ _ => rfl)) (pg_sub (pv 3) (pv 4) set_list))
        (pss_one (ps_asg (pv 6) (pg_sub (pv 3) (pv 5) set_list)))))))
      (pss_one (ps_ret (pv 3))))), ?_⟩
    walk_at "rd"
    refine ⟨RgOk.of_le (by omega) (by omega) (by omega) (by omega), fun p np => ?_⟩
    refine ⟨_, rfl, r, rfl, by omega, by omega, for_range (lo := 0) (n := (r : Int).toNat) (fun i σ H' => ∃ (xs : List Int) (v1 v2 v3 : Option V), σ = [some (.ref a), some (.int at_), some (.int r), some (.ref p), v1, v2, v3] ∧ List.Perm xs (rg r) ∧ Same H H' ∧ H' p = some (.lst (xs.map V.int)))
      ⟨rg r, none, none, none, rfl, List.Perm.refl _, same_upd np, by rw [upd_same, rgV_rg]⟩ ?_ ?_⟩
    · rintro i σ H' hi ⟨xs, v1, v2, v3, rfl, pm, sm, hp⟩
      have hi2 : i < r := by omega
      have hl : xs.length = r := by rw [pm.length_eq, rg_len]
      have hS' := sm.seq hS
      have hn : at_ + i < ns.length := by omega
      have hq : SqL K H' p (xs.map V.int) := SqL.of hp
      walk_at "rd"
      have hj0 := Int.emod_nonneg ns[at_ + i] (show ((r : Int) - (0 + (i : Int))) ≠ 0 by omega)
      have hj1 := Int.emod_lt_of_pos ns[at_ + i] (show 0 < ((r : Int) - (0 + (i : Int))) by omega)
      obtain ⟨j, hj⟩ : ∃ j : Nat, (0 + (i : Int)) + ns[at_ + i] % ((r : Int) - (0 + (i : Int))) = j := ⟨((0 + (i : Int)) + ns[at_ + i] % ((r : Int) - (0 + (i : Int)))).toNat, by omega⟩
      have hjr : j < r := by omega
      have gi : (xs.map V.int)[i]? = some (.int xs[i]) := by rw [List.getElem?_map, List.getElem?_eq_getElem (by omega)]; rfl
      have gj : (xs.map V.int)[j]? = some (.int xs[j]) := by rw [List.getElem?_map, List.getElem?_eq_getElem (by omega)]; rfl
      refine ⟨_, hS', .int ns[at_ + i], at_of (j := at_ + i) (by omega) (by rw [List.getElem?_map, List.getElem?_eq_getElem hn]; rfl), _, rfl, by omega, _, hq, .int xs[i], at_of (by omega) gi, _, hq, .int xs[j], at_of hj gj, _, hp, i, ixn (by omega) (by rw [List.length_map]; omega), _, upd_same, j, ixn hj (by rw [List.length_set, List.length_map]; omega), (xs.set i xs[j]).set j xs[i], (List.set_set_perm (by omega) (by omega)).trans pm, same_ch (same_ch sm np) np, ?_⟩
      rw [upd_same, set_map, set_map]
    · rintro σ H' ⟨xs, v1, v2, v3, rfl, pm, sm, hp⟩
      walk_at "rd"
      exact q xs p H' pm sm np hp
end

abbrev sSame : Stmt := topS 22
/-- isinstance of built-in kinds -/
def isTy (m n : String) : Bool := m == n || (m == "bool" && n == "int")
theorem kit5 {K : PySem.W.Frag} {m n : String} (hm : m = "bool" ∨ m = "int" ∨ m = "str" ∨ m = "list" ∨ m = "tuple") (hn : n = "bool" ∨ n = "int" ∨ n = "str" ∨ n = "list" ∨ n = "tuple") : PySem.W.kitOne K (.type m) (.type n) = some (isTy m n) := by
  rcases hm with rfl | rfl | rfl | rfl | rfl <;> rcases hn with rfl | rfl | rfl | rfl | rfl <;> exact kit_ty (by decide +kernel)
def rIs5 (K : PySem.W.Frag) : List V → Hp → VK → Prop := fun xs H Q => ∃ (x : V) (n m : String), xs = [x, .ty n] ∧ TyX K H x (.type m) ∧ (m = "bool" ∨ m = "int" ∨ m = "str" ∨ m = "list" ∨ m = "tuple") ∧ (n = "bool" ∨ n = "int" ∨ n = "str" ∨ n = "list" ∨ n = "tuple") ∧ Q (.bl (isTy m n)) H
theorem cr_is5 {X : Cx} : CallR X (.builtin "isinstance") (rIs5 X.K) := fun pins s σ H xs us Q I r h => by
  obtain ⟨x, n, m, rfl, ty, hm, hn, q⟩ := h
  exact call_isi pins s σ H _ us Q I r ⟨x, .ty n, _, _, _, rfl, .ty n, ty, kit5 hm hn, q⟩
theorem is5_of {K : PySem.W.Frag} {H : Hp} {x : V} {n m : String} {Q : VK} (ty : TyX K H x (.type m)) (hm : m = "bool" ∨ m = "int" ∨ m = "str" ∨ m = "list" ∨ m = "tuple") (hn : n = "bool" ∨ n = "int" ∨ n = "str" ∨ n = "list" ∨ n = "tuple") (q : Q (.bl (isTy m n)) H) : rIs5 K [x, .ty n] H Q :=
  ⟨x, n, m, rfl, ty, hm, hn, q⟩
theorem eqS_of {H : Hp} {x : V} {Q : VK} (h : scal x x = true) (q : Q (.bl true) H) : rEq x x H Q := ⟨h, by rw [decide_eq_true rfl]; exact q⟩
local macro_rules | `(tactic| walk_at "i5") => `(tactic| ((first | refine is5_of (.base (.int _)) (by decide) (by decide) ?_ | refine is5_of (.base (.str _)) (by decide) (by decide) ?_ | refine is5_of (.base (.bl _)) (by decide) (by decide) ?_ | refine is5_of (.base (.lst (by assumption))) (by decide) (by decide) ?_ | refine is5_of (.base (.tup (by assumption))) (by decide) (by decide) ?_)))
local macro_rules | `(tactic| walk_at "i6") => `(tactic| (simp only [rIsT, isTy, String.reduceBEq, Bool.or_false, Bool.or_true, Bool.and_false, Bool.and_true, Bool.true_or, Bool.false_or, Bool.true_and, Bool.false_and, reduceCtorEq, decide_false, decide_true, V.bl.injEq, exists_eq_left', if_true, if_false, Bool.false_eq_true, ↓reduceIte, Bool.not_true, Bool.not_false, ite_self]))
def flat4 : V → Bool
  | .non => true
  | .bl _ => true
  | .int _ => true
  | .str _ => true
  | _ => false
/-- the same data, of at most this depth, the lists and tuples tracked -/
def Sm (H : Hp) : Nat → V → V → Prop
  | 0, x, y => x = y ∧ flat4 x = true
  | n + 1, x, y => (x = y ∧ flat4 x = true) ∨ ∃ a b xs ys, x = .ref a ∧ y = .ref b ∧ ((H a = some (.lst xs) ∧ H b = some (.lst ys)) ∨ (H a = some (.tup xs) ∧ H b = some (.tup ys))) ∧ Paired (Sm H n) xs ys ∧ xs.length ≤ 100000
theorem Sm.flat {H : Hp} {n : Nat} {x : V} (h : flat4 x = true) : Sm H n x x := by
  cases n with
  | zero => exact ⟨rfl, h⟩
  | succ n => exact .inl ⟨rfl, h⟩
theorem paired_get {α β : Type} {F : α → β → Prop} : ∀ {xs : List α} {ys : List β} {i : Nat}, Paired F xs ys → i < xs.length → ∃ x y, xs[i]? = some x ∧ ys[i]? = some y ∧ F x y
  | _, _, _, .nil, h => by cases h
  | _, _, 0, .cons r _, _ => ⟨_, _, rfl, rfl, r⟩
  | _, _, i + 1, .cons _ t, h => paired_get (i := i) t (Nat.lt_of_succ_lt_succ h)
section
variable {P : Program} {w : World} {K : PySem.W.Frag} {mg : Str → Option Value} {base : Heap}
theorem scSame : FnScope ["got", "due", "k"] ["got", "due"] (defScope sSame) := ⟨rfl, rfl, rfl, by decide +kernel, rfl, by decide +kernel, by decide +kernel⟩
def spSame (n : Nat) : Sp := fun vs H Q _ => ∃ x y, vs = [x, y] ∧ Sm H n x y ∧ Q (.bl true) H
theorem ok_same {f : Addr} {fd : FuncData} (F : Fun K "_law_same" "_law_same" sSame f fd) (T : Bi mg) (bd : Binds K fd ["got", "due"] []) (hmg : mg "_law_same" = some (.ref f)) : ∀ n, FnOk P w K mg base CX0 (n + 1) f fd ["got", "due"] (spSame n) := by
  intro n
  induction n with
  | zero =>
    refine F.ok scSame (fun vs H Q E h => ?_) (fun cdv A outer s H vs Q E hr h => ?_)
    · obtain ⟨x, y, rfl, _⟩ := h
      rfl
    · obtain ⟨x, y, rfl, ⟨rfl, hf⟩, q⟩ := h
      refine ⟨_, (pss_cons (ps_if (pt_cmpR op_isN (pv 1) pe_non (nomark _))
      (pss_one (ps_ret (pe_cmpR op_isN (pv 0) pe_non (nomark _))))
      pss_nil)
      (pss_cons (ps_if (pt_cmpR op_isT (pv 1) pe_bl (nomark _))
      (pss_one (ps_ret (pe_cmpR op_isT (pv 0) pe_bl (nomark _))))
      pss_nil)
      (pss_cons (ps_if (pt_cmpR op_isT (pv 1) pe_bl (nomark _))
      (pss_one (ps_ret (pe_cmpR op_isT (pv 0) pe_bl (nomark _))))
      pss_nil)
      (pss_cons (ps_if (pt_val (pe_callB cr_is5 (by rfl) T.isinstance (by decide +kernel) (pa_cons (pv 1) (pa_cons (pe_bltn (v := .ty "int") (by rfl) T.int (by decide +kernel) rfl) pa_nil))))
      (pss_one (ps_ret (pe_and (pe_callB cr_is5 (by rfl) T.isinstance (by decide +kernel) (pa_cons (pv 0) (pa_cons (pe_bltn (v := .ty "int") (by rfl) T.int (by decide +kernel) rfl) pa_nil))) (pe_and (pe_not (pe_callB cr_is5 (by rfl) T.isinstance (by decide +kernel) (pa_cons (pv 0) (pa_cons (pe_bltn (v := .ty "bool") (by rfl) T.bool (by decide +kernel) rfl) pa_nil)))) (pe_one (pe_cmpR op_eq (pv 0) (pv 1) (nomark _)))))))
      pss_nil)
      (pss_cons (ps_if (pt_val (pe_callB cr_is5 (by rfl) T.isinstance (by decide +kernel) (pa_cons (pv 1) (pa_cons (pe_bltn (v := .ty "str") (by rfl) T.str (by decide +kernel) rfl) pa_nil))))
      (pss_one (ps_ret (pe_and (pe_callB cr_is5 (by rfl) T.isinstance (by decide +kernel) (pa_cons (pv 0) (pa_cons (pe_bltn (v := .ty "str") (by rfl) T.str (by decide +kernel) rfl) pa_nil))) (pe_one (pe_cmpR op_eq (pv 0) (pv 1) (nomark _))))))
      pss_nil)
      (pss_cons (ps_if (PW.pt (pw_and (pt_val (pe_callB cr_is5 (by rfl) T.isinstance (by decide +kernel) (pa_cons (pv 1) (pa_cons (pe_bltn (v := .ty "list") (by rfl) T.list (by decide +kernel) rfl) pa_nil)))) (pw_and1 (pt_not (pt_val (pe_callB cr_is5 (by rfl) T.isinstance (by decide +kernel) (pa_cons (pv 0) (pa_cons (pe_bltn (v := .ty "list") (by rfl) T.list (by decide +kernel) rfl) pa_nil))))))))
      (pss_one (ps_ret pe_bl))
      pss_nil)
      (pss_cons (ps_if (PW.pt (pw_and (pt_val (pe_callB cr_is5 (by rfl) T.isinstance (by decide +kernel) (pa_cons (pv 1) (pa_cons (pe_bltn (v := .ty "tuple") (by rfl) T.tuple (by decide +kernel) rfl) pa_nil)))) (pw_and1 (pt_not (pt_val (pe_callB cr_is5 (by rfl) T.isinstance (by decide +kernel) (pa_cons (pv 0) (pa_cons (pe_bltn (v := .ty "tuple") (by rfl) T.tuple (by decide +kernel) rfl) pa_nil))))))))
      (pss_one (ps_ret pe_bl))
      pss_nil)
      (pss_cons (ps_if (pt_cmpR op_neI (pe_callB call_len_seq (by rfl) T.len (by decide +kernel) (pa_cons (pv 0) pa_nil)) (pe_callB call_len_seq (by rfl) T.len (by decide +kernel) (pa_cons (pv 1) pa_nil)) (nomark _))
      (pss_one (ps_ret pe_bl))
      pss_nil)
      (pss_cons (ps_never)
      (pss_one (ps_ret pe_bl))))))))))), ?_⟩
      walk_at "rd"
      cases x with
      | non => walk_at "i6"; exact q
      | bl b =>
        cases b with
        | true => walk_at "i6"; exact q
        | false => walk_at "i6"; exact q
      | int i =>
        walk_at "i6"
        repeat (walk_at "i5"; walk_at "i6")
        exact eqS_of rfl q
      | str z =>
        walk_at "i6"
        repeat (walk_at "i5"; walk_at "i6")
        exact eqS_of rfl q
      | _ => cases hf
  | succ n ih =>
    refine F.ok scSame (fun vs H Q E h => ?_) (fun cdv A outer s H vs Q E hr h => ?_)
    · obtain ⟨x, y, rfl, _⟩ := h
      rfl
    · obtain ⟨x, y, rfl, hs, q⟩ := h
      refine ⟨_, (pss_cons (ps_if (pt_cmpR op_isN (pv 1) pe_non (nomark _))
      (pss_one (ps_ret (pe_cmpR op_isN (pv 0) pe_non (nomark _))))
      pss_nil)
      (pss_cons (ps_if (pt_cmpR op_isT (pv 1) pe_bl (nomark _))
      (pss_one (ps_ret (pe_cmpR op_isT (pv 0) pe_bl (nomark _))))
      pss_nil)
      (pss_cons (ps_if (pt_cmpR op_isT (pv 1) pe_bl (nomark _))
      (pss_one (ps_ret (pe_cmpR op_isT (pv 0) pe_bl (nomark _))))
      pss_nil)
      (pss_cons (ps_if (pt_val (pe_callB cr_is5 (by rfl) T.isinstance (by decide +kernel) (pa_cons (pv 1) (pa_cons (pe_bltn (v := .ty "int") (by rfl) T.int (by decide +kernel) rfl) pa_nil))))
      (pss_one (ps_ret (pe_and (pe_callB cr_is5 (by rfl) T.isinstance (by decide +kernel) (pa_cons (pv 0) (pa_cons (pe_bltn (v := .ty "int") (by rfl) T.int (by decide +kernel) rfl) pa_nil))) (pe_and (pe_not (pe_callB cr_is5 (by rfl) T.isinstance (by decide +kernel) (pa_cons (pv 0) (pa_cons (pe_bltn (v := .ty "bool") (by rfl) T.bool (by decide +kernel) rfl) pa_nil)))) (pe_one (pe_cmpR op_eq (pv 0) (pv 1) (nomark _)))))))
      pss_nil)
      (pss_cons (ps_if (pt_val (pe_callB cr_is5 (by rfl) T.isinstance (by decide +kernel) (pa_cons (pv 1) (pa_cons (pe_bltn (v := .ty "str") (by rfl) T.str (by decide +kernel) rfl) pa_nil))))
      (pss_one (ps_ret (pe_and (pe_callB cr_is5 (by rfl) T.isinstance (by decide +kernel) (pa_cons (pv 0) (pa_cons (pe_bltn (v := .ty "str") (by rfl) T.str (by decide +kernel) rfl) pa_nil))) (pe_one (pe_cmpR op_eq (pv 0) (pv 1) (nomark _))))))
      pss_nil)
      (pss_cons (ps_if (PW.pt (pw_and (pt_val (pe_callB cr_is5 (by rfl) T.isinstance (by decide +kernel) (pa_cons (pv 1) (pa_cons (pe_bltn (v := .ty "list") (by rfl) T.list (by decide +kernel) rfl) pa_nil)))) (pw_and1 (pt_not (pt_val (pe_callB cr_is5 (by rfl) T.isinstance (by decide +kernel) (pa_cons (pv 0) (pa_cons (pe_bltn (v := .ty "list") (by rfl) T.list (by decide +kernel) rfl) pa_nil))))))))
      (pss_one (ps_ret pe_bl))
      pss_nil)
      (pss_cons (ps_if (PW.pt (pw_and (pt_val (pe_callB cr_is5 (by rfl) T.isinstance (by decide +kernel) (pa_cons (pv 1) (pa_cons (pe_bltn (v := .ty "tuple") (by rfl) T.tuple (by decide +kernel) rfl) pa_nil)))) (pw_and1 (pt_not (pt_val (pe_callB cr_is5 (by rfl) T.isinstance (by decide +kernel) (pa_cons (pv 0) (pa_cons (pe_bltn (v := .ty "tuple") (by rfl) T.tuple (by decide +kernel) rfl) pa_nil))))))))
      (pss_one (ps_ret pe_bl))
      pss_nil)
      (pss_cons (ps_if (pt_cmpR op_neI (pe_callB call_len_seq (by rfl) T.len (by decide +kernel) (pa_cons (pv 0) pa_nil)) (pe_callB call_len_seq (by rfl) T.len (by decide +kernel) (pa_cons (pv 1) pa_nil)) (nomark _))
      (pss_one (ps_ret pe_bl))
      pss_nil)
      (pss_cons (ps_for PassesOwn.never rfl (pi_range1 (by rfl) T.range (pa_cons (pe_callB call_len_seq (by rfl) T.len (by decide +kernel) (pa_cons (pv 1) pa_nil)) pa_nil)) (pg_name (i := 2) scSame.nd rfl (Or.inl rfl))
      (pss_one (ps_if (pt_not (pt_val (pe_call ih hr (by rfl) hmg F.kp bd .nil pass0 (pa_cons (pe_ix ix_seq (pv 0) (pv 2) (fun _ _ => rfl)) (pa_cons (pe_ix ix_seq (pv 1) (pv 2) (fun _ _ => rfl)) pa_nil)))))
        (pss_one (ps_ret pe_bl))
        pss_nil)))
      (pss_one (ps_ret pe_bl))))))))))), ?_⟩
      walk_at "rd"
      rcases hs with ⟨rfl, hf⟩ | ⟨a, b, xs, ys, rfl, rfl, hk, pr, hl⟩
      · skip
        cases x with
        | non => walk_at "i6"; exact q
        | bl b =>
          cases b with
          | true => walk_at "i6"; exact q
          | false => walk_at "i6"; exact q
        | int i =>
          walk_at "i6"
          repeat (walk_at "i5"; walk_at "i6")
          exact eqS_of rfl q
        | str z =>
          walk_at "i6"
          repeat (walk_at "i5"; walk_at "i6")
          exact eqS_of rfl q
        | _ => cases hf
      · have el : xs.length = ys.length := pr.length
        have hx : SqL K H a xs ∨ SqT K H a xs := by
          rcases hk with ⟨ha, _⟩ | ⟨ha, _⟩
          · exact .inl (SqL.of ha)
          · exact .inr (SqT.of ha)
        have hy : SqL K H b ys ∨ SqT K H b ys := by
          rcases hk with ⟨_, ha⟩ | ⟨_, ha⟩
          · exact .inl (SqL.of ha)
          · exact .inr (SqT.of ha)
        have ix : ∀ {zs : List V} {k : Nat} {p : Addr} {v : V} {Q : VK}, (SqL K H p zs ∨ SqT K H p zs) → zs[k]? = some v → Q v H → rIx K (.ref p) (.int k) H Q := fun hz hv hq => by
          rcases hz with hz | hz
          · exact .inl ⟨_, _, _, _, rfl, rfl, hz, atI_nat hv, hq⟩
          · exact .inr (.inl ⟨_, _, _, _, rfl, rfl, hz, atI_nat hv, hq⟩)
        rcases hk with ⟨ha, hb⟩ | ⟨ha, hb⟩
        all_goals
          walk_at "i6"
          repeat (walk_at "i5"; walk_at "i6")
          refine ⟨_, rfl, _, hx, _, rfl, _, hy, ?_⟩
          rw [el, decide_eq_true rfl]
          refine iteF ?_
          obtain ⟨Pv, hPv⟩ : ∃ Pv : Nat → L2.St → Hp → Prop, Pv = (fun i σ H' => ∃ v : Option V, σ = [some (.ref a), some (.ref b), v] ∧ H' = H) := ⟨_, rfl⟩
          refine ⟨_, rfl, b, rfl, ys, hy, ys.length, rfl, by omega, by omega, for_range (lo := 0) (n := ((ys.length : Nat) : Int).toNat) Pv (by rw [hPv]; exact ⟨none, rfl, rfl⟩) ?_ ?_⟩
          · rintro i σ H' hi pv
            have nxt : ∀ v, Pv (i + 1) [some (.ref a), some (.ref b), v] H := fun v => by
              rw [hPv]
              exact ⟨v, rfl, rfl⟩
            rw [hPv] at pv
            obtain ⟨v, rfl, rfl⟩ := pv
            obtain ⟨x1, y1, g1, g2, sm⟩ := paired_get (i := i) pr (by omega)
            walk_at "rd"
            rw [Int.zero_add]
            refine ix hx g1 (ix hy g2 ⟨_, _, rfl, sm, ?_⟩)
            exact ⟨true, rfl, iteF (nxt _)⟩
          · rintro σ H' pv
            rw [hPv] at pv
            obtain ⟨v, rfl, rfl⟩ := pv
            walk_at "rd"
            exact q
end

/-! ### a set of tuples of ints, whatever their number (the table's masks: 7, 31, 127) -/
structure PsR (P : Program) (w : World) (h : Heap) (a : Addr) (L : List (Addr × List Int)) (es : Array (Int × Value)) (ep : Nat) (t : SetTable) : Prop where
  obj : ∃ o, h.get? a = some o ∧ o.ExactSet ∧ o.data = .set es ep t
  rw_ : es.toList = rowsOf P w L
  tb : TabOk t (L.map fun p => thash P w p.2)
  nod : (L.map (·.2)).Nodup
  tps : ∀ p ∈ L, IsT P w h p.2 p.1
  pln : t.plain = true
  ld : w.params.followText "set-order" = true ∨ t.led = true
  rm : L.length * 5 < t.mask * 3
section
variable {P : Program} {w : World} {A : Around} {E : Value → Shared → Prop} {s : Shared}
variable {a : Addr} {L : List (Addr × List Int)} {es : Array (Int × Value)} {ep : Nat} {t : SetTable}
theorem PsR.sz (R : PsR P w s.heap a L es ep t) : es.size = L.length := by
  have e := congrArg List.length R.rw_
  rw [Array.length_toList] at e
  rw [e]
  exact List.length_map _
theorem PsR.psz (R : PsR P w s.heap a L es ep t) : t.place.size = L.length := by
  have e := R.tb.sz
  rw [List.length_map] at e
  exact e
theorem PsR.fts (R : PsR P w s.heap a L es ep t) : t.fits es.size = true := by
  have e1 := R.psz
  have e2 := R.sz
  have e3 := R.rm
  have e4 : t.fill = t.place.size := by
    show t.place.size + t.dummies.size = t.place.size
    rw [R.tb.dm]
    rfl
  show (t.place.size == es.size && decide (t.fill ≤ t.mask)) = true
  rw [e4, e1, e2, beq_self_eq_true, Bool.true_and, decide_eq_true_eq]
  omega
theorem PsR.ent (R : PsR P w s.heap a L es ep t) {i : Nat} {p : Addr × List Int} (g : L[i]? = some p) : es[i]? = some (thash P w p.2, Value.ref p.1) := by
  have e : (rowsOf P w L)[i]? = some (thash P w p.2, Value.ref p.1) := by
    show (L.map _)[i]? = _
    rw [List.getElem?_map, g]
    rfl
  rw [← R.rw_, Array.getElem?_toList] at e
  exact e
theorem PsR.odd (R : PsR P w s.heap a L es ep t) : ¬ t.gaveWay = true := fun z => by
  have m := mask_odd R.tb.mok
  have z2 : (t.mask % 2 == 0) = true := z
  rw [m] at z2
  cases z2
/-- the c-th state of the search for the tuple k -/
abbrev stAt (P : Program) (w : World) (t : SetTable) (k : List Int) (c : Nat) : SetTable.Probe := nth t.mask (t.probeStart (thash P w k)) c
abbrev slAt (P : Program) (w : World) (t : SetTable) (k : List Int) (c : Nat) : Nat := (stAt P w t k c).j
theorem stAt_dm (k : List Int) (c : Nat) : (stAt P w t k c).dummy = none := by
  have all : ∀ (n : Nat) (p : SetTable.Probe), p.dummy = none → (nth t.mask p n).dummy = none := by
    intro n
    induction n with
    | zero => exact fun _ e => e
    | succ n ih =>
      intro p e
      show (nth t.mask (adv t.mask p) n).dummy = none
      exact ih _ (by rw [← adv_eq, advance_dummy]; exact e)
  exact all c _ rfl
theorem stAt_add (k : List Int) (c q : Nat) : nth t.mask (stAt P w t k c) q = stAt P w t k (c + q) := (nth_add t.mask c _ q).symm
theorem psearch (R : PsR P w s.heap a L es ep t) {x : Addr} {k : List Int} (hx : IsT P w s.heap k x) (hu : A.units < cLine) (ad : Bool) {N : Nat} (hN : N < 10 * SetTable.turns t.mask)
    (free : slAt P w t k N ∉ t.place.toList) (full : ∀ c, c < N → slAt P w t k c ∈ t.place.toList) {Q : SetFound → Shared → Prop}
    (yes : ∀ i, k ∈ L.map (·.2) → Q (.there (if ad then none else some i)) s) (no : k ∉ L.map (·.2) → Q (.free (slAt P w t k N) false) s) :
    ∀ (f c : Nat) (st : Option SetTable.Probe), st.getD (t.probeStart (thash P w k)) = stAt P w t k c → c ≤ N → N < f + c →
      (∀ (i : Nat) p, L[i]? = some p → p.2 = k → ∃ c', c ≤ c' ∧ c' < N ∧ t.place.toList[i]? = some (slAt P w t k c')) →
      wpAny (model P w) A (setSearchFrom a (.ref x) (thash P w k) ad f st) Q E s := by
  intro f
  induction f with
  | zero => intro c st _ h1 h2 _; omega
  | succ f ih =>
    intro c st est hc hf ahead
    obtain ⟨o, ho, hex, hd⟩ := R.obj
    rw [setSearchFrom_succ]
    refine wpAny_bind (wpAny_setState_of ho hd R.fts ?_)
    dsimp only
    refine wp_if_neg R.odd ?_
    try refine wpAny_bind (wpAny_pure ?_)
    have hashes : ∀ (i : Nat) p, L[i]? = some p → (es[i]?.map (·.1)).getD 0 = thash P w p.2 := fun i p g => by
      rw [R.ent g]
      rfl
    have spec := go_spec t R.tb.ris R.tb.dm (fun i => (es[i]?.map (·.1)).getD 0) (thash P w k) (10 * SetTable.turns t.mask) (N - c) (stAt P w t k c) (stAt_dm k c) (by omega)
      (fun q hq => by rw [stAt_add]; exact full (c + q) (by omega)) (by rw [stAt_add, Nat.add_sub_cancel' hc]; exact free)
    rw [est]
    simp only [stAt_add] at spec
    rcases spec with ⟨q, i, hq, hi, _, early, pr⟩ | ⟨early, pr⟩
    · -- an entry of this hash stands there
      have pr2 : t.probe (fun i => (es[i]?.map (·.1)).getD 0) (thash P w k) (stAt P w t k c) = _ := pr
      rw [pr2]
      dsimp only
      have il : i < L.length := by
        have e := (List.getElem?_eq_some_iff.mp hi).1
        rw [Array.length_toList, R.psz] at e
        exact e
      obtain ⟨p, gp⟩ : ∃ p, L[i]? = some p := ⟨_, List.getElem?_eq_getElem il⟩
      have mp : p ∈ L := List.mem_of_getElem? gp
      have live : t.slot (slAt P w t k (c + q)) = .live i := slot_live R.tb.ris hi
      have go : wpAny (model P w) A (searchRest a (.ref x) (thash P w k) ad f es t (slAt P w t k (c + q)) i (stAt P w t k (c + (q + 1)))) Q E s := by
        unfold searchRest
        rw [R.ent gp]
        dsimp only
        refine wpAny_bind (wpAny_holding (wpAny_eqBool_tuple hu (R.tps p mp) hx ?_))
        refine wpAny_bind (wpAny_setState_of ho hd R.fts ?_)
        dsimp only
        have later : p.2 ≠ k → wpAny (model P w) A (setSearchFrom a (.ref x) (thash P w k) ad f (some (stAt P w t k (c + (q + 1))))) Q E s := fun ne => by
          refine ih (c + (q + 1)) _ rfl (by omega) (by omega) fun i2 p2 g2 e2 => ?_
          obtain ⟨c2, b1, b2, b3⟩ := ahead i2 p2 g2 e2
          refine ⟨c2, ?_, b2, b3⟩
          refine Classical.byContradiction fun lt => ?_
          by_cases hc2 : c2 < c + q
          · refine early (c2 - c) i2 (by omega) (by rw [Nat.add_sub_cancel' b1]; exact b3) ?_
            rw [hashes i2 p2 g2, e2]
          · have e3 : c2 = c + q := by omega
            rw [e3] at b3
            have l2 := slot_live R.tb.ris b3
            rw [live] at l2
            injection l2 with l2
            rw [← l2, gp] at g2
            rw [Option.some.inj g2] at ne
            exact ne e2
        by_cases hk : p.2 = k
        · have mk : k ∈ L.map (·.2) := List.mem_map.mpr ⟨p, mp, hk⟩
          cases ad with
          | true =>
            refine wp_if_pos (by simp [hk]) ?_
            exact wpAny_pure (yes i mk)
          | false =>
            refine wp_if_neg (by simp) ?_
            try refine wpAny_bind (wpAny_pure ?_)
            rw [sameMem]
            dsimp only
            simp only [if_true, live, R.ent gp]
            refine wpAny_bind (wpAny_isSame_ref_self (wpAny_bind (wpAny_pure ?_)))
            rw [if_pos rfl]
            dsimp only
            rw [if_pos (decide_eq_true hk)]
            exact wpAny_pure (yes i mk)
        · refine wp_if_neg (by simp [hk]) ?_
          try refine wpAny_bind (wpAny_pure ?_)
          rw [sameMem]
          dsimp only
          simp only [if_true, live, R.ent gp]
          refine wpAny_bind (wpAny_isSame_ref_self (wpAny_bind (wpAny_pure ?_)))
          rw [if_pos rfl]
          dsimp only
          rw [if_neg (by rw [decide_eq_true_eq]; exact hk)]
          exact later hk
      by_cases hl : t.led = true
      · refine wp_if_neg (by rw [hl]; decide) ?_
        try refine wpAny_bind (wpAny_pure ?_)
        exact go
      · refine wp_if_pos (by simp [hl]) ?_
        refine wpAny_bind (seen_tup hx (fun y hy => ?_) ?_)
        · obtain ⟨e, he, rfl⟩ := List.mem_map.mp hy
          have he2 : e ∈ es.toList := by
            have := (Array.mem_filter.mp (Array.mem_toList_iff.mp he)).1
            exact Array.mem_toList_iff.mpr this
          rw [R.rw_] at he2
          obtain ⟨p2, m2, rfl⟩ := List.mem_map.mp he2
          exact ⟨p2.2, p2.1, rfl, R.tps p2 m2⟩
        · refine wp_if_neg Bool.false_ne_true ?_
          try refine wpAny_bind (wpAny_pure ?_)
          exact go
    · -- the empty slot
      have pr2 : t.probe (fun i => (es[i]?.map (·.1)).getD 0) (thash P w k) (stAt P w t k c) = _ := pr
      rw [pr2, Nat.add_sub_cancel' hc]
      dsimp only
      refine wpAny_pure (no fun hm => ?_)
      obtain ⟨p, mp, e⟩ := List.mem_map.mp hm
      obtain ⟨i, gp⟩ := List.getElem?_of_mem mp
      obtain ⟨c2, b1, b2, b3⟩ := ahead i p gp e
      refine early (c2 - c) i (by omega) (by rw [Nat.add_sub_cancel' b1]; exact b3) ?_
      rw [hashes i p gp, e]
/-- the search as it is asked for -/
theorem psearch0 (R : PsR P w s.heap a L es ep t) {x : Addr} {k : List Int} (hx : IsT P w s.heap k x) (hu : A.units < cLine) (ad : Bool) {Q : SetFound → Shared → Prop}
    (yes : ∀ i, k ∈ L.map (·.2) → Q (.there (if ad then none else some i)) s)
    (no : ∀ N, k ∉ L.map (·.2) → slAt P w t k N ∉ t.place.toList → (∀ c, c < N → slAt P w t k c ∈ t.place.toList) → Q (.free (slAt P w t k N) false) s) :
    wpAny (model P w) A (setSearch a (.ref x) (thash P w k) ad) Q E s := by
  have few := R.rm
  obtain ⟨N, n1, n2, n3⟩ := R.tb.first (by rw [List.length_map]; omega) (thash P w k)
  have n4 : N < 100000 := by
    have e : 10 * SetTable.turns t.mask ≤ 1420 := by
      unfold SetTable.turns
      rcases R.tb.mok with e | e | e <;> omega
    omega
  unfold setSearch
  refine psearch R hx hu ad n1 n2 n3 yes (fun z => no N z n2 n3) 100000 0 none rfl (Nat.zero_le _) (by omega) fun i p gp e => ?_
  have g1 : (L.map fun p => thash P w p.2)[i]? = some (thash P w k) := by
    rw [List.getElem?_map, gp, ← e]
    rfl
  have g2 : i < t.place.toList.length := by
    rw [Array.length_toList, R.psz]
    exact (List.getElem?_eq_some_iff.mp gp).1
  obtain ⟨c, c1, c2⟩ := R.tb.before n2 g1 (List.getElem?_eq_getElem g2)
  refine ⟨c, Nat.zero_le _, c1, ?_⟩
  rw [List.getElem?_eq_getElem g2]
  exact congrArg some c2.symm
end

section
variable {P : Program} {w : World} {A : Around} {E : Value → Shared → Prop} {s : Shared}
variable {a : Addr} {L : List (Addr × List Int)} {es : Array (Int × Value)} {ep : Nat} {t : SetTable}
theorem PsR.ty (R : PsR P w s.heap a L es ep t) : s.TypeIs (.ref a) "set" := by
  obtain ⟨o, ho, hx, _⟩ := R.obj
  exact ⟨o, ho, hx.1⟩
theorem PsR.nodict (R : PsR P w s.heap a L es ep t) : ∀ b, Value.ref a = .ref b → ∃ ob, s.heap.get? b = some ob ∧ ob.dict = none := fun b e => by
  injection e with e
  subst e
  obtain ⟨o, ho, hx, _⟩ := R.obj
  exact ⟨o, ho, hx.2.1⟩
/-- who is sought among tuples -/
theorem pfind (R : PsR P w s.heap a L es ep t) {x : Addr} {k : List Int} (hx : IsT P w s.heap k x) (hu : A.units < cLine) {Q : Option Nat → Shared → Prop}
    (h : ∀ r : Option Nat, r.isSome = decide (k ∈ L.map (·.2)) → Q r s) : wpAny (model P w) A (setFind a (.ref x) (thash P w k)) Q E s := by
  obtain ⟨o, ho, hex, hd⟩ := R.obj
  show wpAny (model P w) A (setFindIn a (.ref x) (thash P w k) (99999 + 1)) Q E s
  unfold setFindIn
  refine wpAny_bind (wpAny_setState_of ho hd R.fts ?_)
  dsimp only
  refine wp_if_neg (by simp [byScan, Value.scannable]) ?_
  try refine wpAny_bind (wpAny_pure ?_)
  refine wpAny_bind (psearch0 R hx hu false (fun i m => ?_) fun N m _ _ => ?_)
  · dsimp only
    exact wpAny_pure (h (some i) (by rw [decide_eq_true m]; rfl))
  · dsimp only
    exact wpAny_pure (h none (by rw [decide_eq_false m]; rfl))
theorem pis_in (R : PsR P w s.heap a L es ep t) {x : Addr} {k : List Int} (hx : IsT P w s.heap k x) (hu : A.units + 4 < cLine) {Q : Value → Shared → Prop}
    (h : Q (.bool (decide (k ∈ L.map (·.2)))) { s with toks := s.toks + (k.length + 1) }) : wpAny (model P w) A (compareOp .In (.ref x) (.ref a)) Q E s := by
  have ty := R.ty
  have ask : wpAny (model P w) A.in1 (Builtin.«frozenset.__contains__» ⟨[.ref a, .ref x], []⟩) (fun fin s' => ∃ v, fin = .done (.ret v) ∧ wpAny (model P w) A (truthy v) (fun c s' => wpAny (model P w) A (pure (Value.bool c)) Q E s') E s') E s := by
    simp only [Builtin.«frozenset.__contains__», Builtin.Frozenset.oneOther, Builtin.Frozenset.addrOf, Builtin.Frozenset.withSetAsKey, setContains, List.isEmpty_nil, bind_assoc]
    refine wpAny_bind (wpAny_pure ?_); try dsimp only
    refine wpAny_bind (wpAny_pure ?_); try dsimp only
    refine wpAny_bind (wpAny_tryCatch (wpAny_holding (wpAny_bind (wpAny_pyHash_tuple (by show A.units + 1 < cLine; omega) hx ?_))))
    refine wpAny_bind (pfind (s := { s with toks := s.toks + (k.length + 1) }) R hx (by show A.units + 1 < cLine; omega) fun r er => wpAny_pure ?_)
    show wpAny _ _ (ret (Value.bool r.isSome)) _ _ _
    rw [er]
    exact wpAny_pure ⟨_, rfl, wpAny_truthy_bool (wpAny_pure h)⟩
  show wpAny _ _ (contains (.ref a) (.ref x) >>= fun b => pure (Value.bool b)) Q E s
  refine wpAny_bind ?_
  unfold contains
  try with_reducible refine wpAny_holding ?_
  refine wpAny_bind (wpAny_specialOf ty F.slot_set_contains.lookup ?_)
  refine wp_if_neg (by rw [beq_builtin_none]; decide) (wpAny_bind (wpAny_callSpecialUnlessNone?_slot (name := Str.ofString "__contains__") ty F.slot_set_contains (wpAny_call_entry F.slot_set_contains ty entry_set_contains ask (F.args_set_contains_2 _ _))))
end

section
variable {P : Program} {w : World} {A : Around} {E : Value → Shared → Prop} {s : Shared}
variable {a : Addr} {L : List (Addr × List Int)} {es : Array (Int × Value)} {ep : Nat} {t : SetTable}
theorem PsR.small {h : Heap} (R : PsR P w h a L es ep t) (few : L.length < 64) : SetTR P w h a L es ep t := ⟨R.obj, R.rw_, R.tb, R.nod, R.tps, R.pln, R.ld, R.rm, few⟩
theorem PsR.of {h : Heap} (R : SetTR P w h a L es ep t) : PsR P w h a L es ep t := ⟨R.ob, R.rows, R.tab, R.nd, R.tup, R.plain, R.led, R.room⟩
/-- one more tuple -/
theorem padd (R : PsR P w s.heap a L es ep t) {x : Addr} {k : List Int} (hx : IsT P w s.heap k x) (hu : A.units < cLine) (bnd : L.length + 1 ≤ 76) {Q : Bool → Shared → Prop}
    (h : ∀ b h' L' es' ep' t', Heap.SameBut a s.heap h' → PsR P w h' a L' es' ep' t' → (k ∈ L.map (·.2) → L' = L) → (k ∉ L.map (·.2) → L'.Perm ((x, k) :: L)) → Q b { s with heap := h' }) :
    wpAny (model P w) A (setAddHashed a (.ref x) (thash P w k)) Q E s := by
  by_cases few : L.length + 1 < 64
  · exact add_at (R.small (by omega)) hx hu few fun b h' L' es' ep' t' sb R' c1 c2 => h b h' L' es' ep' t' sb (PsR.of R') c1 c2
  · obtain ⟨o, ho, hex, hd⟩ := R.obj
    have m127 : t.mask = 127 := by
      have := R.rm
      rcases R.tb.mok with e | e | e <;> omega
    unfold setAddHashed
    refine wpAny_holding ?_
    show wpAny (model P w) A (setAddHashedIn a (.ref x) (thash P w k) (99999 + 1)) Q E s
    rw [setAddHashedIn_succ]
    refine wpAny_bind (wpAny_setState_of ho hd R.fts ?_)
    dsimp only
    refine wp_if_neg (by simp [byScan, Value.scannable]) ?_
    try refine wpAny_bind (wpAny_pure ?_)
    refine wpAny_bind (psearch0 R hx hu true (fun i m => ?_) fun N m n1 n2 => ?_)
    · dsimp only
      exact wpAny_pure (h false s.heap L es ep t (Heap.SameBut.refl a s.heap) R (fun _ => rfl) fun z => absurd m z)
    · dsimp only
      refine wpAny_bind (wpAny_setState_of ho hd R.fts ?_)
      dsimp only
      obtain ⟨q1, q2, q3, q4, q5, q6, q7, q8, q9⟩ := R.tb.put n1 n2
      have e0 : way t.mask (thash P w k) N = slAt P w t k N := rfl
      rw [e0] at q1 q2 q3 q4 q5 q6 q7 q8 q9
      generalize slAt P w t k N = sl at q1 q2 q3 q4 q5 q6 q7 q8 q9 ⊢
      rw [q1]
      generalize (t.put sl).1 = t1 at q3 q4 q5 q6 q7 q8 q9 ⊢
      generalize SetTable.below t.place sl = b at q2 q3 ⊢
      have plain1 : t1.plain = true := by rw [q6]; exact R.pln
      refine wp_if_pos plain1 (wpAny_bind (hashBy_tup hx ?_))
      simp only [if_true, Bool.not_false, Bool.true_and]
      have pm : (L.take b ++ (x, k) :: L.drop b).Perm ((x, k) :: L) := put_perm L b (x, k)
      have rows : (SetTable.insertAt es b (thash P w k, Value.ref x)).toList = rowsOf P w (L.take b ++ (x, k) :: L.drop b) := by
        rw [rows_put, ← R.rw_]
        exact SetTable.toList_insertAt _ _ _
      have tabs : TabOk t1 ((L.take b ++ (x, k) :: L.drop b).map fun p => thash P w p.2) := by
        rw [List.map_append, List.map_cons, List.map_take, List.map_drop]
        exact q3
      generalize SetTable.insertAt es b (thash P w k, Value.ref x) = es1 at rows ⊢
      generalize L.take b ++ (x, k) :: L.drop b = L1 at pm rows tabs
      have len1 : L1.length = L.length + 1 := pm.length_eq
      have size1 : es1.size = L.length + 1 := by
        have e := congrArg List.length rows
        rw [Array.length_toList] at e
        rw [e, ← len1]
        exact List.length_map _
      have notFull : ¬ t1.tooFull = true := fun z => by
        have z2 : decide (t1.fill * 5 ≥ t1.mask * 3) = true := z
        rw [decide_eq_true_eq, q9, List.length_map, q4, m127] at z2
        omega
      refine wpAny_bind (wpAny_storeSet_of ho hd ?_ (by rw [size1, sizeLine_eq]; omega))
      refine wp_if_neg notFull ?_
      have sb : Heap.SameBut a s.heap (s.heap.update a (Obj.putSet es1 t1)) := Heap.SameBut.update ..
      refine wpAny_pure (h true _ L1 es1 (ep + 1) t1 sb ⟨⟨_, store_at ho hd, ⟨hex.1, hex.2.1, hex.2.2⟩, rfl⟩, rows, tabs, ?_, fun p hp => ?_, plain1, by rw [q5]; exact R.ld, by rw [len1, q4, m127]; omega⟩ (fun z => absurd z m) fun _ => pm)
      · refine (pm.map (·.2)).nodup_iff.mpr ?_
        rw [List.map_cons]
        exact List.nodup_cons.mpr ⟨m, R.nod⟩
      · rcases List.mem_cons.mp (pm.mem_iff.mp hp) with e | hp2
        · rw [e]
          exact isT_same hx ho hd sb
        · exact isT_same (R.tps p hp2) ho hd sb
end

/-! ### as rules of the layer: a set of pairs of ints -/
theorem perm_map {α β : Type} {f : α → β} {l m : List β} (h : l.Perm m) : ∀ L : List α, m = L.map f → ∃ L' : List α, List.Perm L' L ∧ l = List.map f L' := by
  induction h with
  | nil => intro L e; exact ⟨[], by rw [List.map_eq_nil_iff.mp e.symm], rfl⟩
  | cons x _ ih =>
    intro L e
    cases L with
    | nil => cases e
    | cons y L =>
      obtain ⟨e1, e2⟩ := List.cons.inj e
      obtain ⟨L', p, e3⟩ := ih L e2
      exact ⟨y :: L', p.cons y, by rw [List.map_cons, e1, e3]⟩
  | swap x y l =>
    intro L e
    match L, e with
    | y' :: x' :: L, e =>
      obtain ⟨e1, e2⟩ := List.cons.inj e
      obtain ⟨e3, e4⟩ := List.cons.inj e2
      exact ⟨x' :: y' :: L, List.Perm.swap y' x' L, by rw [List.map_cons, List.map_cons, ← e1, ← e3, ← e4]⟩
  | trans _ _ ih1 ih2 =>
    intro L e
    obtain ⟨L1, p1, e1⟩ := ih2 L e
    obtain ⟨L2, p2, e2⟩ := ih1 L1 e1
    exact ⟨L2, p2.trans p1, e2⟩
def pr2 : List Int → Pr
  | [x, y] => (x, y)
  | _ => (0, 0)
section
variable {P : Program} {w : World} {A : Around} {E : Value → Shared → Prop} {s : Shared}
variable {a : Addr} {L : List (Addr × List Int)} {es : Array (Int × Value)} {ep : Nat} {t : SetTable}
theorem IsT.pair {h : Heap} {b : Addr} {x y : Int} (q : IsT P w h [x, y] b) : Srt.IsPair h (.ref b) x y := by
  obtain ⟨o, items, n, ho, hc, hd, hi⟩ := q
  obtain ⟨its⟩ := items
  cases hi with
  | cons h1 h2 =>
    cases h2 with
    | cons h3 h4 =>
      cases h4
      obtain ⟨t1, rfl⟩ := Value.isInt_shape h1
      obtain ⟨t2, rfl⟩ := Value.isInt_shape h3
      exact ⟨b, o, t1, t2, n, rfl, ho, hc, hd⟩
/-- the pair that stands at a value -/
def kL (L : List (Addr × List Int)) (v : Value) : Pr := match v with
  | .ref b => pr2 ((L.lookup b).getD [])
  | _ => (0, 0)
theorem kL_of {h : Heap} (tps : ∀ p ∈ L, IsT P w h p.2 p.1) {q : Addr × List Int} (m : q ∈ L) : kL L (.ref q.1) = pr2 q.2 := by
  have key : ∀ L : List (Addr × List Int), (∀ p ∈ L, IsT P w h p.2 p.1) → q ∈ L → L.lookup q.1 = some q.2 := by
    intro L
    induction L with
    | nil => intro _ z; cases z
    | cons p L ih =>
      intro tps m
      obtain ⟨b, k⟩ := p
      by_cases e : q.1 = b
      · have t1 := tps _ m
        have t2 := tps (b, k) List.mem_cons_self
        rw [e] at t1
        have e2 : q.2 = k := t1.inj t2
        rw [List.lookup_cons, e, beq_self_eq_true, e2]
      · have m2 : q ∈ L := by
          rcases List.mem_cons.mp m with z | z
          · rw [z] at e
            exact absurd rfl e
          · exact z
        rw [List.lookup_cons, beq_eq_false_iff_ne.mpr e]
        exact ih (fun p hp => tps p (List.mem_cons_of_mem _ hp)) m2
  show pr2 ((L.lookup q.1).getD []) = _
  rw [key L tps m]
  rfl
/-- sorted(set) -/
theorem psorted (R : PsR P w s.heap a L es ep t) (hh : A.handled = none) (two : ∀ p ∈ L, ∃ x y, p.2 = [x, y]) (few : L.length ≤ 1000) {Q : Value → Shared → Prop}
    (h : ∀ s' p c (L' : List (Addr × List Int)), (∀ b o, s.heap.get? b = some o → s'.heap.get? b = some o) → s'.gens = s.gens → s'.os = s.os → s.heap.objs.size ≤ p → s'.heap.get? p = some (seqObj "list" (L'.map fun q => Value.ref q.1).toArray c) → L'.Perm L →
      L'.Pairwise (fun q r => ¬ lt2 (pr2 r.2) (pr2 q.2)) → Q (.ref p) s') : wpAny (model P w) A (call (.builtin "sorted") [.ref a]) Q E s := by
  obtain ⟨o, ho, hex, hd⟩ := R.obj
  have sz := R.sz
  refine Calls.call_function_entry kind_sorted plain_sorted entry_sorted (args_sorted1 _) ?_
  unfold Builtin.«sorted»; refine wpAny_bind (m := checkCount "sorted" 1 1 _) (wpAny_pure ?_)
  refine wpAny_bind (collect_set (A := A.in1) hh ⟨o, ho, hex.1, hd⟩ R.fts (by rw [sz]; unfold scanBound; omega) R.tb.ris R.ld fun s1 vs keep grow g1 o1 pm => ?_)
  have e1 : es.toList.map (·.2) = L.map fun q => Value.ref q.1 := by
    rw [R.rw_]
    show List.map _ (L.map _) = _
    rw [List.map_map]
    rfl
  rw [e1] at pm
  have lv : vs.length ≤ sizeLine := by
    rw [pm.length_eq, List.length_map, sizeLine_eq]
    omega
  refine wpAny_bind (wpAny_newList ?_ lv)
  have new : (s1.heap.push (seqObj "list" vs.toArray 0)).get? s1.heap.objs.size = some (seqObj "list" vs.toArray 0) := Heap.get?_push_size _ rfl
  have pairs : ∀ v ∈ vs, Srt.IsPair (s1.heap.push (seqObj "list" vs.toArray 0)) v (kL L v).1 (kL L v).2 := fun v hv => by
    obtain ⟨q, hq, rfl⟩ := List.mem_map.mp (pm.mem_iff.mp hv)
    rw [kL_of R.tps hq]
    obtain ⟨x, y, e2⟩ := two q hq
    have t1 := R.tps q hq
    rw [e2] at t1 ⊢
    exact Srt.IsPair.keeps (IsT.pair t1) fun b u e _ => Heap.get?_push_of_some _ (keep b u e)
  refine wpAny_bind (wpAny_holding (wpAny_call_entry slot_list_sort ⟨_, new, rfl⟩ entry_list_sort (SrtO.list_sort_ord (s := { s1 with heap := s1.heap.push (seqObj "list" vs.toArray 0) }) (SrtO.swo_lex (kL L)) new lv (fun h2 => SrtO.pairs_sortableO (by omega) pairs fun o e c => ?_) fun out so st => ⟨_, rfl, ?_⟩) (args_list_sort _)))
  · have e3 : some o = some (seqObj "list" vs.toArray 0) := e.symm.trans new
    cases e3
    exact absurd (Value.type.inj c) (by decide)
  · obtain ⟨L', p1, p2⟩ := perm_map (st.perm.trans pm) L rfl
    obtain ⟨c, hc⟩ := sortedHeap_at (vs := vs) (out := out.toArray) new
    refine wpAny_pure ⟨_, rfl, h _ s1.heap.objs.size c L' (fun b u e => ?_) g1 o1 grow ?_ p1 ?_⟩
    · have e4 := keep b u e
      have lt := Heap.lt_size e4
      show (sortedHeap (s1.heap.push (seqObj "list" vs.toArray 0)) s1.heap.objs.size vs out.toArray).get? b = some u
      rw [sortedHeap_old (Nat.ne_of_lt lt) (by rw [size_push']; exact Nat.lt_succ_of_lt lt)]
      exact Heap.get?_push_of_some _ e4
    · rw [← p2]
      exact hc
    · rw [p2] at so
      refine List.Pairwise.imp_of_mem (fun {q r} hq hr z => ?_) (List.pairwise_map.mp so)
      have z2 : SrtO.lexB (kL L (Value.ref r.1)) (kL L (Value.ref q.1)) = false := z
      rw [kL_of R.tps (p1.mem_iff.mp hq), kL_of R.tps (p1.mem_iff.mp hr)] at z2
      exact SrtO.lexB_no.mp z2
end
/-- the set at a without its tuples -/
structure Ps0 (P : Program) (w : World) (h : Heap) (a : Addr) (L : List (Addr × List Int)) : Prop where
  ex : ∃ (es : Array (Int × Value)) (ep : Nat) (t : SetTable), (∃ o, h.get? a = some o ∧ o.ExactSet ∧ o.data = .set es ep t) ∧ es.toList = rowsOf P w L ∧ TabOk t (L.map fun p => thash P w p.2) ∧ (L.map (·.2)).Nodup ∧ t.plain = true ∧ (w.params.followText "set-order" = true ∨ t.led = true) ∧ L.length * 5 < t.mask * 3
def PsO (P : Program) (w : World) (a : Addr) (L : List (Addr × List Int)) : HO := .ext fun h => Ps0 P w h a L
theorem PsR.p0 {P : Program} {w : World} {h : Heap} {a : Addr} {L : List (Addr × List Int)} {es : Array (Int × Value)} {ep : Nat} {t : SetTable} (R : PsR P w h a L es ep t) : Ps0 P w h a L := ⟨es, ep, t, R.obj, R.rw_, R.tb, R.nod, R.pln, R.ld, R.rm⟩
theorem Ps0.full {P : Program} {w : World} {h : Heap} {a : Addr} {L : List (Addr × List Int)} (R : Ps0 P w h a L) (tp : ∀ p ∈ L, IsT P w h p.2 p.1) : ∃ es ep t, PsR P w h a L es ep t := by
  obtain ⟨es, ep, t, h1, h2, h3, h4, h5, h6, h7⟩ := R.ex
  exact ⟨es, ep, t, ⟨h1, h2, h3, h4, tp, h5, h6, h7⟩⟩
theorem psO_new {P : Program} {w : World} {H : Hp} {h : Heap} {a : Addr} {L : List (Addr × List Int)} (R : Ps0 P w h a L) : ObjOk P w H h a (PsO P w a L) := by
  refine ⟨R, ?_, fun h1 h2 p k => ?_⟩
  · obtain ⟨_, _, _, ⟨o, ho, _⟩, _⟩ := R.ex
    exact ⟨o, ho⟩
  · obtain ⟨es, ep, t, ⟨o, ho, r⟩, q⟩ := Ps0.ex p
    exact ⟨es, ep, t, ⟨o, k o ho, r⟩, q⟩
section
variable {X : Cx}
theorem ps_get {pins : List (Addr × Obj)} {σ : L2.St} {H : Hp} {s : Shared} {a : Addr} {L : List (Addr × List Int)} (I : Inv X pins σ H s) (ha : H a = some (PsO X.prog X.w a L)) (tp : ∀ p ∈ L, SqT X.K H p.1 (p.2.map V.int)) : ∃ es ep t, PsR X.prog X.w s.heap a L es ep t :=
  Ps0.full (I.hok a _ ha).1 fun p hp => I.isT (tp p hp)
/-- set(), to be filled with pairs -/
def rPs0 (P : Program) (w : World) : List V → Hp → VK → Prop := fun xs H Q => xs = [] ∧ ∀ p, H p = none → Q (.ref p) (upd H p (PsO P w p []))
theorem cr_ps0 : CallR X (.type "set") (rPs0 X.prog X.w) := by
  intro pins s σ H xs us Q I r h
  obtain ⟨rfl, q⟩ := h
  cases r
  refine setR_new fun _ => ?_
  exact ⟨.ref _, upd H s.heap.objs.size (PsO X.prog X.w s.heap.objs.size []), I.laid (t' := s.toks) (fun b u e => Heap.get?_push_of_some _ e) (Nat.le_refl _) (psO_new (PsR.of (setTR_fresh (Heap.get?_push_size _ rfl))).p0), rfl, q _ (I.hok.fresh (Nat.le_refl _))⟩
/-- (a, b) in seen -/
def rPsIn (K : PySem.W.Frag) (P : Program) (w : World) : V → V → Hp → VK → Prop := fun x y H Q => ∃ b k a L, x = V.ref b ∧ y = V.ref a ∧ H a = some (PsO P w a L) ∧ (∀ p ∈ L, SqT K H p.1 (p.2.map V.int)) ∧ SqT K H b (k.map V.int) ∧ Q (.bl (decide (k ∈ L.map (·.2)))) H
theorem op_psIn (hu : X.A.units + 64 < cLine) : OpR X (compareOp .In) (rPsIn X.K X.prog X.w) := by
  intro pins s σ H x y v u Q I rx ry h
  obtain ⟨b, k, a, L, rfl, rfl, ha, tp, hb, q⟩ := h
  cases (show v = Value.ref b from rx)
  cases (show u = Value.ref a from ry)
  obtain ⟨es, ep, t, R⟩ := ps_get I ha tp
  exact pis_in R (I.isT hb) (by omega) ⟨.bl _, H, I.tok _, rfl, q⟩
/-- seen.add((a, b)) -/
def rPsAdd (K : PySem.W.Frag) (P : Program) (w : World) : V → List V → Hp → VK → Prop := fun x xs H Q => ∃ b k a L, x = V.ref a ∧ xs = [V.ref b] ∧ H a = some (PsO P w a L) ∧ (∀ p ∈ L, SqT K H p.1 (p.2.map V.int)) ∧ SqT K H b (k.map V.int) ∧ L.length + 1 ≤ 76 ∧
  ∀ L', (k ∈ L.map (·.2) → L' = L) → (k ∉ L.map (·.2) → L'.Perm ((b, k) :: L)) → Q .non (upd H a (PsO P w a L'))
theorem mt_psAdd (hu : X.A.units + 64 < cLine) : MtR X "set.add" (rPsAdd X.K X.prog X.w) := by
  intro pins s σ H x xs v us Q I rx rxs h
  obtain ⟨b, k, a, L, rfl, rfl, ha, tp, hb, bnd, q⟩ := h
  cases rx
  cases rxs with
  | cons ry rt =>
    cases rt
    cases (show _ = Value.ref b from ry)
    obtain ⟨es, ep, t, R⟩ := ps_get I ha tp
    have hx := I.isT hb
    refine wpAny_call_entry F.slot_set_add R.ty F.entry_set_add ?_ (F.args_set_add_2 _ _)
    simp only [Builtin.«set.add», Builtin.Frozenset.oneOther, Builtin.Frozenset.addrOf, setAdd, List.isEmpty_nil, bind_assoc]
    refine wpAny_bind (wpAny_pure ?_); try dsimp only
    refine wpAny_bind (wpAny_pure ?_); try dsimp only
    refine wpAny_bind (wpAny_holding (wpAny_bind (wpAny_pyHash_tuple (by show X.A.units + 1 < cLine; omega) hx ?_)))
    refine padd (s := { s with toks := s.toks + (k.length + 1) }) R hx (by show X.A.units + 1 < cLine; omega) bnd fun c h' L' es' ep' t' sb R' c1 c2 => ?_
    show wpAny _ _ (ret Value.none) _ _ _
    have he : ∃ u, h'.get? a = some u := by
      obtain ⟨o, ho, _⟩ := R'.obj
      exact ⟨o, ho⟩
    exact wpAny_pure ⟨_, rfl, .non, upd H a (PsO X.prog X.w a L'), I.write (e := a) (t' := s.toks + (k.length + 1)) (by rw [ha]; trivial) (.inl rfl) (fun b u hb hu => (sb.2 b hb).trans hu) he (psO_new R'.p0), rfl, q L' c1 c2⟩
/-- sorted(seen) -/
def rPsSort (K : PySem.W.Frag) (P : Program) (w : World) : List V → Hp → VK → Prop := fun vs H Q => ∃ a L, vs = [V.ref a] ∧ H a = some (PsO P w a L) ∧ (∀ p ∈ L, SqT K H p.1 (p.2.map V.int)) ∧ (∀ p ∈ L, ∃ x y, p.2 = [x, y]) ∧ L.length ≤ 1000 ∧
  ∀ (L' : List (Addr × List Int)) (p : Addr), L'.Perm L → (L'.map (·.2)).Nodup → L'.Pairwise (fun q r => ¬ lt2 (pr2 r.2) (pr2 q.2)) → H p = none → Q (.ref p) (upd H p (.lst (L'.map fun q => V.ref q.1)))
theorem cr_psSort (hc : X.calm = true) : CallR X (.builtin "sorted") (rPsSort X.K X.prog X.w) := by
  intro pins s σ H vs us Q I r h
  obtain ⟨a, L, rfl, ha, tp, two, few, q⟩ := h
  obtain ⟨es, ep, t, R⟩ := ps_get I ha tp
  rw [Vals.ref1 r]
  refine psorted R (I.ok.hd hc) two few fun s' p c L' keep g o hp hg pm pw => ?_
  have hn : H p = none := I.hok.fresh hp
  have ll : (L'.map fun q => V.ref q.1).length ≤ sizeLine := by
    rw [List.length_map, pm.length_eq, sizeLine_eq]
    omega
  have J : Inv X pins σ (upd H p (.lst (L'.map fun q => V.ref q.1))) { s with heap := s'.heap, gens := s'.gens, drawn := s'.drawn, toks := s'.toks } :=
    I.call (ch := []) (Un.laid keep hp hn) (I.hok.laid keep hp ⟨ll, _, c, vals_of_refs L', hg⟩) (by rw [g]; exact I.bare) (fun _ z => nomatch z)
  have e : s' = { s with heap := s'.heap, gens := s'.gens, drawn := s'.drawn, toks := s'.toks } := by
    cases s'
    cases s
    cases o
    rfl
  rw [e]
  exact ⟨.ref p, _, J, rfl, q L' p pm ((pm.map (·.2)).nodup_iff.mpr R.nod) pw hn⟩
/-- the call of the method -/
def tPsAdd (K : PySem.W.Frag) (P : Program) (w : World) (to : TE) (t : TA) : TE := fun σ H Q => to σ H fun x H1 => (∃ a L, x = V.ref a ∧ H1 a = some (PsO P w a L)) ∧ t σ H1 fun xs H2 => rPsAdd K P w x xs H2 Q
theorem ps_look {pins : List (Addr × Obj)} {σ : L2.St} {H : Hp} {s : Shared} {a : Addr} {L : List (Addr × List Int)} (I : Inv X pins σ H s) (ha : H a = some (PsO X.prog X.w a L)) : s.TypeIs (.ref a) "set" ∧ ∀ b, Value.ref a = .ref b → ∃ ob, s.heap.get? b = some ob ∧ ob.dict = none := by
  obtain ⟨_, _, _, ⟨o, ho, hx, _⟩, _⟩ := Ps0.ex (I.hok a _ ha).1
  refine ⟨⟨o, ho, hx.1⟩, fun b e => ?_⟩
  injection e with e
  subst e
  exact ⟨o, ho, hx.2.1⟩
theorem pe_psAdd {o e : Expr} {es : List Expr} {to : TE} {t : TA} {apos cpos : Pos} (hu : X.A.units + 64 < cLine) (ho : PE X o to) (ha : PA X (e :: es) t)
    (b1 : attributeBase o "add" X.env (eval o X.env) = eval o X.env := by rfl)
    (b2 : ((backTo cpos (starEach (e :: es) X.env)).all (fun x => !x.1) && (backToKw cpos (keywordEach [] X.env)).all (fun x => x.1.isSome) && decide ((e :: es).length + ([] : List Keyword).length + (if ([] : List Keyword).isEmpty then 0 else 1) < 30)) = true := by rfl)
    (b3 : (apos.endLine == cpos.line) = true := by rfl) (b4 : starEach (e :: es) X.env = (false, eval e X.env) :: starEach es X.env := by rfl) (b5 : (backTo cpos (starEach es X.env)).any (·.1) = false := by rfl) :
    PE X (.Call (.Attribute o "add" apos) (e :: es) [] cpos) (tPsAdd X.K X.prog X.w to t) := by
  refine ⟨fun pins s σ H Q I h => wpAny_Call_method_late b1 b2 b3 rfl (thn (ho.run pins s σ H _ I h) ?_)⟩
  rintro v s1 ⟨x, H1, I1, r1, ⟨a, L, rfl, hka⟩, q1⟩
  cases r1
  obtain ⟨k1, k2⟩ := ps_look I1 hka
  refine ⟨"set", "set.add", F.plainAttrs_set, F.slot_set_add, F.type_set_add, k1, k2, ?_⟩
  have run := ha.run cpos pins s1 σ H1 _ I1 q1
  rw [b4] at run ⊢
  refine Calls.callWith_builtin ?_ (Calls.evalArgs_plain (thn run ?_))
  · show (false || (backTo cpos (starEach es X.env)).any (·.1)) = false
    rw [b5]
    rfl
  · rintro us s2 ⟨vs, H2, I2, r2, q2⟩
    exact mt_psAdd hu pins s2 σ H2 (.ref a) vs (.ref a) us Q I2 rfl r2 q2
end

abbrev sHouse : Stmt := topS 13
abbrev sHinit : Stmt := inClass sHouse 2
abbrev sHcount : Stmt := inClass sHouse 3
abbrev sHdoors : Stmt := inClass sHouse 4
abbrev sHnear : Stmt := inClass sHouse 5
abbrev sHhas : Stmt := inClass sHouse 6
abbrev sRoom : Stmt := topS 14
abbrev sChk : Stmt := topS 15
/-- what the walk asks of the class House -/
structure Hs (K : PySem.W.Frag) (mg : Str → Option Value) (C : Addr) : Prop where
  cl : Cls K C
  nR : NoAttr K C "rooms"
  nD : NoAttr K C "_doors"
  nN : NoAttr K C "_near"
  mgC : mg "House" = some (.ref C)
  rd : ∃ mc u, ClX.CRead K C mc ∧ ClX.CVal K C mc "MOST_ROOMS" (.int 12) u
theorem for_enum {K : PySem.W.Frag} {a : Addr} {xs : List V} {g : TG} {tb : TS} {D : Ends} {σ : L2.St} {H : Hp} (Pv : Nat → L2.St → Hp → Prop) (h0 : Pv 0 σ H) (hl : ∀ i σ H, Pv i σ H → SqL K H a xs)
    (hs : ∀ (i : Nat) (x : V) (t : Addr) (σ : L2.St) (H : Hp), xs[i]? = some x → Pv i σ H → H t = none → g (.ref t) σ (upd H t (.tup [.int (i : Nat), x])) fun σ2 H2 => tb { D with nx := Pv (i + 1), ct := Pv (i + 1), bk := D.nx } σ2 H2) (hd : ∀ σ H, Pv xs.length σ H → D.nx σ H) :
    tFor (fun _ H R => R (Ite K a) H) g tb D σ H := by
  refine ⟨fun i m σ H => m = xs.length - i ∧ i ≤ xs.length ∧ Pv i σ H, ⟨xs.length, rfl, Nat.zero_le _, h0⟩, ?_⟩
  rintro i m σ H ⟨rfl, hi, p⟩
  have q := hl i σ H p
  by_cases lt : i < xs.length
  · refine .inr ⟨⟨xs, xs[i], q, List.getElem?_eq_getElem lt⟩, Pv (i + 1), fun σ' H' p' => ⟨xs.length - (i + 1), by omega, rfl, lt, p'⟩, ?_⟩
    rintro v H' ⟨t, x, rfl, nt, rfl, f⟩
    exact hs i x t σ H (f xs q) p nt
  · have e : i = xs.length := by omega
    subst e
    exact .inl ⟨⟨xs, q, Nat.le_refl _⟩, hd σ H p⟩
section
variable {P : Program} {w : World} {K : PySem.W.Frag} {mg : Str → Option Value} {base : Heap}
theorem scRoom : FnScope ["rooms"] ["rooms"] (defScope sRoom) := ⟨rfl, rfl, rfl, by decide +kernel, rfl, by decide +kernel, by decide +kernel⟩
def spRoom : Sp := fun vs H Q _ => ∃ r : Int, vs = [.int r] ∧ 1 ≤ r ∧ r ≤ 12 ∧ Q .non H
theorem ok_room {f C : Addr} {fd : FuncData} (F : Fun K "check_room_count" "check_room_count" sRoom f fd) (T : Hs K mg C) : FnOk P w K mg base CX0 1 f fd ["rooms"] spRoom := by
  refine F.ok scRoom (fun vs H Q E h => ?_) (fun cdv A outer s H vs Q E hr h => ?_)
  · obtain ⟨r, rfl, _⟩ := h
    rfl
  · obtain ⟨r, rfl, h1, h2, q⟩ := h
    refine ⟨_, (pss_one (ps_if (pt_not (pt_chain op_le op_le pe_int (pv 0) (ClX.pe_cval (pe_glob (v := .ref C) (by rfl) T.mgC rfl))))
      (pss_one (ps_never))
      pss_nil)), ?_⟩
    obtain ⟨mc, u, c1, c2⟩ := T.rd
    walk_at "rd"
    rw [if_pos h1]
    refine ⟨C, mc, .int 12, u, rfl, c1, c2, 12, rfl, ?_⟩
    rw [decide_eq_true h2]
    exact iteF q
theorem scChk : FnScope ["rooms", "doors", "seen", "place", "a", "b"] ["rooms", "doors"] (defScope sChk) := ⟨rfl, rfl, rfl, by decide +kernel, rfl, by decide +kernel, by decide +kernel⟩
def two (d : Pr) : List Int := [d.1, d.2]
theorem psO_ne {P : Program} {w : World} {a : Addr} {L : List (Addr × List Int)} {xs : List V} : PsO P w a L ≠ .tup xs := fun h => by
  unfold PsO at h
  cases h
theorem two_inj {d e : Pr} (h : two d = two e) : d = e := by
  unfold two at h
  obtain ⟨h1, h2⟩ := List.cons.inj h
  exact Prod.ext h1 (List.cons.inj h2).1
theorem not_taken {D : List Pr} (nd : D.Nodup) {i : Nat} {d : Pr} (g : D[i]? = some d) : d ∉ D.take i := fun z => by
  obtain ⟨j, gj⟩ := List.getElem?_of_mem z
  have lt : j < (D.take i).length := (List.getElem?_eq_some_iff.mp gj).1
  rw [List.length_take] at lt
  rw [List.getElem?_take_of_lt (by omega)] at gj
  have := nd_ix nd gj g
  omega
def spChk : Sp := fun vs H Q _ => ∃ (r : Nat) (l : Addr) (us : List V) (D : List Pr), vs = [.int r, .ref l] ∧ H l = some (.lst us) ∧ PL H us D ∧ D.Nodup ∧ (∀ d ∈ D, 0 ≤ d.1 ∧ d.1 < d.2 ∧ d.2 < r) ∧ r ≤ 12 ∧
  ∀ D' ws p H', Asc D' → (∀ d, d ∈ D' ↔ d ∈ D) → Same H H' → H p = none → H' p = some (.lst ws) → PL H' ws D' → Q (.ref p) H'
theorem ok_chk {f : Addr} {fd : FuncData} (F : Fun K "checked_doors" "checked_doors" sChk f fd) (T : Bi mg) : FnOk P w K mg base CX0 1 f fd ["rooms", "doors"] spChk := by
  refine F.ok scChk (fun vs H Q E h => ?_) (fun cdv A outer s H vs Q E hr h => ?_)
  · obtain ⟨r, l, us, D, rfl, _⟩ := h
    rfl
  · obtain ⟨r, l, us, D, rfl, hl, pl, nd, ok, hr12, q⟩ := h
    refine ⟨_, (pss_cons (ps_set (i := 2) scChk.nd rfl (Or.inl rfl) (pe_callTy0 cr_ps0 (by rfl) T.set (by decide +kernel)))
      (pss_cons (ps_for PassesOwn.never rfl (pi_enum (by rfl) T.enumerate (pa_cons (pv 1) pa_nil)) (pg_tup rfl (pgs_cons (pg_name (i := 3) scChk.nd rfl (Or.inl rfl)) (pgs_cons (pg_tup rfl (pgs_cons (pg_name (i := 4) scChk.nd rfl (Or.inl rfl)) (pgs_cons (pg_name (i := 5) scChk.nd rfl (Or.inl rfl)) pgs_nil))) pgs_nil)))
      (pss_cons (ps_if (PW.pt (pw_or (pt_not (PW.pt (pw_and (pt_chain op_le op_lt pe_int (pv 4) (pv 0)) (pw_and1 (pt_chain op_le op_lt pe_int (pv 5) (pv 0)))))) (pw_or (pt_cmpR op_eqI (pv 4) (pv 5) (nomark _)) (pw_or1 (pt_cmpR (op_psIn hr.units) (pe_tup (pa_cons (pv 4) (pa_cons (pv 5) pa_nil))) (pv 2) (by rfl))))))
        (pss_one (ps_never))
        pss_nil)
        (pss_one (ps_expr (pe_psAdd hr.units (pv 2) (pa_cons (pe_tup (pa_cons (pv 4) (pa_cons (pv 5) pa_nil))) pa_nil))))))
      (pss_one (ps_ret (pe_callB (cr_psSort rfl) (by rfl) T.sorted (by decide +kernel) (pa_cons (pv 2) pa_nil)))))), ?_⟩
    walk_at "rd"
    refine ⟨rfl, fun p np => ?_⟩
    obtain ⟨Pv, hPv⟩ : ∃ Pv : Nat → L2.St → Hp → Prop, Pv = (fun i σ H' => ∃ (L : List (Addr × List Int)) (v3 v4 v5 : Option V), σ = [some (.int r), some (.ref l), some (.ref p), v3, v4, v5] ∧ Same H H' ∧ H' p = some (PsO P w p L) ∧ (∀ q ∈ L, H' q.1 = some (.tup (q.2.map V.int))) ∧ List.Perm (L.map (·.2)) ((D.take i).map two)) := ⟨_, rfl⟩
    have hul : us.length = D.length := pl.len
    have dlen := drs_len' hr12 nd ok
    refine ⟨_, rfl, l, us, rfl, SqL.of (same_upd np l _ hl), for_enum (xs := us) Pv (by rw [hPv]; exact ⟨[], none, none, none, rfl, same_upd np, upd_same, fun q hq => (by cases hq), List.Perm.refl _⟩) (fun i σ H' pv => ?_) ?_ ?_⟩
    · rw [hPv] at pv
      obtain ⟨L, v3, v4, v5, _, sm, _⟩ := pv
      exact SqL.of (sm l _ hl)
    · rintro i v t σ H' gv pv nt
      have nxt : ∀ (L : List (Addr × List Int)) (v3 v4 v5 : Option V) (H' : Hp), Same H H' → H' p = some (PsO P w p L) → (∀ q ∈ L, H' q.1 = some (.tup (q.2.map V.int))) → List.Perm (L.map (·.2)) ((D.take (i + 1)).map two) → Pv (i + 1) [some (.int r), some (.ref l), some (.ref p), v3, v4, v5] H' := fun L v3 v4 v5 H' h1 h2 h3 h4 => by
        rw [hPv]
        exact ⟨L, v3, v4, v5, rfl, h1, h2, h3, h4⟩
      rw [hPv] at pv
      obtain ⟨L, v3, v4, v5, rfl, sm, hp, tp, pm⟩ := pv
      obtain ⟨d, gd, td, rfl, htd⟩ := pl.get gv
      have hid : i < D.length := (List.getElem?_eq_some_iff.mp gd).1
      have md : d ∈ D := List.mem_of_getElem? gd
      have okd := ok d md
      have hl1 := sm l _ hl
      have htd1 := sm td _ htd
      have ntd : td ≠ t := ne_of_none htd1 nt
      have htd2 : upd H' t (HO.tup [V.int i, V.ref td]) td = some (.tup [.int d.1, .int d.2]) := by rw [upd_ne ntd]; exact htd1
      walk_at "rd"
      refine ⟨[.int i, .ref td], SqT.of upd_same, rfl, .int i, [.ref td], rfl, .ref td, [], rfl, td, rfl, [.int d.1, .int d.2], SqT.of htd2, rfl, .int d.1, [.int d.2], rfl, .int d.2, [], rfl, rfl, rfl, d.1, rfl, ?_⟩
      rw [if_pos okd.1]
      refine ⟨d.1, rfl, ?_⟩
      rw [if_pos (show d.1 < (r : Int) by omega)]
      refine ⟨d.2, rfl, ?_⟩
      rw [if_pos (show 0 ≤ d.2 by omega)]
      refine ⟨d.2, rfl, ?_⟩
      rw [decide_eq_true okd.2.2]
      refine iteF ?_
      refine ⟨d.1, rfl, d.2, rfl, ?_⟩
      rw [if_neg (show ¬ d.1 = d.2 by omega)]
      refine ⟨by decide, fun t1 nt1 => ?_⟩
      have ne1 : t1 ≠ p := fun e => by
        rw [e, upd_ne (show p ≠ t from ne_of_none hp nt), hp] at nt1
        cases nt1
      have s1 : Same H' (upd (upd H' t (HO.tup [V.int i, V.ref td])) t1 (HO.tup [V.int d.1, V.int d.2])) := (same_upd nt).trans (same_upd nt1)
      have out : two d ∉ L.map (·.2) := fun z => by
        obtain ⟨e, he, ee⟩ := List.mem_map.mp (pm.mem_iff.mp z)
        rw [two_inj ee] at he
        exact not_taken nd gd he
      have lenL : L.length ≤ 66 := by
        have e := pm.length_eq
        rw [List.length_map, List.length_map, List.length_take] at e
        omega
      refine ⟨t1, two d, p, L, rfl, rfl, s1 p _ hp, fun q hq => SqT.of (s1 _ _ (tp q hq)), SqT.of upd_same, ?_⟩
      rw [decide_eq_false out]
      refine ⟨false, rfl, iteF ?_⟩
      generalize upd (upd H' t (HO.tup [V.int i, V.ref td])) t1 (HO.tup [V.int d.1, V.int d.2]) = H1 at s1
      have hp1 := s1 p _ hp
      refine ⟨_, rfl, ⟨p, L, rfl, hp1⟩, _, rfl, _, rfl, (by show 2 ≤ sizeLine; decide), fun t2 nt2 => ?_⟩
      have s2 : Same H1 (upd H1 t2 (HO.tup [V.int d.1, V.int d.2])) := same_upd nt2
      have hp2 := s2 p _ hp1
      refine ⟨t2, two d, p, L, rfl, rfl, hp2, fun q hq => SqT.of (s2 _ _ (s1 _ _ (tp q hq))), SqT.of upd_same, by omega, fun L' _ c2 => ?_⟩
      have pm2 := c2 out
      have keep : ∀ b xs, upd H1 t2 (HO.tup [V.int d.1, V.int d.2]) b = some (.tup xs) → upd (upd H1 t2 (HO.tup [V.int d.1, V.int d.2])) p (PsO P w p L') b = some (.tup xs) := fun b xs e => by
        rw [upd_ne]
        · exact e
        · rintro rfl
          rw [hp2] at e
          exact psO_ne (Option.some.inj e)
      refine nxt L' _ _ _ _ (same_ch ((sm.trans s1).trans s2) np) upd_same (fun q hq => ?_) ?_
      · refine keep _ _ ?_
        rcases List.mem_cons.mp (pm2.mem_iff.mp hq) with e | hq2
        · rw [e]
          exact upd_same
        · exact s2 _ _ (s1 _ _ (tp q hq2))
      · refine (pm2.map (·.2)).trans ?_
        rw [List.map_cons, List.take_add_one, gd, List.map_append]
        exact (List.Perm.cons _ pm).trans (List.perm_append_singleton _ _).symm
    · intro σ H' pv
      rw [hPv] at pv
      obtain ⟨L, v3, v4, v5, rfl, sm, hp, tp, pm⟩ := pv
      rw [hul, List.take_length] at pm
      have shape : ∀ q ∈ L, ∃ d ∈ D, q.2 = two d := fun q hq => by
        obtain ⟨d, hd, e⟩ := List.mem_map.mp (pm.mem_iff.mp (List.mem_map.mpr ⟨q, hq, rfl⟩))
        exact ⟨d, hd, e.symm⟩
      have lenL : L.length = D.length := by
        have e := pm.length_eq
        rw [List.length_map, List.length_map] at e
        exact e
      walk_at "rd"
      refine ⟨p, L, rfl, hp, fun q hq => SqT.of (tp q hq), fun q hq => ?_, by omega, fun L' t p1 n1 w1 nt => ?_⟩
      · obtain ⟨d, _, e⟩ := shape q hq
        exact ⟨d.1, d.2, e⟩
      · have hl' : ∀ q ∈ L', pr2 q.2 ∈ D ∧ H' q.1 = some (.tup [.int (pr2 q.2).1, .int (pr2 q.2).2]) := fun q hq => by
          have hq2 := p1.mem_iff.mp hq
          obtain ⟨d, hd, e⟩ := shape q hq2
          have e2 := tp q hq2
          rw [e] at e2 ⊢
          exact ⟨hd, e2⟩
        have back : ∀ q ∈ L', two (pr2 q.2) = q.2 := fun q hq => by
          obtain ⟨d, hd, e⟩ := shape q (p1.mem_iff.mp hq)
          rw [e]
          rfl
        refine q (L'.map fun q => pr2 q.2) (L'.map fun q => V.ref q.1) t _ (asc_of ?_ ?_) (fun d => ?_) (sm.trans (same_upd nt)) (sm.free nt) upd_same ?_
        · refine List.pairwise_map.mpr (List.Pairwise.imp_of_mem (fun {x y} hx hy hne e => hne ?_) (List.pairwise_map.mp n1))
          rw [← back x hx, ← back y hy, e]
        · exact List.pairwise_map.mpr w1
        · constructor
          · intro hd
            obtain ⟨q, hq, rfl⟩ := List.mem_map.mp hd
            exact (hl' q hq).1
          · intro hd
            have m1 : two d ∈ L.map (·.2) := pm.mem_iff.mpr (List.mem_map.mpr ⟨d, hd, rfl⟩)
            obtain ⟨q, hq, e⟩ := List.mem_map.mp m1
            refine List.mem_map.mpr ⟨q, p1.mem_iff.mpr hq, ?_⟩
            rw [e]
            rfl
        · have all : ∀ M : List (Addr × List Int), (∀ q ∈ M, H' q.1 = some (.tup [.int (pr2 q.2).1, .int (pr2 q.2).2])) → PL H' (M.map fun q => V.ref q.1) (M.map fun q => pr2 q.2) := by
            intro M
            induction M with
            | nil => intro _; exact Paired.nil
            | cons q M ih => intro h; exact Paired.cons ⟨q.1, rfl, h q List.mem_cons_self⟩ (ih fun z hz => h z (List.mem_cons_of_mem _ hz))
          exact (all L' fun q hq => (hl' q hq).2).kt (KT.new nt)
end

/-! ### the house as an object -/
def hf (r : Int) (l m : Addr) : List (Str × V) := putF "_near" (.ref m) (putF "_doors" (.ref l) (putF "rooms" (.int r) []))
theorem hn1 : ¬ (("rooms" : Str) = "_doors") := by decide +kernel
theorem hn2 : ¬ (("rooms" : Str) = "_near") := by decide +kernel
theorem hn3 : ¬ (("_doors" : Str) = "_near") := by decide +kernel
theorem hf_rooms (r : Int) (l m : Addr) : (hf r l m).lookup ("rooms" : Str) = some (.int r) := by
  unfold hf
  rw [lookup_putF, if_neg hn2, lookup_putF, if_neg hn1, lookup_putF, if_pos rfl]
theorem hf_doors (r : Int) (l m : Addr) : (hf r l m).lookup ("_doors" : Str) = some (.ref l) := by
  unfold hf
  rw [lookup_putF, if_neg hn3, lookup_putF, if_pos rfl]
theorem hf_near (r : Int) (l m : Addr) : (hf r l m).lookup ("_near" : Str) = some (.ref m) := by
  unfold hf
  rw [lookup_putF, if_pos rfl]
theorem hf_no (r : Int) (l m : Addr) {x : Str} (h1 : ¬ x = "_near") (h2 : ¬ x = "_doors") (h3 : ¬ x = "rooms") : (hf r l m).lookup x = none := by
  unfold hf
  rw [lookup_putF, if_neg h1, lookup_putF, if_neg h2, lookup_putF, if_neg h3]
  rfl
/-- the neighbours of room i by the doors D, in the order in which they are met -/
def nearF (i : Int) (D : List Pr) : List Int := D.filterMap fun d => if d.1 = i then some d.2 else if d.2 = i then some d.1 else none
/-- a house with these rooms and doors stands at p -/
structure HouseAt (C : Addr) (H : Hp) (p : Addr) (r : Nat) (D : List Pr) (own : List Addr) : Prop where
  ex : ∃ (dx l m : Addr) (ls : List V) (ns : List Addr), H p = some (.ins C dx (hf r l m)) ∧ H l = some (.lst ls) ∧ PL H ls D ∧ H m = some (.lst (ns.map V.ref)) ∧ ns.length = r ∧ (∀ i n, ns[i]? = some n → H n = some (.lst ((nearF (i : Nat) D).map V.int))) ∧ own = p :: l :: m :: ns
  ok : Drs r D
  r1 : 1 ≤ r
  r12 : r ≤ 12
theorem nearF_snoc (j : Int) (D : List Pr) (d : Pr) : nearF j (D ++ [d]) = nearF j D ++ (if d.1 = j then [d.2] else if d.2 = j then [d.1] else []) := by
  unfold nearF
  rw [List.filterMap_append]
  congr 1
  show List.filterMap _ [d] = _
  rw [List.filterMap_cons]
  by_cases h1 : d.1 = j
  · simp [h1]
  · by_cases h2 : d.2 = j
    · simp [h1, h2]
    · simp [h1, h2]
def mm2 (d : Pr) : Pr := (if d.2 < d.1 then d.2 else d.1, if d.2 > d.1 then d.2 else d.1)
section
variable {P : Program} {w : World} {K : PySem.W.Frag} {mg : Str → Option Value} {base : Heap}
theorem scHinit : FnScope ["self", "rooms", "doors", "a", "b", "_"] ["self", "rooms", "doors"] (defScope sHinit) := ⟨rfl, rfl, rfl, by decide +kernel, rfl, by decide +kernel, by decide +kernel⟩
def spHinit (C : Addr) : Sp := fun vs H Q _ => ∃ (p dx l : Addr) (r : Nat) (us : List V) (D E : List Pr), vs = [.ref p, .int r, .ref l] ∧ H p = some (.ins C dx []) ∧ H l = some (.lst us) ∧ PL H us D ∧ D.map mm2 = E ∧ E.Nodup ∧ (∀ d ∈ E, 0 ≤ d.1 ∧ d.1 < d.2 ∧ d.2 < r) ∧ 1 ≤ r ∧ r ≤ 12 ∧
  ∀ D' own H', (∀ d, d ∈ D' ↔ d ∈ E) → HouseAt C H' p r D' own → (∀ b o, H b = some o → b ≠ p → H' b = some o) → (∀ b ∈ own, b ≠ p → H b = none) → Q .non H'
theorem ok_hinit {f C fR fC : Addr} {fd fdR fdC : FuncData} (F : Fun K "__init__" "House.__init__" sHinit f fd) (T : Bi mg) (U : Hs K mg C) (d_check_room_count : Df P w K mg base "check_room_count" ["rooms"] 1 spRoom fR fdR)
    (d_checked_doors : Df P w K mg base "checked_doors" ["rooms", "doors"] 1 spChk fC fdC) : FnOk P w K mg base CX0 2 f fd ["self", "rooms", "doors"] (spHinit C) := by
  refine F.ok scHinit (fun vs H Q E h => ?_) (fun cdv A outer s H vs Q E hr h => ?_)
  · obtain ⟨p, dx, l, r, us, D, E, rfl, _⟩ := h
    rfl
  · obtain ⟨p, dx, l, r, us, D, E, rfl, hp, hl, pl, eE, nd, ok, hr1, hr12, q⟩ := h
    refine ⟨_, (pss_cons (ps_expr (pe_call d_check_room_count.ok (hr.mono (by decide)) (by rfl) d_check_room_count.at_ d_check_room_count.kp d_check_room_count.b .nil pass0 (pa_cons (pv 1) pa_nil)))
      (pss_cons (ps_fld (pv 0) (pv 1) rfl)
      (pss_cons (ps_fld (pv 0) (pe_call d_checked_doors.ok (hr.mono (by decide)) (by rfl) d_checked_doors.at_ d_checked_doors.kp d_checked_doors.b .nil pass0 (pa_cons (pv 1) (pa_cons (pe_lc (own := [("a", 3), ("b", 4)]) (g := gTup K 2 (gCons (gName 3) (gCons (gName 4) gNil))) (by rfl) scHinit.nd (pi_list (pv 2)) (blkOk_by (N := ["self", "rooms", "doors", "a", "b", "_"]) (sc := defScope sHinit) (by decide +kernel)) (fun _ _ _ _ _ => pg_tup rfl (pgs_cons (pg_name (i := 3) scHinit.nd rfl (Or.inl rfl)) (pgs_cons (pg_name (i := 4) scHinit.nd rfl (Or.inl rfl)) pgs_nil))) (fun _ _ _ _ _ => pts_nil) (fun _ _ _ _ _ => (pe_tup (pa_cons (pe_callB (call_min2 rfl) (by rfl) T.min (by decide +kernel) (pa_cons (pv 3) (pa_cons (pv 4) pa_nil))) (pa_cons (pe_callB (call_max2 rfl) (by rfl) T.max (by decide +kernel) (pa_cons (pv 3) (pa_cons (pv 4) pa_nil))) pa_nil))))) pa_nil))) rfl)
      (pss_cons (ps_fld (pv 0) (pe_lc (own := [("_", 5)]) (by rfl) scHinit.nd (pi_range1 (by rfl) T.range (pa_cons (pv 1) pa_nil)) (blkOk_by (N := ["self", "rooms", "doors", "a", "b", "_"]) (sc := defScope sHinit) (by decide +kernel)) (fun _ _ _ _ _ => pg_name (i := 5) scHinit.nd rfl (Or.inl rfl)) (fun _ _ _ _ _ => pts_nil) (fun _ _ _ _ _ => (pe_lst pa_nil))) rfl)
      (pss_one (ps_for PassesOwn.never rfl (pi_list (pe_fld (pv 0) rfl)) (pg_tup rfl (pgs_cons (pg_name (i := 3) scHinit.nd rfl (Or.inl rfl)) (pgs_cons (pg_name (i := 4) scHinit.nd rfl (Or.inl rfl)) pgs_nil)))
      (pss_cons (ps_expr (pe_bm PySem.F.plainAttrs_list PySem.F.slot_list_append PySem.F.type_list_append mt_append (pe_ix ix_list (pe_fld (pv 0) rfl) (pv 3) (fun _ _ => rfl)) (pa_cons (pv 4) pa_nil)))
        (pss_one (ps_expr (pe_bm PySem.F.plainAttrs_list PySem.F.slot_list_append PySem.F.type_list_append mt_append (pe_ix ix_list (pe_fld (pv 0) rfl) (pv 4) (fun _ _ => rfl)) (pa_cons (pv 3) pa_nil))))))))))), ?_⟩
    walk_at "rd"
    refine ⟨r, rfl, by omega, by omega, ?_⟩
    have npl : l ≠ p := ne_of hl hp (by intro z; cases z)
    refine ⟨C, dx, [], hp, U.cl, U.nR, (by show 0 < 1000; decide), ?_⟩
    have hl1 : upd H p (HO.ins C dx (putF "rooms" (V.int r) [])) l = some (.lst us) := by rw [upd_ne npl]; exact hl
    have pl1 : PL (upd H p (HO.ins C dx (putF "rooms" (V.int r) []))) us D := pl.kt (KT.ch hp (fun _ z => by cases z))
    have hp1 : upd H p (HO.ins C dx (putF "rooms" (V.int r) [])) p = some (HO.ins C dx (putF "rooms" (V.int r) [])) := upd_same
    have old1 : ∀ b o, H b = some o → b ≠ p → upd H p (HO.ins C dx (putF "rooms" (V.int r) [])) b = some o := fun b o e h => by rw [upd_ne h]; exact e
    have free1 : ∀ b, upd H p (HO.ins C dx (putF "rooms" (V.int r) [])) b = none → H b = none ∧ b ≠ p := fun b e => by
      have h : b ≠ p := fun z => by
        rw [z, upd_same] at e
        cases e
      rw [upd_ne h] at e
      exact ⟨e, h⟩
    generalize upd H p (HO.ins C dx (putF "rooms" (V.int r) [])) = H1 at hl1 pl1 hp1 old1 free1
    have dlen : D.length ≤ 66 := by
      have e := drs_len' hr12 nd ok
      rw [← eE, List.length_map] at e
      exact e
    have ul : us.length = D.length := pl.len
    -- [(min(a, b), max(a, b)) for a, b in doors]
    refine ⟨_, rfl, l, rfl, ⟨_, SqL.of hl1⟩, fun c nc => ?_⟩
    obtain ⟨Pv, hPv⟩ : ∃ Pv : Nat → Hp → Prop, Pv = (fun i H' => ∃ ws, Same H1 H' ∧ H' c = some (.lst ws) ∧ PL H' ws ((D.take i).map mm2)) := ⟨_, rfl⟩
    refine lc_list (K := K) (a := l) (xs := us) Pv (by rw [hPv]; exact ⟨[], same_upd nc, upd_same, PL.nil0 _⟩) (fun i H' _ pv => by rw [hPv] at pv; obtain ⟨_, sm, _⟩ := pv; exact SqL.of (sm _ _ hl1)) (fun i v H' gv pv => ?_) (fun H' pv => ?_)
    · have nxt : ∀ ws H', Same H1 H' → H' c = some (.lst ws) → PL H' ws ((D.take (i + 1)).map mm2) → Pv (i + 1) H' := fun ws H' h1 h2 h3 => by
        rw [hPv]
        exact ⟨ws, h1, h2, h3⟩
      rw [hPv] at pv
      obtain ⟨ws, sm, hc, pw⟩ := pv
      obtain ⟨d, gd, td, rfl, htd⟩ := pl1.get gv
      have hid : i < D.length := (List.getElem?_eq_some_iff.mp gd).1
      have htd1 := sm _ _ htd
      have lw : ws.length ≤ 66 := by
        rw [pw.len, List.length_map, List.length_take]
        omega
      simp only [wipe]
      walk_at "rd"
      refine ⟨_, SqT.of htd1, rfl, _, _, rfl, _, _, rfl, rfl, ?_⟩
      walk_at "rd"
      refine ⟨(by show 2 ≤ sizeLine; decide), fun t nt => ?_⟩
      have nct : c ≠ t := ne_of_none hc nt
      refine ⟨ws, by rw [upd_ne nct]; exact hc, len_big (by omega), nxt (ws ++ [.ref t]) _ (same_ch (sm.trans (same_upd nt)) nc) upd_same ?_⟩
      rw [List.take_add_one, gd, List.map_append]
      refine PL.snoc ((pw.kt (KT.new nt)).kt (KT.lst (by rw [upd_ne nct]; exact hc))) ⟨t, rfl, ?_⟩
      rw [upd_ne nct.symm, upd_same]
      rfl
    · rw [hPv] at pv
      obtain ⟨ws, s2, hc, pw⟩ := pv
      rw [ul, List.take_length, eE] at pw
      -- checked_doors
      refine ⟨r, c, ws, E, rfl, hc, pw, nd, ok, hr12, fun D' ls q0 H2 asc mem s3 nq hq pq => ?_⟩
      have s13 : Same H1 H2 := s2.trans s3
      have hp2 := s13 _ _ hp1
      have nqp : q0 ≠ p := ne_of hq hp2 (by intro z; cases z)
      refine ⟨C, dx, _, hp2, U.cl, U.nD, (by show 1 < 1000; decide), ?_⟩
      have hq3 : upd H2 p (HO.ins C dx (putF "_doors" (V.ref q0) (putF "rooms" (V.int r) []))) q0 = some (.lst ls) := by rw [upd_ne nqp]; exact hq
      have hp3 : upd H2 p (HO.ins C dx (putF "_doors" (V.ref q0) (putF "rooms" (V.int r) []))) p = some (HO.ins C dx (putF "_doors" (V.ref q0) (putF "rooms" (V.int r) []))) := upd_same
      have pq3 : PL (upd H2 p (HO.ins C dx (putF "_doors" (V.ref q0) (putF "rooms" (V.int r) [])))) ls D' := pq.kt (KT.ch hp2 (fun _ z => by cases z))
      have old3 : ∀ b o, H b = some o → b ≠ p → upd H2 p (HO.ins C dx (putF "_doors" (V.ref q0) (putF "rooms" (V.int r) []))) b = some o := fun b o e h => by
        rw [upd_ne h]
        exact s13 _ _ (old1 b o e h)
      have free3 : ∀ b, upd H2 p (HO.ins C dx (putF "_doors" (V.ref q0) (putF "rooms" (V.int r) []))) b = none → H b = none ∧ b ≠ p := fun b e => by
        have h : b ≠ p := fun z => by
          rw [z, upd_same] at e
          cases e
        rw [upd_ne h] at e
        exact free1 b (s13.free e)
      have fq : H q0 = none := (free1 q0 (s2.free nq)).1
      generalize upd H2 p (HO.ins C dx (putF "_doors" (V.ref q0) (putF "rooms" (V.int r) []))) = H3 at hq3 hp3 pq3 old3 free3
      -- [[] for _ in range(rooms)]
      refine ⟨_, rfl, r, rfl, by omega, by omega, fun m nm => ?_⟩
      obtain ⟨Pv, hPv⟩ : ∃ Pv : Nat → Hp → Prop, Pv = (fun i H' => ∃ ns : List Addr, Same H3 H' ∧ H' m = some (.lst (ns.map V.ref)) ∧ ns.length = i ∧ ns.Nodup ∧ (∀ n ∈ ns, H' n = some (.lst []) ∧ H3 n = none ∧ n ≠ m)) := ⟨_, rfl⟩
      refine lc_range (lo := 0) (n := ((r : Nat) : Int).toNat) Pv (by rw [hPv]; exact ⟨[], same_upd nm, upd_same, rfl, List.nodup_nil, fun n hn => by cases hn⟩) (fun i H' hi pv => ?_) (fun H' pv => ?_)
      · have nxt : ∀ (ns : List Addr) H', Same H3 H' → H' m = some (.lst (ns.map V.ref)) → ns.length = i + 1 → ns.Nodup → (∀ n ∈ ns, H' n = some (.lst []) ∧ H3 n = none ∧ n ≠ m) → Pv (i + 1) H' := fun ns H' h1 h2 h3 h4 h5 => by
          rw [hPv]
          exact ⟨ns, h1, h2, h3, h4, h5⟩
        rw [hPv] at pv
        obtain ⟨ns, sm, hm, ln, nn, hn⟩ := pv
        simp only [wipe]
        walk_at "rd"
        refine ⟨by decide, fun e ne => ?_⟩
        have nem : m ≠ e := ne_of_none hm ne
        refine ⟨ns.map V.ref, by rw [upd_ne nem]; exact hm, len_big (by rw [List.length_map]; omega), nxt (ns ++ [e]) _ (same_ch (sm.trans (same_upd ne)) nm) (by rw [upd_same, List.map_append]; rfl) (by rw [List.length_append, ln]; rfl) ?_ fun n hn2 => ?_⟩
        · refine List.nodup_append.mpr ⟨nn, by simp, fun a ha b hb => ?_⟩
          rw [List.mem_singleton.mp hb]
          exact ne_of_none (hn a ha).1 ne
        · rcases List.mem_append.mp hn2 with h | h
          · obtain ⟨h1, h2, h3⟩ := hn n h
            refine ⟨?_, h2, h3⟩
            rw [upd_ne h3, upd_ne (ne_of_none h1 ne)]
            exact h1
          · rw [List.mem_singleton.mp h]
            refine ⟨?_, sm.free ne, nem.symm⟩
            rw [upd_ne nem.symm, upd_same]
      · rw [hPv] at pv
        obtain ⟨ns, s4, hm, ln, nn, hn⟩ := pv
        have hp4 := s4 _ _ hp3
        have nmp : m ≠ p := (ne_of_none hp3 nm).symm
        refine ⟨C, dx, _, hp4, U.cl, U.nN, (by show 2 < 1000; decide), ?_⟩
        have ehf : putF "_near" (V.ref m) (putF "_doors" (V.ref q0) (putF "rooms" (V.int r) [])) = hf r q0 m := rfl
        rw [ehf]
        have npn : ∀ n ∈ ns, n ≠ p := fun n h => (ne_of_none hp3 (hn n h).2.1).symm
        have nqn : ∀ n ∈ ns, n ≠ q0 := fun n h => (ne_of_none hq3 (hn n h).2.1).symm
        have hp5 : upd H' p (HO.ins C dx (hf r q0 m)) p = some (HO.ins C dx (hf r q0 m)) := upd_same
        have hq5 : upd H' p (HO.ins C dx (hf r q0 m)) q0 = some (.lst ls) := by rw [upd_ne nqp]; exact s4 _ _ hq3
        have hm5 : upd H' p (HO.ins C dx (hf r q0 m)) m = some (.lst (ns.map V.ref)) := by rw [upd_ne nmp]; exact hm
        have hn5 : ∀ n ∈ ns, upd H' p (HO.ins C dx (hf r q0 m)) n = some (.lst []) := fun n h => by rw [upd_ne (npn n h)]; exact (hn n h).1
        have pq5 : PL (upd H' p (HO.ins C dx (hf r q0 m))) ls D' := (pq3.kt (KT.same s4)).kt (KT.ch hp4 (fun _ z => by cases z))
        have old5 : ∀ b o, H b = some o → b ≠ p → upd H' p (HO.ins C dx (hf r q0 m)) b = some o := fun b o e h => by
          rw [upd_ne h]
          exact s4 _ _ (old3 b o e h)
        have fm : H m = none := (free3 m nm).1
        have fn : ∀ n ∈ ns, H n = none := fun n h => (free3 n (hn n h).2.1).1
        have nmn : ∀ n ∈ ns, n ≠ m := fun n h => (hn n h).2.2
        generalize upd H' p (HO.ins C dx (hf r q0 m)) = H5 at hp5 hq5 hm5 hn5 pq5 old5
        have drs : Drs r D' := ⟨asc, fun d hd => ok d ((mem d).mp hd)⟩
        have dl : D'.length ≤ 66 := drs.len hr12
        have ll : ls.length = D'.length := pq.len
        -- the rooms' neighbours
        obtain ⟨Pw, hPw⟩ : ∃ Pw : Nat → L2.St → Hp → Prop, Pw = (fun i σ H' => ∃ v3 v4 : Option V, σ = [some (.ref p), some (.int r), some (.ref l), v3, v4, none] ∧ (∀ b o, H5 b = some o → b ∉ ns → H' b = some o) ∧ (∀ (j : Nat) n, ns[j]? = some n → H' n = some (.lst ((nearF (j : Nat) (D'.take i)).map V.int)))) := ⟨_, rfl⟩
        refine ⟨_, rfl, p, C, dx, _, .ref q0, rfl, hp5, U.cl, U.nD, hf_doors _ _ _, q0, rfl, ⟨_, SqL.of hq5⟩, for_list (K := K) (a := q0) (xs := ls) Pw (by rw [hPw]; exact ⟨none, none, rfl, fun b o e _ => e, fun j n g => hn5 n (List.mem_of_getElem? g)⟩) (fun i σ H' _ pv => ?_) (fun i v σ H' gv pv => ?_) (fun σ H' pv => ?_)⟩
        · rw [hPw] at pv
          obtain ⟨_, _, _, k1, _⟩ := pv
          exact SqL.of (k1 _ _ hq5 fun z => nqn _ z rfl)
        · have nxt : ∀ v3 v4 H', (∀ b o, H5 b = some o → b ∉ ns → H' b = some o) → (∀ (j : Nat) n, ns[j]? = some n → H' n = some (.lst ((nearF (j : Nat) (D'.take (i + 1))).map V.int))) → Pw (i + 1) [some (.ref p), some (.int r), some (.ref l), v3, v4, none] H' := fun v3 v4 H' h1 h2 => by
            rw [hPw]
            exact ⟨v3, v4, rfl, h1, h2⟩
          rw [hPw] at pv
          obtain ⟨v3, v4, rfl, k1, k2⟩ := pv
          obtain ⟨d, gd, td, rfl, htd⟩ := pq5.get gv
          have okd := drs.ok d (List.mem_of_getElem? gd)
          have htd1 : H' td = some (.tup [.int d.1, .int d.2]) := k1 _ _ htd fun z => by
            have e := hn5 td z
            rw [htd] at e
            cases e
          obtain ⟨ja, eja⟩ : ∃ ja : Nat, d.1 = ja := ⟨d.1.toNat, by omega⟩
          obtain ⟨jb, ejb⟩ : ∃ jb : Nat, d.2 = jb := ⟨d.2.toNat, by omega⟩
          obtain ⟨na, gna⟩ : ∃ n, ns[ja]? = some n := ⟨_, List.getElem?_eq_getElem (by omega)⟩
          obtain ⟨nb, gnb⟩ : ∃ n, ns[jb]? = some n := ⟨_, List.getElem?_eq_getElem (by omega)⟩
          have nab : na ≠ nb := fun z => by
            rw [← z] at gnb
            have := nd_ix nn gna gnb
            omega
          have mna := List.mem_of_getElem? gna
          have mnb := List.mem_of_getElem? gnb
          have hp6 := k1 _ _ hp5 fun z => npn _ z rfl
          have hm6 := k1 _ _ hm5 fun z => nmn _ z rfl
          have short : ∀ j : Int, (nearF j (D'.take i)).length ≤ 66 := fun j => by
            have := List.length_filterMap_le (fun d : Pr => if d.1 = j then some d.2 else if d.2 = j then some d.1 else none) (D'.take i)
            rw [List.length_take] at this
            show (List.filterMap _ _).length ≤ 66
            omega
          have ga := k2 ja na gna
          have gb := k2 jb nb gnb
          walk_at "rd"
          refine ⟨_, SqT.of htd1, rfl, _, _, rfl, _, _, rfl, rfl, ?_⟩
          walk_at "rd"
          have npa : p ≠ na := fun z => npn na mna z.symm
          have nma : m ≠ na := fun z => nmn na mna z.symm
          have big : ∀ j : Int, ((nearF j (D'.take i)).map V.int).length < sizeLine := fun j => len_big (by rw [List.length_map]; have := short j; omega)
          refine ⟨C, dx, _, hp6, U.cl, U.nN, .ref m, hf_near _ _ _, m, rfl, _, SqL.of hm6, .ref na, at_of (j := ja) eja (by rw [List.getElem?_map, gna]; rfl), .inl ⟨rfl, _, SqL.of ga⟩, na, rfl, _, ga, big _, ?_⟩
          refine ⟨C, dx, _, by rw [upd_ne npa]; exact hp6, U.cl, U.nN, .ref m, hf_near _ _ _, m, rfl, _, SqL.of (by rw [upd_ne nma]; exact hm6), .ref nb, at_of (j := jb) ejb (by rw [List.getElem?_map, gnb]; rfl), ?_⟩
          have gb2 : upd H' na (HO.lst ((nearF (ja : Nat) (D'.take i)).map V.int ++ [V.int d.2])) nb = some (.lst ((nearF (jb : Nat) (D'.take i)).map V.int)) := by rw [upd_ne nab.symm]; exact gb
          refine ⟨.inl ⟨rfl, _, SqL.of gb2⟩, nb, rfl, _, gb2, big _, ?_⟩
          refine nxt _ _ _ (fun b o e h => ?_) (fun j n gn => ?_)
          · rw [upd_ne (show b ≠ nb from fun z => h (by rw [z]; exact mnb)), upd_ne (show b ≠ na from fun z => h (by rw [z]; exact mna))]
            exact k1 b o e h
          · rw [List.take_add_one, gd]
            show _ = some (HO.lst ((nearF (j : Nat) (D'.take i ++ [d])).map V.int))
            rw [nearF_snoc]
            by_cases e1 : n = nb
            · subst e1
              have ej := nd_ix nn gn gnb
              subst ej
              rw [upd_same, if_neg (by omega), if_pos ejb, List.map_append, eja]
              rfl
            · rw [upd_ne e1]
              by_cases e2 : n = na
              · subst e2
                have ej := nd_ix nn gn gna
                subst ej
                rw [upd_same, if_pos eja, List.map_append]
                rfl
              · have j1 : ¬ d.1 = (j : Int) := fun z => e2 (by
                  have ej : j = ja := by omega
                  rw [ej, gna] at gn
                  exact (Option.some.inj gn).symm)
                have j2 : ¬ d.2 = (j : Int) := fun z => e1 (by
                  have ej : j = jb := by omega
                  rw [ej, gnb] at gn
                  exact (Option.some.inj gn).symm)
                rw [upd_ne e2, if_neg j1, if_neg j2, List.append_nil]
                exact k2 j n gn
        · rw [hPw] at pv
          obtain ⟨v3, v4, rfl, k1, k2⟩ := pv
          rw [ll, List.take_length] at k2
          refine q D' (p :: q0 :: m :: ns) H' mem ⟨⟨dx, q0, m, ls, ns, k1 _ _ hp5 fun z => npn _ z rfl, k1 _ _ hq5 fun z => nqn _ z rfl, ?_, k1 _ _ hm5 fun z => nmn _ z rfl, by omega, k2, rfl⟩, drs, hr1, hr12⟩ (fun b o e h => ?_) fun b hb h => ?_
          · refine Paired.mapP pq5 fun v d ⟨t, e, ht⟩ => ⟨t, e, k1 _ _ ht fun z => ?_⟩
            have e2 := hn5 t z
            rw [ht] at e2
            cases e2
          · refine k1 _ _ (old5 b o e h) fun z => ?_
            rw [fn b z] at e
            cases e
          · rcases List.mem_cons.mp hb with z | hb
            · exact absurd z h
            · rcases List.mem_cons.mp hb with z | hb
              · rw [z]; exact fq
              · rcases List.mem_cons.mp hb with z | hb
                · rw [z]; exact fm
                · exact fn b hb
end

/-! ### a static method, called on its class -/
structure Smt (K : PySem.W.Frag) (C : Addr) (m : Str) (p g : Addr) : Prop where
  rd : PySem.W.readsIn K C (.type "type") = true
  ga : PySem.W.specialIn K (.ref C) "__getattribute__" = some (some (.builtin "type.__getattribute__"))
  at_ : PySem.W.findCls K (.ref C) (.type "type") m = some (.get (.builtin "staticmethod.__get__") (.ref p) .none (.ref C))
  rc : ∃ rest, PySem.W.recIn K p "staticmethod" = some (.ref g :: rest)
  kp : PySem.W.keepIn K (.ref g) = true
def tSmt (C : Addr) (sp : Sp) (E : XK) (ta : TE) (t : TA) : TE := fun σ H Q => ta σ H fun x H1 => x = .ref C ∧ t σ H1 fun vs H2 => sp vs H2 Q E
theorem pe_smt {X : Cx} {CX : CXT} {k : Nat} {C p g : Addr} {m : Str} {fd : FuncData} {ps : List Str} {sp : Sp} {E : XK} {o e : Expr} {es : List Expr} {apos pos : Pos} {ta : TE} {t : TA} {pl : Sem Bool} (he : PE X o ta) (c : Smt X.K C m p g) (F : FnOk X.prog X.w X.K X.mg X.base CX k g fd ps sp) (hr : Room k X.A) (hb : Binds X.K fd ps []) (hx : Passes CX X E) (ha : PA X (e :: es) t)
    (b1 : starEach (e :: es) X.env = (false, eval e X.env) :: starEach es X.env := by rfl) (b2 : (backTo pos (starEach es X.env)).any (·.1) = false := by rfl)
    (b3 : eval (.Call (.Attribute o m apos) (e :: es) [] pos) X.env = (eval o X.env >>= fun ov => standAt apos.atName >>= fun _ => holding [ov] (getMethod ov m pl) >>= fun fp => callWith pos fp.1 fp.2 (backTo pos (starEach (e :: es) X.env)) (backToKw pos (keywordEach [] X.env))) := by rfl) :
    PE X (.Call (.Attribute o m apos) (e :: es) [] pos) (tSmt C sp E ta t) := by
  refine ⟨fun pins s σ H Q I h => PySem.W.methodCall_KW (pl := pl) (thn (he.run pins s σ H _ I h) ?_) b3⟩
  rintro u s1 ⟨x, H1, I1, rx, rfl, q⟩
  cases (show u = Value.ref C from rx)
  obtain ⟨rest, rc⟩ := c.rc
  refine PySem.W.method_cls I1.kIn c.ga (PySem.W.cls_bind I1.kIn c.rd c.at_ (wpAny_call (PySem.W.sm_get (s := { s1 with toks := s1.toks + 1 }) I1.kIn rc (PySem.W.handed_on rfl ?_))))
  refine PySem.W.callWith_K (h₀ := X.base) I1.ok.mod.kin c.kp (thn (ha.run pos pins _ σ H1 _ (I1.tok _) q) ?_) b1 b2
  rintro us s2 ⟨vs, H2, I2, r, q2⟩
  exact ⟨I2.kIn, run_fn F hr hb .nil hx I2 r (by rw [List.append_nil]; exact q2)⟩

abbrev sHfull : Stmt := inClass sHouse 10
/-- the inner loop of a comprehension with two fors, over a range -/
theorem in_range {lo : Int} {n : Nat} {g : TG} {tt : TT} {te : TE} {vs : List Nat} {σ : L2.St} {H : Hp} {D : Addr} {Nx : Hp → Prop} (Pv : Nat → Hp → Prop) (h0 : Pv 0 H)
    (hs : ∀ i H, i < n → Pv i H → g (.int (lo + i)) (wipe σ vs) H fun σ2 H2 => wipe σ2 vs = wipe σ vs ∧ tt σ2 H2 fun b H3 => if b = true then te σ2 H3 fun y H4 => ∃ acc, H4 D = some (.lst acc) ∧ acc.length < sizeLine ∧ Pv (i + 1) (upd H4 D (.lst (acc ++ [y]))) else Pv (i + 1) H3)
    (hd : ∀ H, Pv n H → Nx H) :
    ∃ W : Nat → Nat → Hp → Prop, (∃ m, W 0 m H) ∧ ∀ j k H, W j k H → ((Itr lo n).stop j H ∧ Nx H) ∨ ((Itr lo n).go j H ∧ ∃ N1 : Hp → Prop, (∀ H', N1 H' → ∃ k', k' < k ∧ W (j + 1) k' H') ∧ ∀ x H', (Itr lo n).yld j H x H' → g x (wipe σ vs) H' fun σ3 H5 => wipe σ3 vs = wipe σ vs ∧ tt σ3 H5 fun b H6 =>
      if b = true then te σ3 H6 fun y H7 => ∃ acc, H7 D = some (.lst acc) ∧ acc.length < sizeLine ∧ N1 (upd H7 D (.lst (acc ++ [y]))) else N1 H6) := by
  refine ⟨fun i m H => m = n - i ∧ i ≤ n ∧ Pv i H, ⟨n, rfl, Nat.zero_le _, h0⟩, ?_⟩
  rintro i m H ⟨rfl, hi, p⟩
  by_cases lt : i < n
  · refine .inr ⟨lt, Pv (i + 1), fun H' q => ⟨n - (i + 1), by omega, rfl, lt, q⟩, ?_⟩
    rintro x H' ⟨rfl, rfl⟩
    exact hs i H' lt p
  · have e : i = n := by omega
    subst e
    exact .inl ⟨Nat.le_refl _, hd H p⟩
/-- all pairs, by their greater room -/
def fullR (b : Nat) : List Pr := (List.range b).map fun a : Nat => (((a : Int), (b : Int)) : Pr)
def fullE (n : Nat) : List Pr := (List.range n).flatMap fullR
theorem mem_fullE {n : Nat} {d : Pr} : d ∈ fullE n ↔ 0 ≤ d.1 ∧ d.1 < d.2 ∧ d.2 < n := by
  unfold fullE fullR
  rw [List.mem_flatMap]
  constructor
  · rintro ⟨b, hb, hd⟩
    obtain ⟨a, ha, rfl⟩ := List.mem_map.mp hd
    have h1 := List.mem_range.mp hb
    have h2 := List.mem_range.mp ha
    simp only
    omega
  · rintro ⟨h1, h2, h3⟩
    refine ⟨d.2.toNat, List.mem_range.mpr (by omega), List.mem_map.mpr ⟨d.1.toNat, List.mem_range.mpr (by omega), ?_⟩⟩
    exact Prod.ext (by simp only; omega) (by simp only; omega)
theorem fullE_nd {n : Nat} (h : n ≤ 12) : (fullE n).Nodup := by
  have : n = 0 ∨ n = 1 ∨ n = 2 ∨ n = 3 ∨ n = 4 ∨ n = 5 ∨ n = 6 ∨ n = 7 ∨ n = 8 ∨ n = 9 ∨ n = 10 ∨ n = 11 ∨ n = 12 := by omega
  rcases this with rfl | rfl | rfl | rfl | rfl | rfl | rfl | rfl | rfl | rfl | rfl | rfl | rfl <;> decide +kernel
theorem mm2_id {d : Pr} (h : d.1 < d.2) : mm2 d = d := by
  unfold mm2
  rw [if_neg (by omega), if_pos (by omega)]
section
variable {P : Program} {w : World} {K : PySem.W.Frag} {mg : Str → Option Value} {base : Heap}
theorem scHfull : FnScope ["rooms", "b", "a"] ["rooms"] (defScope sHfull) := ⟨rfl, rfl, rfl, by decide +kernel, rfl, by decide +kernel, by decide +kernel⟩
def spHfull (C : Addr) : Sp := fun vs H Q _ => ∃ r : Nat, vs = [.int r] ∧ 1 ≤ r ∧ r ≤ 12 ∧ ∀ p D own H', HouseAt C H' p r D own → Same H H' → Q (.ref p) H'
theorem ok_hfull {f C fR fi : Addr} {fd fdR fdi : FuncData} (F : Fun K "full" "House.full" sHfull f fd) (T : Bi mg) (U : Hs K mg C) (M : Mk K C fi) (Gi : FnOk P w K mg base CX0 2 fi fdi ["self", "rooms", "doors"] (spHinit C)) (bi : Binds K fdi ["self", "rooms", "doors"] []) (d_check_room_count : Df P w K mg base "check_room_count" ["rooms"] 1 spRoom fR fdR) : FnOk P w K mg base CX0 4 f fd ["rooms"] (spHfull C) := by
  refine F.ok scHfull (fun vs H Q E h => ?_) (fun cdv A outer s H vs Q E hr h => ?_)
  · obtain ⟨r, rfl, _⟩ := h
    rfl
  · obtain ⟨r, rfl, r1, r12, q⟩ := h
    refine ⟨_, pss_cons (ps_expr (pe_call d_check_room_count.ok (hr.mono (by decide)) (by rfl) d_check_room_count.at_ d_check_room_count.kp d_check_room_count.b .nil pass0 (pa_cons (pv 0) pa_nil)))
      (pss_one (ps_ret (pe_make M Gi hr (by rfl) U.mgC bi .nil pass0 (pa_cons (pv 0) (pa_cons (pe_lc2 (own := [("b", 1), ("a", 2)]) (vs1 := [2]) (by rfl) scHfull.nd (pi_range1 (by rfl) T.range (pa_cons (pv 0) pa_nil)) (blkOk_by (N := ["rooms", "b", "a"]) (sc := defScope sHfull) (by decide +kernel)) (by decide) (fun _ _ _ _ _ => pg_name (i := 1) scHfull.nd rfl (Or.inl rfl)) (fun _ _ _ _ _ => pts_nil)
        (fun _ _ _ _ _ => pi_range1 (by rfl) T.range (pa_cons (pv 1) pa_nil)) (fun _ _ _ _ _ => pg_name (i := 2) scHfull.nd rfl (Or.inl rfl)) (fun _ _ _ _ _ => pts_nil) (fun _ _ _ _ _ => pe_tup (pa_cons (pv 2) (pa_cons (pv 1) pa_nil)))) pa_nil))))), ?_⟩
    walk_at "rd"
    refine ⟨r, rfl, by omega, by omega, ?_⟩
    refine ⟨_, rfl, r, rfl, by omega, by omega, fun c nc => ?_⟩
    obtain ⟨Pv, hPv⟩ : ∃ Pv : Nat → Hp → Prop, Pv = (fun i Hx => ∃ ws, Same H Hx ∧ Hx c = some (.lst ws) ∧ PL Hx ws (fullE i)) := ⟨_, rfl⟩
    have len66 : ∀ i, i ≤ r → (fullE i).length ≤ 66 := fun i h => drs_len' (r := i) (by omega) (fullE_nd (by omega)) fun d hd => mem_fullE.mp hd
    refine ⟨fun i m Hx => m = (r : Int).toNat - i ∧ i ≤ (r : Int).toNat ∧ Pv i Hx, ⟨_, rfl, Nat.zero_le _, by rw [hPv]; exact ⟨[], same_upd nc, upd_same, PL.nil0 _⟩⟩, ?_⟩
    rintro i m Hx ⟨rfl, hi, pv⟩
    by_cases lt : i < (r : Int).toNat
    · refine .inr ⟨lt, Pv (i + 1), fun H' q => ⟨_, by omega, rfl, lt, q⟩, ?_⟩
      rintro x H' ⟨rfl, rfl⟩
      have nxt : ∀ ws Hx, Same H Hx → Hx c = some (.lst ws) → PL Hx ws (fullE (i + 1)) → Pv (i + 1) Hx := fun ws Hx h1 h2 h3 => by
        rw [hPv]
        exact ⟨ws, h1, h2, h3⟩
      rw [hPv] at pv
      obtain ⟨ws, sm, hc, pw⟩ := pv
      obtain ⟨Pw, hPw⟩ : ∃ Pw : Nat → Hp → Prop, Pw = (fun j Hx => ∃ ws, Same H Hx ∧ Hx c = some (.lst ws) ∧ PL Hx ws (fullE i ++ (List.range j).map fun a : Nat => (((a : Int), (i : Int)) : Pr))) := ⟨_, rfl⟩
      refine ⟨rfl, iteT (B := True) ?_⟩
      refine ⟨_, rfl, 0 + (i : Int), rfl, by omega, by omega, in_range (lo := 0) (n := (0 + (i : Int)).toNat) Pw (by rw [hPw]; exact ⟨ws, sm, hc, by rw [List.range_zero, List.map_nil, List.append_nil]; exact pw⟩) (fun j Hy hj pv => ?_) (fun Hy pv => ?_)⟩
      · have nxw : ∀ ws Hx, Same H Hx → Hx c = some (.lst ws) → PL Hx ws (fullE i ++ (List.range (j + 1)).map fun a : Nat => (((a : Int), (i : Int)) : Pr)) → Pw (j + 1) Hx := fun ws Hx h1 h2 h3 => by
          rw [hPw]
          exact ⟨ws, h1, h2, h3⟩
        rw [hPw] at pv
        obtain ⟨zs, s2, hc2, pz⟩ := pv
        have l1 := len66 i (by omega)
        have zl : zs.length ≤ 100 := by
          rw [pz.len, List.length_append, List.length_map, List.length_range]
          omega
        simp only [wipe]
        walk_at "rd"
        refine ⟨(by show 2 ≤ sizeLine; decide), fun t nt => ?_⟩
        have nct : c ≠ t := ne_of_none hc2 nt
        refine ⟨zs, by rw [upd_ne nct]; exact hc2, len_big (by omega), nxw (zs ++ [.ref t]) _ (same_ch (s2.trans (same_upd nt)) nc) upd_same ?_⟩
        rw [List.range_succ, List.map_append, ← List.append_assoc]
        refine PL.snoc ((pz.kt (KT.new nt)).kt (KT.lst (by rw [upd_ne nct]; exact hc2))) ⟨t, rfl, ?_⟩
        rw [upd_ne nct.symm, upd_same, Int.zero_add, Int.zero_add]
      · rw [hPw] at pv
        obtain ⟨zs, s2, hc2, pz⟩ := pv
        refine nxt zs Hy s2 hc2 ?_
        have e : fullE (i + 1) = fullE i ++ (List.range (0 + (i : Int)).toNat).map fun a : Nat => (((a : Int), (i : Int)) : Pr) := by
          unfold fullE
          rw [List.range_succ, List.flatMap_append, show (0 + (i : Int)).toNat = i by omega]
          congr 1
          show fullR i ++ [] = _
          rw [List.append_nil]
          rfl
        rw [e]
        exact pz
    · have e : i = r := by omega
      subst e
      rw [hPv] at pv
      obtain ⟨ws, sm, hc, pw⟩ := pv
      refine .inl ⟨by show (i : Int).toNat ≤ i; omega, ?_⟩
      intro x dx nx ndx nex
      have e : (fullE i).map mm2 = fullE i := by
        refine (List.map_congr_left fun d hd => ?_).trans (List.map_id _)
        exact mm2_id (mem_fullE.mp hd).2.1
      have s0 : Same Hx (upd (upd Hx dx (.own x)) x (.ins C dx [])) := fun b o z => by
        rw [upd_ne (ne_of_none z nx), upd_ne (ne_of_none z ndx)]
        exact z
      refine ⟨x, dx, c, i, ws, fullE i, fullE i, rfl, upd_same, s0 _ _ hc, pw.kt (KT.same s0), e, fullE_nd r12, fun d hd => mem_fullE.mp hd, r1, r12, fun D' own H' _ hh keep free => ⟨rfl, ?_⟩⟩
      exact q x D' own H' hh fun b o z => keep b o (s0 b o (sm b o z)) (ne_of_none (sm b o z) nx)
end

/-! ### logs in the heap -/
abbrev Cl := Int × Str
def IsC (H : Hp) (v : V) (c : Cl) : Prop := ∃ t, v = .ref t ∧ H t = some (.tup [.int c.1, .str c.2])
def LG (H : Hp) (vs : List V) (L : List Cl) : Prop := Paired (IsC H) vs L
theorem IsC.kt {H H' : Hp} {v : V} {d : Cl} (h : IsC H v d) (k : KT H H') : IsC H' v d := by
  obtain ⟨t, e, h⟩ := h
  exact ⟨t, e, k _ _ h⟩
theorem LG.kt {H H' : Hp} {vs : List V} {D : List Cl} (h : LG H vs D) (k : KT H H') : LG H' vs D := Paired.mapP h fun _ _ q => q.kt k
theorem LG.len {H : Hp} {vs : List V} {D : List Cl} (h : LG H vs D) : vs.length = D.length := Paired.length h
theorem LG.nil0 (H : Hp) : LG H [] [] := Paired.nil
theorem LG.snoc {H : Hp} {vs : List V} {D : List Cl} {v : V} {d : Cl} (h : LG H vs D) (q : IsC H v d) : LG H (vs ++ [v]) (D ++ [d]) := Paired.snoc h q
theorem pget {α β : Type} {F : α → β → Prop} : ∀ {vs : List α} {D : List β} {i : Nat} {v : α}, Paired F vs D → vs[i]? = some v → ∃ d, D[i]? = some d ∧ F v d
  | _, _, _, _, Paired.nil, e => by simp at e
  | _, _, 0, v, .cons r _, e => by
    have e2 := Option.some.inj e
    subst e2
    exact ⟨_, rfl, r⟩
  | _, _, i + 1, v, .cons _ t, e => pget (i := i) t e
theorem pget2 {α β : Type} {F : α → β → Prop} : ∀ {vs : List α} {D : List β} {i : Nat} {d : β}, Paired F vs D → D[i]? = some d → ∃ v, vs[i]? = some v ∧ F v d
  | _, _, _, _, Paired.nil, e => by simp at e
  | _, _, 0, v, .cons r _, e => by
    have e2 := Option.some.inj e
    subst e2
    exact ⟨_, rfl, r⟩
  | _, _, i + 1, v, .cons _ t, e => pget2 (i := i) t e
theorem prev {α β : Type} {F : α → β → Prop} {vs : List α} {D : List β} (h : Paired F vs D) : Paired F vs.reverse D.reverse := by
  induction h with
  | nil => exact Paired.nil
  | cons r _ ih =>
    rw [List.reverse_cons, List.reverse_cons]
    exact Paired.snoc ih r
theorem inV_ints (j : Int) (l : List Int) : inV (.int j) (l.map V.int) = decide (j ∈ l) := by
  induction l with
  | nil => rfl
  | cons x l ih =>
    have e : inV (.int j) ((x :: l).map V.int) = (eqV (.int x) (.int j) || inV (.int j) (l.map V.int)) := rfl
    rw [e, ih]
    have e2 : eqV (.int x) (.int j) = decide (x = j) := by
      unfold eqV
      by_cases h : x = j
      · subst h
        simp
      · simp [h]
    rw [e2]
    by_cases h : j = x
    · subst h
      simp
    · have h' : ¬ x = j := fun z => h z.symm
      simp [h, h']
theorem flat_ints (l : List Int) : (l.map V.int).all flatV = true := by
  rw [List.all_eq_true]
  intro v hv
  obtain ⟨x, _, rfl⟩ := List.mem_map.mp hv
  rfl
/-- the last calls of a log -/
theorem rep1 {α : Type} (n : Nat) (x : α) : (List.replicate n [x]).flatten = List.replicate n x := by
  induction n with
  | zero => rfl
  | succ n ih =>
    rw [List.replicate_succ, List.flatten_cons, List.replicate_succ, ih]
    rfl
def lastF : List Cl → List Cl
  | [] => []
  | c :: S => if c.1 ∈ S.map (·.1) then lastF S else c :: lastF S
theorem lastF_len (L : List Cl) : (lastF L).length ≤ L.length := by
  induction L with
  | nil => exact Nat.le_refl _
  | cons c S ih =>
    show (if c.1 ∈ S.map (·.1) then lastF S else c :: lastF S).length ≤ S.length + 1
    split
    · omega
    · rw [List.length_cons]
      omega
theorem drop_step {L : List Cl} {i : Nat} {c : Cl} (hi : i < L.length) (g : L[L.length - 1 - i]? = some c) : L.drop (L.length - (i + 1)) = c :: L.drop (L.length - i) := by
  have h : L.length - (i + 1) < L.length := by omega
  rw [List.drop_eq_getElem_cons h]
  have e1 : L.length - (i + 1) + 1 = L.length - i := by omega
  have e2 : L.length - (i + 1) = L.length - 1 - i := by omega
  rw [e1]
  congr 1
  rw [← e2, List.getElem?_eq_getElem h] at g
  exact Option.some.inj g
def inS (S : List Cl) : Int → Bool := fun k => decide (k ∈ S.map (·.1))
theorem inS_same {S : List Cl} {c : Cl} (h : c.1 ∈ S.map (·.1)) : inS (c :: S) = inS S := by
  funext k
  unfold inS
  by_cases e : k ∈ S.map (·.1)
  · rw [decide_eq_true e, List.map_cons, decide_eq_true (List.mem_cons_of_mem _ e)]
  · rw [decide_eq_false e, List.map_cons, decide_eq_false]
    intro z
    rcases List.mem_cons.mp z with z | z
    · exact e (by rw [z]; exact h)
    · exact e z
theorem inS_more {S : List Cl} {c : Cl} : (fun j => inS S j || decide (j = c.1)) = inS (c :: S) := by
  funext k
  unfold inS
  rw [List.map_cons]
  by_cases e1 : k = c.1
  · subst e1
    simp
  · by_cases e2 : k ∈ S.map (·.1)
    · rw [decide_eq_true e2, decide_eq_true (List.mem_cons_of_mem _ e2), Bool.true_or]
    · rw [decide_eq_false e2, decide_eq_false e1, decide_eq_false, Bool.or_false]
      intro z
      rcases List.mem_cons.mp z with z | z
      · exact e1 z
      · exact e2 z
theorem atI01 {a b : V} : atI [a, b] 0 = some a ∧ atI [a, b] 1 = some b := ⟨rfl, rfl⟩
abbrev sLast : Stmt := topS 2
abbrev sOrd : Stmt := topS 3
abbrev sWds : Stmt := topS 4
abbrev sLci : Stmt := topS 5
abbrev sTopR : Stmt := topS 6
abbrev sWof : Stmt := topS 7
abbrev sLof : Stmt := topS 8
section
variable {P : Program} {w : World} {K : PySem.W.Frag} {mg : Str → Option Value} {base : Heap}
theorem scLast : FnScope ["log", "called", "backwards", "room", "word"] ["log"] (defScope sLast) := ⟨rfl, rfl, rfl, by decide +kernel, rfl, by decide +kernel, by decide +kernel⟩
def spLast : Sp := fun vs H Q _ => ∃ (l : Addr) (us : List V) (L : List Cl), vs = [.ref l] ∧ H l = some (.lst us) ∧ LG H us L ∧ L.length ≤ 1000 ∧
  ∀ ws p H', Same H H' → H p = none → H' p = some (.lst ws) → LG H' ws (lastF L) → Q (.ref p) H'
theorem ok_last {f : Addr} {fd : FuncData} (F : Fun K "last_calls" "last_calls" sLast f fd) (T : Bi mg) (mrev : mg "reversed" = none) : FnOk P w K mg base CX0 1 f fd ["log"] spLast := by
  refine F.ok scLast (fun vs H Q E h => ?_) (fun cdv A outer s H vs Q E hr h => ?_)
  · obtain ⟨l, us, L, rfl, _⟩ := h
    rfl
  · obtain ⟨l, us, L, rfl, hl, lg, ln, q⟩ := h
    refine ⟨_, (pss_cons (ps_set (i := 1) scLast.nd rfl (Or.inl rfl) (pe_callTy0 cr_set0 (by rfl) T.set (by decide +kernel)))
      (pss_cons (ps_set (i := 2) scLast.nd rfl (Or.inl rfl) (pe_lst pa_nil))
      (pss_cons (ps_for PassesOwn.never rfl (pi_reversed (by rfl) mrev (pa_cons (pv 0) pa_nil)) (pg_tup rfl (pgs_cons (pg_name (i := 3) scLast.nd rfl (Or.inl rfl)) (pgs_cons (pg_name (i := 4) scLast.nd rfl (Or.inl rfl)) pgs_nil)))
      (pss_one (ps_if (pt_cmpR or_snotin (pv 3) (pv 1) (by rfl))
        (pss_cons (ps_expr (pe_sadd (pv 1) (pa_cons (pv 3) pa_nil)))
          (pss_one (ps_expr (pe_bm PySem.F.plainAttrs_list PySem.F.slot_list_append PySem.F.type_list_append mt_append (pv 2) (pa_cons (pe_tup (pa_cons (pv 3) (pa_cons (pv 4) pa_nil))) pa_nil)))))
        pss_nil)))
      (pss_one (ps_ret (pe_revL (pv 2))))))), ?_⟩
    walk_at "rd"
    refine ⟨rfl, fun a na => ⟨Nat.zero_le _, fun b nb => ?_⟩⟩
    have ul : us.length = L.length := lg.len
    have nab : a ≠ b := fun z => by
      rw [← z, upd_same] at nb
      cases nb
    have fb : H b = none := by
      rw [upd_ne nab.symm] at nb
      exact nb
    obtain ⟨Pv, hPv⟩ : ∃ Pv : Nat → L2.St → Hp → Prop, Pv = (fun i σ H' => ∃ (n : Nat) (ws : List V) (v3 v4 : Option V), σ = [some (.ref l), some (.ref a), some (.ref b), v3, v4] ∧ Same H H' ∧ H' a = some (SetO w a (inS (L.drop (L.length - i))) n) ∧ n ≤ i ∧ H' b = some (.lst ws) ∧ LG H' ws (lastF (L.drop (L.length - i))).reverse) := ⟨_, rfl⟩
    have e0 : L.drop (L.length - 0) = [] := List.drop_eq_nil_of_le (by omega)
    refine ⟨_, rfl, l, us, rfl, SqL.of ((same_upd na).trans (same_upd nb) _ _ hl), RT.for_Itv Pv (by rw [hPv]; exact ⟨0, [], none, none, rfl, (same_upd na).trans (same_upd nb), by rw [e0, upd_ne nab, upd_same]; rfl, Nat.le_refl _, upd_same, by rw [e0]; exact LG.nil0 _⟩) (fun i σ H' pv => by rw [hPv] at pv; obtain ⟨_, _, _, _, _, sm, _⟩ := pv; exact SqL.of (sm _ _ hl)) (fun i v σ H' hi gv pv => ?_) (fun σ H' pv => ?_)⟩
    · have nxt : ∀ n ws v3 v4 H', Same H H' → H' a = some (SetO w a (inS (L.drop (L.length - (i + 1)))) n) → n ≤ i + 1 → H' b = some (.lst ws) → LG H' ws (lastF (L.drop (L.length - (i + 1)))).reverse → Pv (i + 1) [some (.ref l), some (.ref a), some (.ref b), v3, v4] H' := fun n ws v3 v4 H' h1 h2 h3 h4 h5 => by
        rw [hPv]
        exact ⟨n, ws, v3, v4, rfl, h1, h2, h3, h4, h5⟩
      rw [hPv] at pv
      obtain ⟨n, ws, v3, v4, rfl, sm, ha, hn, hb, lw⟩ := pv
      rw [ul] at gv hi
      obtain ⟨c, gc, tc, rfl, htc⟩ := pget lg gv
      have st := drop_step hi gc
      rw [st] at nxt
      have htc1 := sm _ _ htc
      have wl : ws.length ≤ 1000 := by
        rw [lw.len, List.length_reverse]
        have := lastF_len (L.drop (L.length - i))
        rw [List.length_drop] at this
        omega
      walk_at "rd"
      refine ⟨_, SqT.of htc1, rfl, _, _, rfl, _, _, rfl, rfl, ?_⟩
      walk_at "rd"
      refine ⟨c.1, a, _, n, rfl, rfl, ha, ?_⟩
      refine ⟨_, rfl, ?_⟩
      by_cases hm : c.1 ∈ (L.drop (L.length - i)).map (·.1)
      · have e : (!inS (L.drop (L.length - i)) c.1) = false := by
          unfold inS
          rw [decide_eq_true hm]
          rfl
        rw [e]
        refine iteF (nxt n ws _ _ _ sm (by rw [inS_same hm]; exact ha) (by omega) hb ?_)
        show LG H' ws (if c.1 ∈ (L.drop (L.length - i)).map (·.1) then lastF (L.drop (L.length - i)) else c :: lastF (L.drop (L.length - i))).reverse
        rw [if_pos hm]
        exact lw
      · have e : (!inS (L.drop (L.length - i)) c.1) = true := by
          unfold inS
          rw [decide_eq_false hm]
          rfl
        rw [e]
        refine iteT ?_
        have s0 : Same H' H' := Same.refl _
        refine ⟨_, rfl, ⟨a, _, n, rfl, ha⟩, _, rfl, a, c.1, _, n, rfl, rfl, ha, (by show n + 1 < 4096; omega), ?_⟩
        have e2 : inS (L.drop (L.length - i)) c.1 = false := by
          unfold inS
          exact decide_eq_false hm
        rw [inS_more, e2]
        have fa : H a = none := na
        have hb2 : upd H' a (SetO w a (inS (c :: L.drop (L.length - i))) (if false = true then n else n + 1)) b = some (.lst ws) := by rw [upd_ne nab.symm]; exact hb
        have ha2 : upd H' a (SetO w a (inS (c :: L.drop (L.length - i))) (if false = true then n else n + 1)) a = some (SetO w a (inS (c :: L.drop (L.length - i))) (n + 1)) := upd_same
        have sm2 : Same H (upd H' a (SetO w a (inS (c :: L.drop (L.length - i))) (if false = true then n else n + 1))) := same_ch sm fa
        have kt2 : KT H' (upd H' a (SetO w a (inS (c :: L.drop (L.length - i))) (if false = true then n else n + 1))) := KT.ch ha (fun xs z => by unfold SetO at z; cases z)
        generalize upd H' a (SetO w a (inS (c :: L.drop (L.length - i))) (if false = true then n else n + 1)) = H2 at hb2 ha2 sm2 kt2
        walk_at "rd"
        refine ⟨.inl ⟨rfl, _, SqL.of hb2⟩, (by show 2 ≤ sizeLine; decide), fun t nt => ?_⟩
        have nbt : b ≠ t := ne_of_none hb2 nt
        refine ⟨ws, by rw [upd_ne nbt]; exact hb2, len_big (by omega), nxt (n + 1) (ws ++ [.ref t]) _ _ _ (same_ch (sm2.trans (same_upd nt)) fb) ?_ (by omega) upd_same ?_⟩
        · rw [upd_ne nab, upd_ne (ne_of_none ha2 nt)]
          exact ha2
        · show LG _ _ (if c.1 ∈ (L.drop (L.length - i)).map (·.1) then lastF (L.drop (L.length - i)) else c :: lastF (L.drop (L.length - i))).reverse
          rw [if_neg hm, List.reverse_cons]
          refine LG.snoc (((lw.kt kt2).kt (KT.new nt)).kt (KT.lst (by rw [upd_ne nbt]; exact hb2))) ⟨t, rfl, ?_⟩
          rw [upd_ne nbt.symm, upd_same]
    · rw [hPv] at pv
      obtain ⟨n, ws, v3, v4, rfl, sm, ha, hn, hb, lw⟩ := pv
      rw [ul, Nat.sub_self, List.drop_zero] at lw
      refine ⟨_, rfl, b, ws, rfl, SqL.of hb, fun p np => ?_⟩
      refine q ws.reverse p _ (sm.trans (same_upd np)) (sm.free np) upd_same ?_
      have := prev (lw.kt (KT.new (o := HO.lst ws.reverse) np))
      rw [List.reverse_reverse] at this
      exact this
theorem scOrd : FnScope ["log", "room", "_"] ["log"] (defScope sOrd) := ⟨rfl, rfl, rfl, by decide +kernel, rfl, by decide +kernel, by decide +kernel⟩
def spOrd : Sp := fun vs H Q _ => ∃ (l : Addr) (us : List V) (L : List Cl), vs = [.ref l] ∧ H l = some (.lst us) ∧ LG H us L ∧ L.length ≤ 1000 ∧
  ∀ p H', Same H H' → H p = none → H' p = some (.tup ((lastF L).map fun c => V.int c.1)) → Q (.ref p) H'
theorem ok_ord {f fL : Addr} {fd fdL : FuncData} (F : Fun K "order_of" "order_of" sOrd f fd) (T : Bi mg) (d_last_calls : Df P w K mg base "last_calls" ["log"] 1 spLast fL fdL) : FnOk P w K mg base CX0 2 f fd ["log"] spOrd := by
  refine F.ok scOrd (fun vs H Q E h => ?_) (fun cdv A outer s H vs Q E hr h => ?_)
  · obtain ⟨l, us, L, rfl, _⟩ := h
    rfl
  · obtain ⟨l, us, L, rfl, hl, lg, ln, q⟩ := h
    refine ⟨_, (pss_one (ps_ret (pe_callTy call_tuple_of (by rfl) T.tuple (by decide +kernel) (pa_cons (pe_lc (own := [("room", 1), ("_", 2)]) (g := gTup K 2 (gCons (gName 1) (gCons (gName 2) gNil))) (by rfl) scOrd.nd (pi_list (pe_call d_last_calls.ok (hr.mono (by decide)) (by rfl) d_last_calls.at_ d_last_calls.kp d_last_calls.b .nil pass0 (pa_cons (pv 0) pa_nil))) (blkOk_by (N := ["log", "room", "_"]) (sc := defScope sOrd) (by decide +kernel)) (fun _ _ _ _ _ => pg_tup rfl (pgs_cons (pg_name (i := 1) scOrd.nd rfl (Or.inl rfl)) (pgs_cons (pg_name (i := 2) scOrd.nd rfl (Or.inl rfl)) pgs_nil))) (fun _ _ _ _ _ => pts_nil) (fun _ _ _ _ _ => (pv 1))) pa_nil)))), ?_⟩
    walk_at "rd"
    refine ⟨_, rfl, l, us, L, rfl, hl, lg, ln, fun ws p H1 s1 np hp lw => ?_⟩
    have wl : ws.length ≤ 1000 := by
      have := lastF_len L
      rw [lw.len]
      omega
    refine ⟨p, rfl, ⟨_, SqL.of hp⟩, fun c nc => ?_⟩
    obtain ⟨Pv, hPv⟩ : ∃ Pv : Nat → Hp → Prop, Pv = (fun j Hx => Same H1 Hx ∧ Hx c = some (.lst (((lastF L).take j).map fun c => V.int c.1))) := ⟨_, rfl⟩
    refine lc_list (K := K) (a := p) (xs := ws) Pv (by rw [hPv]; exact ⟨same_upd nc, upd_same⟩) (fun j Hx _ pv => by rw [hPv] at pv; exact SqL.of (pv.1 _ _ hp)) (fun j v Hx gv pv => ?_) (fun Hx pv => ?_)
    · have nxt : ∀ Hx, Same H1 Hx → Hx c = some (.lst (((lastF L).take (j + 1)).map fun c => V.int c.1)) → Pv (j + 1) Hx := fun Hx h1 h2 => by
        rw [hPv]
        exact ⟨h1, h2⟩
      rw [hPv] at pv
      obtain ⟨s2, hc⟩ := pv
      obtain ⟨d, gd, td, rfl, htd⟩ := pget lw gv
      have hj : j < ws.length := (List.getElem?_eq_some_iff.mp gv).1
      simp only [wipe]
      walk_at "rd"
      refine ⟨_, SqT.of (s2 _ _ htd), rfl, _, _, rfl, _, _, rfl, rfl, ?_⟩
      walk_at "rd"
      refine ⟨_, hc, len_big (by rw [List.length_map, List.length_take]; omega), nxt _ (same_ch s2 nc) ?_⟩
      rw [upd_same, List.take_add_one, gd, List.map_append]
      rfl
    · rw [hPv] at pv
      obtain ⟨s2, hc⟩ := pv
      rw [lw.len, List.take_length] at hc
      refine ⟨c, rfl, _, .inl ⟨SqL.of hc, fun t nt => ?_⟩⟩
      exact q t _ ((s1.trans s2).trans (same_upd nt)) ((s1.trans s2).free nt) upd_same
theorem scWds : FnScope ["house", "log", "words", "room", "word"] ["house", "log"] (defScope sWds) := ⟨rfl, rfl, rfl, by decide +kernel, rfl, by decide +kernel, by decide +kernel⟩
/-- the last word of each of r rooms -/
def wordsF (r : Nat) (L : List Cl) : List V := L.foldl (fun W c => W.set c.1.toNat (.str c.2)) (List.replicate r .non)
theorem wordsF_len (r : Nat) (L : List Cl) : (wordsF r L).length = r := by
  have key : ∀ (L : List Cl) (W : List V), (L.foldl (fun W c => W.set c.1.toNat (.str c.2)) W).length = W.length := by
    intro L
    induction L with
    | nil => intro W; rfl
    | cons c L ih =>
      intro W
      show (L.foldl _ (W.set c.1.toNat (.str c.2))).length = _
      rw [ih, List.length_set]
  unfold wordsF
  rw [key, List.length_replicate]
def InR (r : Nat) (L : List Cl) : Prop := ∀ c ∈ L, 0 ≤ c.1 ∧ c.1 < r
theorem wordsF_step {r : Nat} {L : List Cl} {j : Nat} {c : Cl} (g : L[j]? = some c) : wordsF r (L.take (j + 1)) = (wordsF r (L.take j)).set c.1.toNat (.str c.2) := by
  unfold wordsF
  rw [List.take_add_one, g, List.foldl_append]
  rfl
def spWds (C : Addr) : Sp := fun vs H Q _ => ∃ (p l : Addr) (us : List V) (L : List Cl) (r : Nat) (D : List Pr) (own : List Addr), vs = [.ref p, .ref l] ∧ HouseAt C H p r D own ∧ H l = some (.lst us) ∧ LG H us L ∧ InR r L ∧
  ∀ q H', Same H H' → H q = none → H' q = some (.lst (wordsF r L)) → Q (.ref q) H'
theorem ok_wds {f C : Addr} {fd : FuncData} (F : Fun K "words_of" "words_of" sWds f fd) (U : Hs K mg C) : FnOk P w K mg base CX0 1 f fd ["house", "log"] (spWds C) := by
  refine F.ok scWds (fun vs H Q E h => ?_) (fun cdv A outer s H vs Q E hr h => ?_)
  · obtain ⟨p, l, us, L, r, D, own, rfl, _⟩ := h
    rfl
  · obtain ⟨p, l, us, L, r, D, own, rfl, hh, hl, lg, inr, q⟩ := h
    obtain ⟨dx, l0, m0, ls, nss, h1, _⟩ := hh.ex
    have r12 := hh.r12
    refine ⟨_, (pss_cons (ps_set (i := 2) scWds.nd rfl (Or.inl rfl) (pe_op op_rep (pe_lst (pa_cons pe_non pa_nil)) (pe_fld (pv 0) rfl)))
      (pss_cons (ps_for PassesOwn.never rfl (pi_list (pv 1)) (pg_tup rfl (pgs_cons (pg_name (i := 3) scWds.nd rfl (Or.inl rfl)) (pgs_cons (pg_name (i := 4) scWds.nd rfl (Or.inl rfl)) pgs_nil)))
      (pss_one (ps_asg (pv 4) (pg_sub (pv 2) (pv 3) set_list))))
      (pss_one (ps_ret (pv 2))))), ?_⟩
    walk_at "rd"
    refine ⟨by decide, fun e ne => ?_⟩
    have s0 : Same H (upd H e (HO.lst [V.non])) := same_upd ne
    refine ⟨C, dx, _, s0 _ _ h1, U.cl, U.nR, .int r, hf_rooms _ _ _, e, r, [.non], rfl, rfl, upd_same, by omega, by omega, by show 1 * _ ≤ sizeLine; exact Nat.le_of_lt (len_big (by omega)), fun t nt => ?_⟩
    have s1 := s0.trans (same_upd (o := HO.lst (List.replicate (r : Int).toNat [V.non]).flatten) nt)
    have ft : H t = none := s0.free nt
    have e0 : (List.replicate (r : Int).toNat [V.non]).flatten = wordsF r [] := by
      rw [Int.toNat_natCast]
      show _ = List.replicate r V.non
      exact rep1 r V.non
    rw [e0] at s1 ⊢
    have htt : upd (upd H e (HO.lst [V.non])) t (HO.lst (wordsF r [])) t = some (.lst (wordsF r [])) := upd_same
    generalize upd (upd H e (HO.lst [V.non])) t (HO.lst (wordsF r [])) = H1 at s1 htt
    obtain ⟨Pv, hPv⟩ : ∃ Pv : Nat → L2.St → Hp → Prop, Pv = (fun i σ H' => ∃ v3 v4 : Option V, σ = [some (.ref p), some (.ref l), some (.ref t), v3, v4] ∧ Same H H' ∧ H' t = some (.lst (wordsF r (L.take i)))) := ⟨_, rfl⟩
    refine ⟨_, rfl, l, rfl, ⟨_, SqL.of (s1 _ _ hl)⟩, for_list (K := K) (a := l) (xs := us) Pv (by rw [hPv]; exact ⟨none, none, rfl, s1, htt⟩) (fun i σ H' _ pv => by rw [hPv] at pv; obtain ⟨_, _, _, sm, _⟩ := pv; exact SqL.of (sm _ _ hl)) (fun i v σ H' gv pv => ?_) (fun σ H' pv => ?_)⟩
    · have nxt : ∀ v3 v4 H', Same H H' → H' t = some (.lst (wordsF r (L.take (i + 1)))) → Pv (i + 1) [some (.ref p), some (.ref l), some (.ref t), v3, v4] H' := fun v3 v4 H' h1 h2 => by
        rw [hPv]
        exact ⟨v3, v4, rfl, h1, h2⟩
      rw [hPv] at pv
      obtain ⟨v3, v4, rfl, sm, ht⟩ := pv
      obtain ⟨c, gc, tc, rfl, htc⟩ := pget lg gv
      have rc := inr c (List.mem_of_getElem? gc)
      walk_at "rd"
      refine ⟨_, SqT.of (sm _ _ htc), rfl, _, _, rfl, _, _, rfl, rfl, ?_⟩
      walk_at "rd"
      refine ⟨_, ht, c.1.toNat, ixn (by omega) (by rw [wordsF_len]; omega), nxt _ _ _ (same_ch sm ft) ?_⟩
      rw [upd_same, wordsF_step gc]
    · rw [hPv] at pv
      obtain ⟨v3, v4, rfl, sm, ht⟩ := pv
      have ul : us.length = L.length := lg.len
      rw [ul, List.take_length] at ht
      walk_at "rd"
      exact q t H' sm ft ht
theorem scLci : FnScope ["log", "rooms", "call"] ["log", "rooms"] (defScope sLci) := ⟨rfl, rfl, rfl, by decide +kernel, rfl, by decide +kernel, by decide +kernel⟩
/-- the last call in any of the rooms -/
def lastIn (R : List Int) (L : List Cl) : Option Cl := L.reverse.find? fun c => decide (c.1 ∈ R)
def spLci (K : PySem.W.Frag) : Sp := fun vs H Q _ => ∃ (l o : Addr) (us : List V) (L : List Cl) (R : List Int), vs = [.ref l, .ref o] ∧ H l = some (.lst us) ∧ LG H us L ∧ (SqL K H o (R.map V.int) ∨ SqT K H o (R.map V.int)) ∧ (lastIn R L = none → Q .non H) ∧ (∀ t c, lastIn R L = some c → H t = some (.tup [.int c.1, .str c.2]) → Q (.ref t) H)
theorem ok_lci {f : Addr} {fd : FuncData} (F : Fun K "last_call_in" "last_call_in" sLci f fd) (mrev : mg "reversed" = none) : FnOk P w K mg base CX0 1 f fd ["log", "rooms"] (spLci K) := by
  refine F.ok scLci (fun vs H Q E h => ?_) (fun cdv A outer s H vs Q E hr h => ?_)
  · obtain ⟨l, o, us, L, R, rfl, _⟩ := h
    rfl
  · obtain ⟨l, o, us, L, R, rfl, hl, lg, ho, qn, qs⟩ := h
    have ul : us.length = L.length := lg.len
    refine ⟨_, (pss_cons (ps_for PassesOwn.never rfl (pi_reversed (by rfl) mrev (pa_cons (pv 0) pa_nil)) (pg_name (i := 2) scLci.nd rfl (Or.inl rfl))
      (pss_one (ps_if (pt_cmpR op_in_seq (pe_ix ix_tup (pv 2) pe_int (fun _ _ => rfl)) (pv 1) (by rfl))
        (pss_one (ps_ret (pv 2)))
        pss_nil)))
      (pss_one (ps_ret pe_non))), ?_⟩
    walk_at "rd"
    obtain ⟨Pv, hPv⟩ : ∃ Pv : Nat → L2.St → Hp → Prop, Pv = (fun i σ H' => ∃ v2 : Option V, σ = [some (.ref l), some (.ref o), v2] ∧ H' = H ∧ lastIn R (L.drop (L.length - i)) = none) := ⟨_, rfl⟩
    refine ⟨_, rfl, l, us, rfl, SqL.of hl, RT.for_Itv Pv (by rw [hPv]; exact ⟨none, rfl, rfl, by rw [Nat.sub_zero, List.drop_length]; rfl⟩) (fun i σ H' pv => by rw [hPv] at pv; obtain ⟨_, _, rfl, _⟩ := pv; exact SqL.of hl) (fun i v σ H' hi gv pv => ?_) (fun σ H' pv => ?_)⟩
    · have nxt : ∀ v2, lastIn R (L.drop (L.length - (i + 1))) = none → Pv (i + 1) [some (.ref l), some (.ref o), v2] H := fun v2 h => by
        rw [hPv]
        exact ⟨v2, rfl, rfl, h⟩
      rw [hPv] at pv
      obtain ⟨v2, rfl, rfl, none_⟩ := pv
      rw [ul] at gv hi
      obtain ⟨c, gc, tc, rfl, htc⟩ := pget lg gv
      have st := drop_step hi gc
      have cons : lastIn R (c :: L.drop (L.length - i)) = if c.1 ∈ R then some c else none := by
        unfold lastIn at none_ ⊢
        rw [List.reverse_cons, List.find?_append, none_]
        by_cases e : c.1 ∈ R
        · simp [e]
        · simp [e]
      rw [st, cons] at nxt
      walk_at "rd"
      refine ⟨_, SqT.of htc, .int c.1, rfl, o, _, rfl, ho, rfl, flat_ints _, ?_⟩
      rw [inV_ints]
      refine ⟨_, rfl, ?_⟩
      by_cases e : c.1 ∈ R
      · rw [decide_eq_true e]
        refine iteT (qs tc c ?_ htc)
        have e1 : L = L.take (L.length - (i + 1)) ++ (c :: L.drop (L.length - i)) := by
          rw [← st]
          exact (List.take_append_drop _ _).symm
        rw [e1]
        unfold lastIn at cons ⊢
        rw [if_pos e] at cons
        rw [List.reverse_append, List.find?_append, cons]
        rfl
      · rw [decide_eq_false e]
        rw [if_neg e] at nxt
        exact iteF (nxt _ rfl)
    · rw [hPv] at pv
      obtain ⟨v2, rfl, rfl, none_⟩ := pv
      rw [ul, Nat.sub_self, List.drop_zero] at none_
      walk_at "rd"
      exact qn none_
theorem scTopR : FnScope ["log", "rooms", "call"] ["log", "rooms"] (defScope sTopR) := ⟨rfl, rfl, rfl, by decide +kernel, rfl, by decide +kernel, by decide +kernel⟩
def optR (o : Option Cl) : V := match o with
  | none => .non
  | some c => .int c.1
def optW (o : Option Cl) : V := match o with
  | none => .non
  | some c => .str c.2
def spTopR (K : PySem.W.Frag) (g : Option Cl → V) : Sp := fun vs H Q _ => ∃ (l o : Addr) (us : List V) (L : List Cl) (R : List Int), vs = [.ref l, .ref o] ∧ H l = some (.lst us) ∧ LG H us L ∧ (SqL K H o (R.map V.int) ∨ SqT K H o (R.map V.int)) ∧ Q (g (lastIn R L)) H
theorem lastIn_at {H : Hp} {us : List V} {L : List Cl} {R : List Int} {c : Cl} (lg : LG H us L) (h : lastIn R L = some c) : ∃ t, H t = some (.tup [.int c.1, .str c.2]) := by
  unfold lastIn at h
  have m := List.mem_of_find?_eq_some h
  obtain ⟨i, g⟩ := List.getElem?_of_mem (List.mem_reverse.mp m)
  obtain ⟨v, _, t, _, e⟩ := pget2 lg g
  exact ⟨t, e⟩
theorem ok_topR {f fL : Addr} {fd fdL : FuncData} (F : Fun K "top_room" "top_room" sTopR f fd) (d_last_call_in : Df P w K mg base "last_call_in" ["log", "rooms"] 1 (spLci K) fL fdL) : FnOk P w K mg base CX0 2 f fd ["log", "rooms"] (spTopR K optR) := by
  refine F.ok scTopR (fun vs H Q E h => ?_) (fun cdv A outer s H vs Q E hr h => ?_)
  · obtain ⟨l, o, us, L, R, rfl, _⟩ := h
    rfl
  · obtain ⟨l, o, us, L, R, rfl, hl, lg, ho, q⟩ := h
    refine ⟨_, (pss_cons (ps_set (i := 2) scTopR.nd rfl (Or.inl rfl) (pe_call d_last_call_in.ok (hr.mono (by decide)) (by rfl) d_last_call_in.at_ d_last_call_in.kp d_last_call_in.b .nil pass0 (pa_cons (pv 0) (pa_cons (pv 1) pa_nil))))
      (pss_one (ps_ret (pe_ifExp (pt_cmpR op_isN (pv 2) pe_non (nomark _)) pe_non (pe_ix ix_tup (pv 2) pe_int (fun _ _ => rfl)))))), ?_⟩
    walk_at "rd"
    refine ⟨l, o, us, L, R, rfl, hl, lg, ho, fun e => ?_, fun t c e ht => ?_⟩
    · rw [e] at q
      walk_at "rd"
      exact q
    · rw [e] at q
      walk_at "rd"
      rw [if_neg (by decide)]
      exact ⟨_, SqT.of ht, _, rfl, q⟩
theorem scWof : FnScope ["log", "rooms", "call"] ["log", "rooms"] (defScope sWof) := ⟨rfl, rfl, rfl, by decide +kernel, rfl, by decide +kernel, by decide +kernel⟩
theorem ok_wof {f fL : Addr} {fd fdL : FuncData} (F : Fun K "word_of" "word_of" sWof f fd) (d_last_call_in : Df P w K mg base "last_call_in" ["log", "rooms"] 1 (spLci K) fL fdL) : FnOk P w K mg base CX0 2 f fd ["log", "rooms"] (spTopR K optW) := by
  refine F.ok scWof (fun vs H Q E h => ?_) (fun cdv A outer s H vs Q E hr h => ?_)
  · obtain ⟨l, o, us, L, R, rfl, _⟩ := h
    rfl
  · obtain ⟨l, o, us, L, R, rfl, hl, lg, ho, q⟩ := h
    refine ⟨_, (pss_cons (ps_set (i := 2) scWof.nd rfl (Or.inl rfl) (pe_call d_last_call_in.ok (hr.mono (by decide)) (by rfl) d_last_call_in.at_ d_last_call_in.kp d_last_call_in.b .nil pass0 (pa_cons (pv 0) (pa_cons (pv 1) pa_nil))))
      (pss_one (ps_ret (pe_ifExp (pt_cmpR op_isN (pv 2) pe_non (nomark _)) pe_non (pe_ix ix_tup (pv 2) pe_int (fun _ _ => rfl)))))), ?_⟩
    walk_at "rd"
    refine ⟨l, o, us, L, R, rfl, hl, lg, ho, fun e => ?_, fun t c e ht => ?_⟩
    · rw [e] at q
      walk_at "rd"
      exact q
    · rw [e] at q
      walk_at "rd"
      rw [if_neg (by decide)]
      exact ⟨_, SqT.of ht, _, rfl, q⟩
theorem scLof : FnScope ["words", "order", "room"] ["words", "order"] (defScope sLof) := ⟨rfl, rfl, rfl, by decide +kernel, rfl, by decide +kernel, by decide +kernel⟩
def spLof (K : PySem.W.Frag) : Sp := fun vs H Q _ => ∃ (l o : Addr) (W : List V) (L : List Cl), vs = [.ref l, .ref o] ∧ H l = some (.lst W) ∧ H o = some (.tup (L.map fun c => V.int c.1)) ∧ L.length ≤ 1000 ∧ (∀ c ∈ L, 0 ≤ c.1 ∧ W[c.1.toNat]? = some (.str c.2)) ∧
  ∀ ws p H', Same H H' → H p = none → H' p = some (.lst ws) → LG H' ws L → Q (.ref p) H'
theorem ok_lof {f : Addr} {fd : FuncData} (F : Fun K "log_of" "log_of" sLof f fd) : FnOk P w K mg base CX0 1 f fd ["words", "order"] (spLof K) := by
  refine F.ok scLof (fun vs H Q E h => ?_) (fun cdv A outer s H vs Q E hr h => ?_)
  · obtain ⟨l, o, W, L, rfl, _⟩ := h
    rfl
  · obtain ⟨l, o, W, L, rfl, hl, ho, ln, hw, q⟩ := h
    refine ⟨_, (pss_one (ps_ret (pe_lc (own := [("room", 2)]) (te := tTup (tCons (tVar 2) (tCons (tOp (rIxL K) (tVar 0) (tVar 2)) tNil))) (by rfl) scLof.nd (pi_tup (pv 1)) (blkOk_by (N := ["words", "order", "room"]) (sc := defScope sLof) (by decide +kernel)) (fun _ _ _ _ _ => pg_name (i := 2) scLof.nd rfl (Or.inl rfl)) (fun _ _ _ _ _ => pts_nil) (fun _ _ _ _ _ => (pe_tup (pa_cons (pv 2) (pa_cons (pe_ix ix_list (pv 0) (pv 2) (fun _ _ => rfl)) pa_nil))))))), ?_⟩
    walk_at "rd"
    refine ⟨_, rfl, o, rfl, ⟨_, SqT.of ho⟩, fun c nc => ?_⟩
    obtain ⟨Pv, hPv⟩ : ∃ Pv : Nat → Hp → Prop, Pv = (fun j Hx => ∃ ws, Same H Hx ∧ Hx c = some (.lst ws) ∧ LG Hx ws (L.take j)) := ⟨_, rfl⟩
    refine lc_tup (K := K) (a := o) (xs := L.map fun c => V.int c.1) Pv (by rw [hPv]; exact ⟨[], same_upd nc, upd_same, LG.nil0 _⟩) (fun j Hx _ pv => by rw [hPv] at pv; obtain ⟨_, sm, _⟩ := pv; exact SqT.of (sm _ _ ho)) (fun j v Hx gv pv => ?_) (fun Hx pv => ?_)
    · have nxt : ∀ ws Hx, Same H Hx → Hx c = some (.lst ws) → LG Hx ws (L.take (j + 1)) → Pv (j + 1) Hx := fun ws Hx h1 h2 h3 => by
        rw [hPv]
        exact ⟨ws, h1, h2, h3⟩
      rw [hPv] at pv
      obtain ⟨ws, sm, hc, lw⟩ := pv
      rw [List.getElem?_map] at gv
      cases gd : L[j]? with
      | none => rw [gd] at gv; cases gv
      | some d =>
        rw [gd] at gv
        have ev := Option.some.inj gv
        subst ev
        obtain ⟨w0, wd⟩ := hw d (List.mem_of_getElem? gd)
        have wl : ws.length ≤ 1000 := by
          rw [lw.len, List.length_take]
          omega
        simp only [wipe]
        walk_at "rd"
        refine ⟨_, SqL.of (sm _ _ hl), .str d.2, at_of (j := d.1.toNat) (by omega) wd, (by show 2 ≤ sizeLine; decide), fun t nt => ?_⟩
        have nct : c ≠ t := ne_of_none hc nt
        refine ⟨ws, by rw [upd_ne nct]; exact hc, len_big (by omega), nxt (ws ++ [.ref t]) _ (same_ch (sm.trans (same_upd nt)) nc) upd_same ?_⟩
        rw [List.take_add_one, gd]
        refine LG.snoc ((lw.kt (KT.new nt)).kt (KT.lst (by rw [upd_ne nct]; exact hc))) ⟨t, rfl, ?_⟩
        rw [upd_ne nct.symm, upd_same]
    · rw [hPv] at pv
      obtain ⟨ws, sm, hc, lw⟩ := pv
      rw [List.length_map, List.take_length] at lw
      exact q ws c Hx sm nc hc lw
end
abbrev sLtop : Stmt := topS 20
abbrev sLwof : Stmt := topS 21
abbrev sLlast : Stmt := topS 23
abbrev sSpell : Stmt := topS 24
abbrev sPool : Stmt := topS 25
abbrev sSize : Stmt := topS 26
abbrev sDrawn : Stmt := topS 27
abbrev sChosen : Stmt := topS 28
theorem lastIn_step {R : List Int} {L : List Cl} {i : Nat} {c : Cl} (g : L[i]? = some c) : lastIn R (L.take (i + 1)) = if c.1 ∈ R then some c else lastIn R (L.take i) := by
  rw [List.take_add_one, g]
  unfold lastIn
  show List.find? _ (L.take i ++ [c]).reverse = _
  rw [List.reverse_append]
  show List.find? _ (c :: (L.take i).reverse) = _
  by_cases e : c.1 ∈ R
  · rw [List.find?_cons_of_pos (by simp [e]), if_pos e]
  · rw [List.find?_cons_of_neg (by simp [e]), if_neg e]
theorem cut_drop (xs : List V) (k : Nat) : cutV xs (some ((k : Nat) : Int)) none = xs.drop k := by
  unfold cutV
  rw [show HT.sIx xs.length 0 (some ((k : Nat) : Int)) = min k xs.length from HT.sIx_nat xs.length 0 k, HT.sIx_none]
  by_cases h : k ≤ xs.length
  · rw [Nat.min_eq_left h]
    refine List.take_of_length_le ?_
    rw [List.length_drop]
    exact Nat.le_refl _
  · rw [Nat.min_eq_right (by omega), List.drop_length, List.drop_eq_nil_of_le (by omega)]
    exact List.take_nil
theorem for_iter {wi : TI} {g : TG} {tb : TS} {D : Ends} {σ : L2.St} {H : Hp} (h : wi σ H fun J H1 => tFor (fun _ H R => R J H) g tb D σ H1) : tFor wi g tb D σ H := h
section
variable {P : Program} {w : World} {K : PySem.W.Frag} {mg : Str → Option Value} {base : Heap}
theorem scLtop : FnScope ["log", "rooms", "top", "call"] ["log", "rooms"] (defScope sLtop) := ⟨rfl, rfl, rfl, by decide +kernel, rfl, by decide +kernel, by decide +kernel⟩
theorem ok_ltop {f : Addr} {fd : FuncData} (F : Fun K "_law_top" "_law_top" sLtop f fd) : FnOk P w K mg base CX0 1 f fd ["log", "rooms"] (spTopR K optR) := by
  refine F.ok scLtop (fun vs H Q E h => ?_) (fun cdv A outer s H vs Q E hr h => ?_)
  · obtain ⟨l, o, us, L, R, rfl, _⟩ := h
    rfl
  · obtain ⟨l, o, us, L, R, rfl, hl, lg, ho, q⟩ := h
    have ul : us.length = L.length := lg.len
    refine ⟨_, (pss_cons (ps_set (i := 2) scLtop.nd rfl (Or.inl rfl) pe_non)
      (pss_cons (ps_for PassesOwn.never rfl (pi_list (pv 0)) (pg_name (i := 3) scLtop.nd rfl (Or.inl rfl))
      (pss_one (ps_if (pt_cmpR op_in_seq (pe_ix ix_tup (pv 3) pe_int (fun _ _ => rfl)) (pv 1) (by rfl))
        (pss_one (ps_set (i := 2) scLtop.nd rfl (Or.inl rfl) (pe_ix ix_tup (pv 3) pe_int (fun _ _ => rfl))))
        pss_nil)))
      (pss_one (ps_ret (pv 2))))), ?_⟩
    walk_at "rd"
    obtain ⟨Pv, hPv⟩ : ∃ Pv : Nat → L2.St → Hp → Prop, Pv = (fun i σ H' => ∃ v3 : Option V, σ = [some (.ref l), some (.ref o), some (optR (lastIn R (L.take i))), v3] ∧ H' = H) := ⟨_, rfl⟩
    refine ⟨_, rfl, l, rfl, ⟨_, SqL.of hl⟩, for_list (K := K) (a := l) (xs := us) Pv (by rw [hPv]; exact ⟨none, rfl, rfl⟩) (fun i σ H' _ pv => by rw [hPv] at pv; obtain ⟨_, _, rfl⟩ := pv; exact SqL.of hl) (fun i v σ H' gv pv => ?_) (fun σ H' pv => ?_)⟩
    · have nxt : ∀ v3, Pv (i + 1) [some (.ref l), some (.ref o), some (optR (lastIn R (L.take (i + 1)))), v3] H := fun v3 => by
        rw [hPv]
        exact ⟨v3, rfl, rfl⟩
      rw [hPv] at pv
      obtain ⟨v3, rfl, rfl⟩ := pv
      obtain ⟨c, gc, tc, rfl, htc⟩ := pget lg gv
      rw [lastIn_step gc] at nxt
      walk_at "rd"
      refine ⟨_, SqT.of htc, .int c.1, rfl, o, _, rfl, ho, rfl, flat_ints _, ?_⟩
      rw [inV_ints]
      refine ⟨_, rfl, ?_⟩
      by_cases e : c.1 ∈ R
      · rw [decide_eq_true e]
        rw [if_pos e] at nxt
        exact iteT ⟨_, SqT.of htc, .int c.1, rfl, nxt _⟩
      · rw [decide_eq_false e]
        rw [if_neg e] at nxt
        exact iteF (nxt _)
    · rw [hPv] at pv
      obtain ⟨v3, rfl, rfl⟩ := pv
      rw [ul, List.take_length]
      walk_at "rd"
      exact q
theorem scLwof : FnScope ["log", "rooms", "word", "call"] ["log", "rooms"] (defScope sLwof) := ⟨rfl, rfl, rfl, by decide +kernel, rfl, by decide +kernel, by decide +kernel⟩
theorem ok_lwof {f : Addr} {fd : FuncData} (F : Fun K "_law_word_of" "_law_word_of" sLwof f fd) : FnOk P w K mg base CX0 1 f fd ["log", "rooms"] (spTopR K optW) := by
  refine F.ok scLwof (fun vs H Q E h => ?_) (fun cdv A outer s H vs Q E hr h => ?_)
  · obtain ⟨l, o, us, L, R, rfl, _⟩ := h
    rfl
  · obtain ⟨l, o, us, L, R, rfl, hl, lg, ho, q⟩ := h
    have ul : us.length = L.length := lg.len
    refine ⟨_, (pss_cons (ps_set (i := 2) scLwof.nd rfl (Or.inl rfl) pe_non)
      (pss_cons (ps_for PassesOwn.never rfl (pi_list (pv 0)) (pg_name (i := 3) scLwof.nd rfl (Or.inl rfl))
      (pss_one (ps_if (pt_cmpR op_in_seq (pe_ix ix_tup (pv 3) pe_int (fun _ _ => rfl)) (pv 1) (by rfl))
        (pss_one (ps_set (i := 2) scLwof.nd rfl (Or.inl rfl) (pe_ix ix_tup (pv 3) pe_int (fun _ _ => rfl))))
        pss_nil)))
      (pss_one (ps_ret (pv 2))))), ?_⟩
    walk_at "rd"
    obtain ⟨Pv, hPv⟩ : ∃ Pv : Nat → L2.St → Hp → Prop, Pv = (fun i σ H' => ∃ v3 : Option V, σ = [some (.ref l), some (.ref o), some (optW (lastIn R (L.take i))), v3] ∧ H' = H) := ⟨_, rfl⟩
    refine ⟨_, rfl, l, rfl, ⟨_, SqL.of hl⟩, for_list (K := K) (a := l) (xs := us) Pv (by rw [hPv]; exact ⟨none, rfl, rfl⟩) (fun i σ H' _ pv => by rw [hPv] at pv; obtain ⟨_, _, rfl⟩ := pv; exact SqL.of hl) (fun i v σ H' gv pv => ?_) (fun σ H' pv => ?_)⟩
    · have nxt : ∀ v3, Pv (i + 1) [some (.ref l), some (.ref o), some (optW (lastIn R (L.take (i + 1)))), v3] H := fun v3 => by
        rw [hPv]
        exact ⟨v3, rfl, rfl⟩
      rw [hPv] at pv
      obtain ⟨v3, rfl, rfl⟩ := pv
      obtain ⟨c, gc, tc, rfl, htc⟩ := pget lg gv
      rw [lastIn_step gc] at nxt
      walk_at "rd"
      refine ⟨_, SqT.of htc, .int c.1, rfl, o, _, rfl, ho, rfl, flat_ints _, ?_⟩
      rw [inV_ints]
      refine ⟨_, rfl, ?_⟩
      by_cases e : c.1 ∈ R
      · rw [decide_eq_true e]
        rw [if_pos e] at nxt
        exact iteT ⟨_, SqT.of htc, .str c.2, rfl, nxt _⟩
      · rw [decide_eq_false e]
        rw [if_neg e] at nxt
        exact iteF (nxt _)
    · rw [hPv] at pv
      obtain ⟨v3, rfl, rfl⟩ := pv
      rw [ul, List.take_length]
      walk_at "rd"
      exact q
theorem scLlast : FnScope ["log", "last", "k", "later", "call"] ["log"] (defScope sLlast) := ⟨rfl, rfl, rfl, by decide +kernel, rfl, by decide +kernel, by decide +kernel⟩
theorem ok_llast {f : Addr} {fd : FuncData} (F : Fun K "_law_last" "_law_last" sLlast f fd) (T : Bi mg) : FnOk P w K mg base CX0 1 f fd ["log"] spLast := by
  refine F.ok scLlast (fun vs H Q E h => ?_) (fun cdv A outer s H vs Q E hr h => ?_)
  · obtain ⟨l, us, L, rfl, _⟩ := h
    rfl
  · obtain ⟨l, us, L, rfl, hl, lg, ln, q⟩ := h
    have ul : us.length = L.length := lg.len
    refine ⟨_, (pss_cons (ps_set (i := 1) scLlast.nd rfl (Or.inl rfl) (pe_lst pa_nil))
      (pss_cons (ps_for PassesOwn.never rfl (pi_range1 (by rfl) T.range (pa_cons (pe_callB call_len_seq (by rfl) T.len (by decide +kernel) (pa_cons (pv 0) pa_nil)) pa_nil)) (pg_name (i := 2) scLlast.nd rfl (Or.inr rfl))
      (pss_cons (ps_setLc (i := 3) (own := [("call", 4)]) (tt := tTest (tOp (rI0 fun i j => .bl (decide (i = j))) (tOp (rIxT K) (tVar 4) (tC (.int 0))) (tOp (rIxT K) (tOp (rIxL K) (tVar 0) (tVar 2)) (tC (.int 0))))) (by rfl) scLlast.nd rfl rfl (sw_true rfl rfl rfl (by decide +kernel)) (pi_list (pe_slice sl_list (pv 0) (po_some (pe_op op_add (pv 2) pe_int)) po_none)) (blkOk_by (N := ["log", "last", "k", "later", "call"]) (sc := defScope sLlast) (by decide +kernel)) (fun _ _ _ _ _ => pg_name (i := 4) scLlast.nd rfl (Or.inl rfl)) (fun _ _ _ _ _ => (pts_one (pt_cmpR op_eqI (pe_ix ix_tup (pv 4) pe_int (fun _ _ => rfl)) (pe_ix ix_tup (pe_ix ix_list (pv 0) (pv 2) (fun _ _ => rfl)) pe_int (fun _ _ => rfl)) (nomark _)))) (fun _ _ _ _ _ => (pv 4)))
        (pss_one (ps_if (pt_cmpR op_eqI (pe_callB call_len_seq (by rfl) T.len (by decide +kernel) (pa_cons (pv 3) pa_nil)) pe_int (nomark _))
        (pss_one (ps_expr (pe_bm PySem.F.plainAttrs_list PySem.F.slot_list_append PySem.F.type_list_append mt_append (pv 1) (pa_cons (pe_ix ix_list (pv 0) (pv 2) (fun _ _ => rfl)) pa_nil))))
        pss_nil))))
      (pss_one (ps_ret (pv 1))))), ?_⟩
    walk_at "rd"
    refine ⟨by decide, fun b nb => ?_⟩
    obtain ⟨Pv, hPv⟩ : ∃ Pv : Nat → L2.St → Hp → Prop, Pv = (fun i σ H' => ∃ (ws : List V) (A : List Cl) (v2 v3 : Option V), σ = [some (.ref l), some (.ref b), v2, v3, none] ∧ Same H H' ∧ H' b = some (.lst ws) ∧ LG H' ws A ∧ A ++ lastF (L.drop i) = lastF L) := ⟨_, rfl⟩
    refine ⟨_, rfl, l, rfl, us, .inl (SqL.of (same_upd nb _ _ hl)), us.length, rfl, by omega, by omega, for_range (lo := 0) (n := ((us.length : Nat) : Int).toNat) Pv (by rw [hPv]; exact ⟨[], [], none, none, rfl, same_upd nb, upd_same, LG.nil0 _, rfl⟩) (fun i σ H' hi pv => ?_) (fun σ H' pv => ?_)⟩
    · have nxt : ∀ ws A v2 v3 H', Same H H' → H' b = some (.lst ws) → LG H' ws A → A ++ lastF (L.drop (i + 1)) = lastF L → Pv (i + 1) [some (.ref l), some (.ref b), v2, v3, none] H' := fun ws A v2 v3 H' h1 h2 h3 h4 => by
        rw [hPv]
        exact ⟨ws, A, v2, v3, rfl, h1, h2, h3, h4⟩
      rw [hPv] at pv
      obtain ⟨ws, A, v2, v3, rfl, sm, hb, lw, eA⟩ := pv
      have hiL : i < L.length := by omega
      obtain ⟨c, gc⟩ : ∃ c, L[i]? = some c := ⟨_, List.getElem?_eq_getElem hiL⟩
      obtain ⟨v, gv, tc, rfl, htc⟩ := pget2 lg gc
      have hl' := sm _ _ hl
      have ed : L.drop i = c :: L.drop (i + 1) := by
        rw [List.drop_eq_getElem_cons hiL]
        congr 1
        rw [List.getElem?_eq_getElem hiL] at gc
        exact Option.some.inj gc
      have wl : ws.length ≤ 1000 := by
        have e1 := congrArg List.length eA
        have e2 := lastF_len L
        rw [List.length_append] at e1
        rw [lw.len]
        omega
      walk_at "rd"
      refine ⟨_, rfl, _, rfl, 0 + (i : Int), 1, rfl, rfl, 0 + (i : Int) + 1, rfl, l, us, rfl, SqL.of hl', fun e ne => ?_⟩
      have ek : 0 + (i : Int) + 1 = ((i + 1 : Nat) : Int) := by omega
      rw [ek, cut_drop]
      have s2 := sm.trans (same_upd (o := HO.lst (us.drop (i + 1))) ne)
      have he : upd H' e (HO.lst (us.drop (i + 1))) e = some (.lst (us.drop (i + 1))) := upd_same
      have hb2 : upd H' e (HO.lst (us.drop (i + 1))) b = some (.lst ws) := same_upd ne _ _ hb
      have lw2 := lw.kt (KT.new (o := HO.lst (us.drop (i + 1))) ne)
      generalize upd H' e (HO.lst (us.drop (i + 1))) = H2 at s2 he hb2 lw2
      have hl2 := s2 _ _ hl
      have htc2 := s2 _ _ htc
      refine ⟨e, rfl, ⟨_, SqL.of he⟩, fun g ng => ?_⟩
      obtain ⟨Pw, hPw⟩ : ∃ Pw : Nat → Hp → Prop, Pw = (fun j Hx => ∃ zs, Same H2 Hx ∧ Hx g = some (.lst zs) ∧ zs.length = (((L.drop (i + 1)).take j).filter fun d => decide (d.1 = c.1)).length) := ⟨_, rfl⟩
      refine lc_list (K := K) (a := e) (xs := us.drop (i + 1)) Pw (by rw [hPw]; exact ⟨[], same_upd ng, upd_same, rfl⟩) (fun j Hx _ pv => by rw [hPw] at pv; obtain ⟨_, s3, _⟩ := pv; exact SqL.of (s3 _ _ he)) (fun j v Hx gv2 pv => ?_) (fun Hx pv => ?_)
      · have nxw : ∀ zs Hx, Same H2 Hx → Hx g = some (.lst zs) → zs.length = (((L.drop (i + 1)).take (j + 1)).filter fun d => decide (d.1 = c.1)).length → Pw (j + 1) Hx := fun zs Hx h1 h2 h3 => by
          rw [hPw]
          exact ⟨zs, h1, h2, h3⟩
        rw [hPw] at pv
        obtain ⟨zs, s3, hg, lz⟩ := pv
        rw [List.getElem?_drop] at gv2
        obtain ⟨d, gd, td, rfl, htd⟩ := pget lg gv2
        have gd2 : (L.drop (i + 1))[j]? = some d := by rw [List.getElem?_drop]; exact gd
        have s03 := s2.trans s3
        have zl : zs.length ≤ 1000 := by
          have e1 := List.length_filter_le (fun d : Cl => decide (d.1 = c.1)) ((L.drop (i + 1)).take j)
          rw [List.length_take, List.length_drop] at e1
          omega
        simp only [wipe]
        walk_at "rd"
        refine ⟨_, SqT.of (s03 _ _ htd), .int d.1, rfl, _, SqL.of (s03 _ _ hl), .ref tc, at_of (j := i) (by omega) gv, tc, rfl, _, SqT.of (s03 _ _ htc), .int c.1, rfl, d.1, rfl, c.1, rfl, ?_⟩
        by_cases ee : d.1 = c.1
        · rw [if_pos ee]
          refine ⟨zs, hg, len_big (by omega), nxw _ _ (same_ch s3 ng) upd_same ?_⟩
          rw [List.take_add_one, gd2, List.filter_append, List.length_append, List.length_append, lz]
          show _ = _ + (List.filter _ [d]).length
          rw [List.filter_cons_of_pos (by simp [ee])]
          rfl
        · rw [if_neg ee]
          refine nxw zs _ s3 hg ?_
          rw [List.take_add_one, gd2, List.filter_append, List.length_append, lz]
          show _ = _ + (List.filter _ [d]).length
          rw [List.filter_cons_of_neg (by simp [ee])]
          rfl
      · rw [hPw] at pv
        obtain ⟨zs, s3, hg, lz⟩ := pv
        have e1 : (us.drop (i + 1)).length = (L.drop (i + 1)).length := by rw [List.length_drop, List.length_drop, ul]
        rw [e1, List.take_length] at lz
        have s03 := s2.trans s3
        have hb3 := s3 _ _ hb2
        walk_at "rd"
        refine ⟨zs, .inl (SqL.of hg), ?_⟩
        by_cases hm : c.1 ∈ (L.drop (i + 1)).map (·.1)
        · have pos : ¬ ((zs.length : Nat) : Int) = 0 := by
            intro z
            have z2 : (((L.drop (i + 1)).filter fun d => decide (d.1 = c.1))) = [] := List.eq_nil_of_length_eq_zero (by omega)
            obtain ⟨d, hd, ed2⟩ := List.mem_map.mp hm
            have : d ∈ (L.drop (i + 1)).filter fun d => decide (d.1 = c.1) := List.mem_filter.mpr ⟨hd, by simp [ed2]⟩
            rw [z2] at this
            cases this
          rw [if_neg pos]
          refine nxt ws A _ _ _ s03 hb3 (lw2.kt (KT.same s3)) ?_
          rw [ed] at eA
          rw [← eA]
          show _ = A ++ (if c.1 ∈ (L.drop (i + 1)).map (·.1) then lastF (L.drop (i + 1)) else c :: lastF (L.drop (i + 1)))
          rw [if_pos hm]
        · have zero : ((zs.length : Nat) : Int) = 0 := by
            have z2 : (((L.drop (i + 1)).filter fun d => decide (d.1 = c.1))) = [] := List.filter_eq_nil_iff.mpr fun d hd z => hm (List.mem_map.mpr ⟨d, hd, by simpa using z⟩)
            rw [z2] at lz
            rw [lz]
            rfl
          rw [if_pos zero]
          refine ⟨.inl ⟨rfl, _, SqL.of hb3⟩, _, SqL.of (s03 _ _ hl), .ref tc, at_of (j := i) (by omega) gv, ?_⟩
          refine ⟨ws, hb3, len_big (by omega), nxt (ws ++ [.ref tc]) (A ++ [c]) _ _ _ (same_ch s03 nb) upd_same ?_ ?_⟩
          · exact LG.snoc ((lw2.kt (KT.same s3)).kt (KT.lst hb3)) (IsC.kt (d := c) ⟨tc, rfl, s03 _ _ htc⟩ (KT.lst hb3))
          · rw [ed] at eA
            rw [← eA]
            show _ = A ++ (if c.1 ∈ (L.drop (i + 1)).map (·.1) then lastF (L.drop (i + 1)) else c :: lastF (L.drop (i + 1)))
            rw [if_neg hm, List.append_assoc]
            rfl
    · rw [hPv] at pv
      obtain ⟨ws, A, v2, v3, rfl, sm, hb, lw, eA⟩ := pv
      have e1 : L.drop ((us.length : Nat) : Int).toNat = [] := List.drop_eq_nil_of_le (by omega)
      rw [e1] at eA
      have eA2 : A = lastF L := by rw [← eA]; exact (List.append_nil A).symm
      rw [eA2] at lw
      walk_at "rd"
      exact q ws b H' sm nb hb lw
theorem scSpell : FnScope ["numbers", "at", "letters", "rest", "word", "k"] ["numbers", "at"] (defScope sSpell) := ⟨rfl, rfl, rfl, by decide +kernel, rfl, by decide +kernel, by decide +kernel⟩
/-- a word: short, and its signs are signs -/
def wk (n : Nat) (z : Str) : Prop := z.length ≤ n ∧ PyData.strOk z = true
theorem wk.mono {n m : Nat} {z : Str} (h : wk n z) (l : n ≤ m) : wk m z := ⟨Nat.le_trans h.1 l, h.2⟩
theorem strOk_app {u v : Str} (h : PyData.strOk u = true) (k : PyData.strOk v = true) : PyData.strOk (u ++ v) = true := by
  show (u.cps ++ v.cps).all (· < 0x110000) = true
  rw [Array.all_append]
  show (PyData.strOk u && PyData.strOk v) = true
  rw [h, k]
  rfl
theorem wk_app {a b n : Nat} {u v : Str} (h : wk a u) (k : wk b v) (l : a + b ≤ n) : wk n (u ++ v) := ⟨by rw [Str.length_append]; have := h.1; have := k.1; omega, strOk_app h.2 k.2⟩
theorem wk_cut {n : Nat} {z : Str} (h : wk n z) (lo hi : Option Int) : wk n (cutS z lo hi) := by
  refine ⟨Nat.le_trans (cutS_length z lo hi) h.1, ?_⟩
  have h2 := h.2
  unfold PyData.strOk at h2 ⊢
  unfold cutS
  rw [Array.all_eq_true_iff_forall_mem] at h2 ⊢
  intro c hc
  refine h2 c ?_
  rw [Array.mem_def]
  simp only [List.mem_toArray] at hc
  exact List.mem_of_mem_drop (List.mem_of_mem_take hc)
theorem strOk_one {c : Nat} (h : c < 0x110000) : PyData.strOk (Str.mk #[c]) = true := by
  show (#[c] : Array Nat).all (· < 0x110000) = true
  simp [h]
def spSpell (K : PySem.W.Frag) : Sp := fun vs H Q _ => ∃ (a : Addr) (ns : List Int) (at_ : Nat), vs = [.ref a, .int at_] ∧ SqL K H a (ns.map V.int) ∧ at_ + 4 < ns.length ∧ ∀ z : Str, wk 8 z → Q (.str z) H
theorem letters_at {j : Nat} (h : j < 26) : ∃ c, atI (Str.ofString "abcdefghijklmnopqrstuvwxyz").cps.toList ((j : Nat) : Int) = some c ∧ c < 0x110000 := by
  have hl : (Str.ofString "abcdefghijklmnopqrstuvwxyz").cps.toList.length = 26 := by decide +kernel
  have ha : ((Str.ofString "abcdefghijklmnopqrstuvwxyz").cps.toList.all fun c => decide (c < 0x110000)) = true := by decide +kernel
  refine ⟨_, atI_nat (List.getElem?_eq_getElem (by rw [hl]; exact h)), ?_⟩
  exact of_decide_eq_true (List.all_eq_true.mp ha _ (List.getElem_mem _))
theorem ok_spell {f : Addr} {fd : FuncData} (F : Fun K "_law_spelled" "_law_spelled" sSpell f fd) (T : Bi mg) : FnOk P w K mg base CX0 1 f fd ["numbers", "at"] (spSpell K) := by
  refine F.ok scSpell (fun vs H Q E h => ?_) (fun cdv A outer s H vs Q E hr h => ?_)
  · obtain ⟨a, ns, at_, rfl, _⟩ := h
    rfl
  · obtain ⟨a, ns, at_, rfl, hS, hn, q⟩ := h
    have gn : ∀ (j : Nat) (hj : j < ns.length), (ns.map V.int)[j]? = some (.int ns[j]) := fun j hj => by
      rw [List.getElem?_map, List.getElem?_eq_getElem hj]
      rfl
    refine ⟨_, (pss_cons (ps_set (i := 2) scSpell.nd rfl (Or.inl rfl) pe_str)
      (pss_cons (ps_set (i := 3) scSpell.nd rfl (Or.inl rfl) (pe_op op_add (pe_callTy cr_intI (by rfl) T.int (by decide +kernel) (pa_cons (pe_ix ix_list (pv 0) (pe_op op_add (pv 1) pe_int) (fun _ _ => rfl)) pa_nil)) (pe_op op_mul pe_int (pe_callTy cr_intI (by rfl) T.int (by decide +kernel) (pa_cons (pe_ix ix_list (pv 0) (pe_op op_add (pv 1) pe_int) (fun _ _ => rfl)) pa_nil)))))
      (pss_cons (ps_set (i := 3) scSpell.nd rfl (Or.inl rfl) (pe_op op_add (pe_op op_add (pv 3) (pe_op op_mul (pe_op op_pow pe_int pe_int) (pe_callTy cr_intI (by rfl) T.int (by decide +kernel) (pa_cons (pe_ix ix_list (pv 0) (pe_op op_add (pv 1) pe_int) (fun _ _ => rfl)) pa_nil)))) (pe_op op_mul (pe_op op_pow pe_int pe_int) (pe_callTy cr_intI (by rfl) T.int (by decide +kernel) (pa_cons (pe_ix ix_list (pv 0) (pe_op op_add (pv 1) pe_int) (fun _ _ => rfl)) pa_nil)))))
      (pss_cons (ps_set (i := 4) scSpell.nd rfl (Or.inl rfl) pe_str)
      (pss_cons (ps_for PassesOwn.never rfl (pi_range1 (by rfl) T.range (pa_cons (pe_op op_add pe_int (pe_op op_mod (pe_callTy cr_intI (by rfl) T.int (by decide +kernel) (pa_cons (pe_ix ix_list (pv 0) (pv 1) (fun _ _ => rfl)) pa_nil)) pe_int)) pa_nil)) (pg_name (i := 5) scSpell.nd rfl (Or.inl rfl))
      (pss_cons (ps_set (i := 4) scSpell.nd rfl (Or.inl rfl) (pe_op op_add_str (pv 4) (pe_ix ix_str (pv 2) (pe_op op_mod (pe_callTy cr_intI (by rfl) T.int (by decide +kernel) (pa_cons (pv 3) pa_nil)) pe_int) (fun _ _ => rfl))))
        (pss_one (ps_set (i := 3) scSpell.nd rfl (Or.inl rfl) (pe_op op_fdiv (pv 3) pe_int)))))
      (pss_one (ps_ret (pv 4)))))))), ?_⟩
    walk_at "rd"
    have at4 : ∀ j : Nat, j ≤ 4 → ∃ x, (ns.map V.int)[at_ + j]? = some (.int x) := fun j hj => ⟨_, gn (at_ + j) (by omega)⟩
    obtain ⟨x0, g0⟩ := at4 0 (by omega)
    obtain ⟨x1, g1⟩ := at4 1 (by omega)
    obtain ⟨x2, g2⟩ := at4 2 (by omega)
    obtain ⟨x3, g3⟩ := at4 3 (by omega)
    obtain ⟨x4, g4⟩ := at4 4 (by omega)
    refine ⟨_, hS, .int x1, at_of (j := at_ + 1) (by omega) g1, x1, rfl, _, hS, .int x2, at_of (j := at_ + 2) (by omega) g2, x2, rfl, .inl (by decide), ⟨by decide, by decide, by decide⟩, _, hS, .int x3, at_of (j := at_ + 3) (by omega) g3, x3, rfl, .inl (by decide), ⟨by decide, by decide, by decide⟩, _, hS, .int x4, at_of (j := at_ + 4) (by omega) g4, x4, rfl, .inl (by decide), ?_⟩
    generalize x1 + 997 * x2 + 997 ^ Int.toNat 2 * x3 + 997 ^ Int.toNat 3 * x4 = rest0
    have m0 := Int.emod_nonneg x0 (show (8 : Int) ≠ 0 by decide)
    have m1 := Int.emod_lt_of_pos x0 (show (0 : Int) < 8 by decide)
    obtain ⟨Pv, hPv⟩ : ∃ Pv : Nat → L2.St → Hp → Prop, Pv = (fun i σ H' => ∃ (rest : Int) (z : Str) (v5 : Option V), σ = [some (.ref a), some (.int at_), some (.str (Str.ofString "abcdefghijklmnopqrstuvwxyz")), some (.int rest), some (.str z), v5] ∧ H' = H ∧ z.length = i ∧ PyData.strOk z = true) := ⟨_, rfl⟩
    refine for_iter ?_
    walk_at "rd"
    refine ⟨_, hS, .int x0, at_of (j := at_ + 0) (by omega) g0, x0, rfl, by decide, by omega, by omega, for_range (lo := 0) (n := (1 + x0 % 8).toNat) Pv (by rw [hPv]; exact ⟨rest0, _, none, rfl, rfl, by decide +kernel, by decide +kernel⟩) (fun i σ H' hi pv => ?_) (fun σ H' pv => ?_)⟩
    · have nxt : ∀ rest z v5, z.length = i + 1 → PyData.strOk z = true → Pv (i + 1) [some (.ref a), some (.int at_), some (.str (Str.ofString "abcdefghijklmnopqrstuvwxyz")), some (.int rest), some (.str z), v5] H := fun rest z v5 h h2 => by
        rw [hPv]
        exact ⟨rest, z, v5, rfl, rfl, h, h2⟩
      rw [hPv] at pv
      obtain ⟨rest, z, v5, rfl, rfl, lz, oz⟩ := pv
      have k0 := Int.emod_nonneg rest (show (26 : Int) ≠ 0 by decide)
      have k1 := Int.emod_lt_of_pos rest (show (0 : Int) < 26 by decide)
      obtain ⟨j, ej⟩ : ∃ j : Nat, rest % 26 = j := ⟨(rest % 26).toNat, by omega⟩
      obtain ⟨c, gc, c11⟩ := letters_at (j := j) (by omega)
      walk_at "rd"
      rw [ej]
      refine ⟨by decide, by decide +kernel, c, gc, ?_, ⟨by decide, by decide⟩, nxt _ _ _ ?_ (strOk_app oz (strOk_one c11))⟩
      · have e1 : (Str.mk #[c]).length = 1 := rfl
        rw [e1]
        exact Nat.le_of_lt (len_big (by omega))
      · rw [Str.length_append, lz]
        rfl
    · rw [hPv] at pv
      obtain ⟨rest, z, v5, rfl, rfl, lz, oz⟩ := pv
      walk_at "rd"
      exact q z ⟨by omega, oz⟩
end

section
variable {P : Program} {w : World} {K : PySem.W.Frag} {mg : Str → Option Value} {base : Heap}
theorem scPool : FnScope ["numbers", "at", "many", "pool", "k", "own", "way", "cut"] ["numbers", "at", "many"] (defScope sPool) := ⟨rfl, rfl, rfl, by decide +kernel, rfl, by decide +kernel, by decide +kernel⟩
def Texts (n : Nat) (Z : List Str) : Prop := Z.length = n ∧ ∀ z ∈ Z, wk 16 z
def spPool (K : PySem.W.Frag) : Sp := fun vs H Q _ => ∃ (a : Addr) (ns : List Int) (m : Nat), vs = [.ref a, .int 0, .int m] ∧ SqL K H a (ns.map V.int) ∧ 5 * m < ns.length ∧ 1 ≤ m ∧ m ≤ 100 ∧ ∀ Z p H', Texts m Z → Same H H' → H p = none → H' p = some (.lst (Z.map V.str)) → Q (.ref p) H'
theorem ok_pool {f fS : Addr} {fd fdS : FuncData} (F : Fun K "_law_pool" "_law_pool" sPool f fd) (T : Bi mg) (d__law_spelled : Df P w K mg base "_law_spelled" ["numbers", "at"] 1 (spSpell K) fS fdS) : FnOk P w K mg base CX0 2 f fd ["numbers", "at", "many"] (spPool K) := by
  refine F.ok scPool (fun vs H Q E h => ?_) (fun cdv A outer s H vs Q E hr h => ?_)
  · obtain ⟨a, ns, m, rfl, _⟩ := h
    rfl
  · obtain ⟨a, ns, m, rfl, hS, hn, m1, m100, q⟩ := h
    refine ⟨_, (pss_cons (ps_set (i := 3) scPool.nd rfl (Or.inl rfl) (pe_lst (pa_cons (pe_call d__law_spelled.ok (hr.mono (by decide)) (by rfl) d__law_spelled.at_ d__law_spelled.kp d__law_spelled.b .nil pass0 (pa_cons (pv 0) (pa_cons (pv 1) pa_nil))) pa_nil)))
      (pss_cons (ps_for PassesOwn.never rfl (pi_range2 (by rfl) T.range (pa_cons pe_int (pa_cons (pv 2) pa_nil))) (pg_name (i := 4) scPool.nd rfl (Or.inl rfl))
      (pss_cons (ps_set (i := 5) scPool.nd rfl (Or.inl rfl) (pe_call d__law_spelled.ok (hr.mono (by decide)) (by rfl) d__law_spelled.at_ d__law_spelled.kp d__law_spelled.b .nil pass0 (pa_cons (pv 0) (pa_cons (pe_op op_add (pv 1) (pe_op op_mul pe_int (pv 4))) pa_nil))))
        (pss_cons (ps_set (i := 6) scPool.nd rfl (Or.inl rfl) (pe_op op_fdiv (pe_callTy cr_intI (by rfl) T.int (by decide +kernel) (pa_cons (pe_ix ix_list (pv 0) (pe_op op_add (pv 1) (pe_op op_mul pe_int (pv 4))) (fun _ _ => rfl)) pa_nil)) pe_int))
        (pss_cons (ps_set (i := 7) scPool.nd rfl (Or.inl rfl) (pe_op op_mod (pe_callTy cr_intI (by rfl) T.int (by decide +kernel) (pa_cons (pe_op op_fdiv (pv 6) pe_int) pa_nil)) pe_int))
        (pss_cons (ps_if (pt_cmpR op_eqI (pe_op op_mod (pe_callTy cr_intI (by rfl) T.int (by decide +kernel) (pa_cons (pv 6) pa_nil)) pe_int) pe_int (nomark _))
        (pss_one (ps_set (i := 5) scPool.nd rfl (Or.inl rfl) (pe_op op_add_str (pe_slice sl_str (pe_ix ix_list (pv 3) pe_int (fun _ _ => rfl)) po_none (po_some (pv 7))) (pe_slice sl_str (pv 5) (po_some (pv 7)) po_none))))
        pss_nil)
        (pss_cons (ps_if (pt_cmpR op_eqI (pe_op op_mod (pe_callTy cr_intI (by rfl) T.int (by decide +kernel) (pa_cons (pv 6) pa_nil)) pe_int) pe_int (nomark _))
        (pss_one (ps_set (i := 5) scPool.nd rfl (Or.inl rfl) (pe_op op_add_str (pe_slice sl_str (pv 5) po_none (po_some (pv 7))) (pe_slice sl_str (pe_ix ix_list (pv 3) pe_int (fun _ _ => rfl)) (po_some (pv 7)) po_none))))
        pss_nil)
        (pss_one (ps_expr (pe_bm PySem.F.plainAttrs_list PySem.F.slot_list_append PySem.F.type_list_append mt_append (pv 3) (pa_cons (pv 5) pa_nil))))))))))
      (pss_one (ps_ret (pv 3))))), ?_⟩
    walk_at "rd"
    refine ⟨a, ns, 0, rfl, hS, by omega, fun z0 hz0 => ⟨by decide, fun p np => ?_⟩⟩
    refine for_iter ?_
    walk_at "rd"
    obtain ⟨Pv, hPv⟩ : ∃ Pv : Nat → L2.St → Hp → Prop, Pv = (fun i σ H' => ∃ (Z : List Str) (v4 v5 v6 v7 : Option V), σ = [some (.ref a), some (.int 0), some (.int m), some (.ref p), v4, v5, v6, v7] ∧ Same H H' ∧ H' p = some (.lst (Z.map V.str)) ∧ Texts (i + 1) Z ∧ Z[0]? = some z0) := ⟨_, rfl⟩
    refine ⟨by omega, by omega, by omega, by omega, for_range (lo := 1) (n := ((m : Int) - 1).toNat) Pv (by rw [hPv]; exact ⟨[z0], none, none, none, none, rfl, same_upd np, upd_same, ⟨rfl, fun z hz => by rw [List.mem_singleton.mp hz]; exact hz0.mono (by decide)⟩, rfl⟩) (fun i σ H' hi pv => ?_) (fun σ H' pv => ?_)⟩
    · have nxt : ∀ Z v4 v5 v6 v7 H', Same H H' → H' p = some (.lst (Z.map V.str)) → Texts (i + 1 + 1) Z → Z[0]? = some z0 → Pv (i + 1) [some (.ref a), some (.int 0), some (.int m), some (.ref p), v4, v5, v6, v7] H' := fun Z v4 v5 v6 v7 H' h1 h2 h3 h4 => by
        rw [hPv]
        exact ⟨Z, v4, v5, v6, v7, rfl, h1, h2, h3, h4⟩
      rw [hPv] at pv
      obtain ⟨Z, v4, v5, v6, v7, rfl, sm, hp, tx, gz⟩ := pv
      have hS' := sm.seq hS
      have gn : (ns.map V.int)[5 * (i + 1)]? = some (.int (ns[5 * (i + 1)]'(by omega))) := by
        rw [List.getElem?_map, List.getElem?_eq_getElem (by omega)]
        rfl
      generalize ns[5 * (i + 1)]'(by omega) = x at gn
      have gz2 : (Z.map V.str)[0]? = some (.str z0) := by rw [List.getElem?_map, gz]; rfl
      have fin : ∀ (y : Str) (v4 v5 v6 v7 : Option V), wk 16 y → Pv (i + 1) [some (.ref a), some (.int 0), some (.int m), some (.ref p), v4, v5, v6, v7] (upd H' p (HO.lst (Z.map V.str ++ [V.str y]))) := fun y v4 v5 v6 v7 hy => by
        refine nxt (Z ++ [y]) _ _ _ _ _ (same_ch sm np) (by rw [upd_same, List.map_append]; rfl) ⟨by rw [List.length_append, tx.1]; rfl, fun z hz => ?_⟩ ?_
        · rcases List.mem_append.mp hz with h | h
          · exact tx.2 z h
          · rw [List.mem_singleton.mp h]
            exact hy
        · rw [List.getElem?_append_left (by rw [tx.1]; omega)]
          exact gz
      have small : (Z.map V.str).length < sizeLine := len_big (by rw [List.length_map, tx.1]; omega)
      have ty : tyV K "list" (.ref p) H' := .inl ⟨rfl, _, SqL.of hp⟩
      walk_at "rd"
      refine ⟨.inl (by decide), a, ns, 5 * (i + 1), by rw [show (0 : Int) + 5 * (1 + (i : Int)) = ((5 * (i + 1) : Nat) : Int) by omega], hS', by omega, fun own ho => ?_⟩
      simp only [rSlS]
      walk_at "rd"
      have sl : ∀ z : Str, wk 8 z → ∀ lo hi, wk 8 (cutS z lo hi) := fun z hz lo hi => wk_cut hz lo hi
      have cat : ∀ u v : Str, wk 8 u → wk 8 v → wk 16 (u ++ v) := fun u v h1 h2 => wk_app h1 h2 (by decide)
      have big8 : ∀ z : Str, wk 8 z → z.length ≤ sizeLine := fun z hz => Nat.le_of_lt (len_big (by have := hz.1; omega))
      have big16 : ∀ u v : Str, wk 8 u → wk 8 v → u.length + v.length ≤ sizeLine := fun u v h1 h2 => Nat.le_of_lt (len_big (by have := h1.1; have := h2.1; omega))
      refine ⟨.inl (by decide), _, hS', .int x, at_of (j := 5 * (i + 1)) (by omega) gn, x, rfl, ⟨by decide, by decide⟩, ⟨by decide, by decide⟩, by decide, by decide, ?_⟩
      generalize x / 8 / 3 % 8 = cut
      refine ite2 (fun w1 => ?_) (fun w1 => ⟨by decide, ite2 (fun w2 => ?_) (fun w2 => ⟨ty, _, hp, small, fin own _ _ _ _ (ho.mono (by decide))⟩)⟩)
      · refine ⟨_, SqL.of hp, .str z0, at_of (j := 0) rfl gz2, z0, rfl, big8 z0 hz0, big8 own ho, big16 _ _ (sl _ hz0 _ _) (sl _ ho _ _), by decide, ?_⟩
        exact ite2 (fun w2 => absurd w2 (by omega)) (fun _ => ⟨ty, _, hp, small, fin _ _ _ _ _ (cat _ _ (sl _ hz0 _ _) (sl _ ho _ _))⟩)
      · exact ⟨big8 own ho, _, SqL.of hp, .str z0, at_of (j := 0) rfl gz2, z0, rfl, big8 z0 hz0, big16 _ _ (sl _ ho _ _) (sl _ hz0 _ _), ty, _, hp, small, fin _ _ _ _ _ (cat _ _ (sl _ ho _ _) (sl _ hz0 _ _))⟩
    · rw [hPv] at pv
      obtain ⟨Z, v4, v5, v6, v7, rfl, sm, hp, tx, gz⟩ := pv
      walk_at "rd"
      exact q Z p H' ⟨by rw [tx.1]; omega, tx.2⟩ sm np hp
theorem scSize : FnScope ["number", "few", "most"] ["number", "few", "most"] (defScope sSize) := ⟨rfl, rfl, rfl, by decide +kernel, rfl, by decide +kernel, by decide +kernel⟩
def spSize : Sp := fun vs H Q _ => ∃ (x f m : Int), vs = [.int x, .int f, .int m] ∧ 0 ≤ f ∧ f ≤ m ∧ ∀ n : Int, 0 ≤ n → n ≤ m → Q (.int n) H
theorem ok_size {f : Addr} {fd : FuncData} (F : Fun K "_law_size" "_law_size" sSize f fd) (T : Bi mg) : FnOk P w K mg base CX0 1 f fd ["number", "few", "most"] spSize := by
  refine F.ok scSize (fun vs H Q E h => ?_) (fun cdv A outer s H vs Q E hr h => ?_)
  · obtain ⟨x, f, m, rfl, _⟩ := h
    rfl
  · obtain ⟨x, f, m, rfl, h0, hm, q⟩ := h
    refine ⟨_, (pss_cons (ps_if (pt_cmpR op_ge (pe_callTy cr_intI (by rfl) T.int (by decide +kernel) (pa_cons (pv 0) pa_nil)) pe_int (nomark _))
      (pss_one (ps_ret (pe_op op_mod (pe_callTy cr_intI (by rfl) T.int (by decide +kernel) (pa_cons (pv 0) pa_nil)) (pe_op op_add (pv 2) pe_int))))
      pss_nil)
      (pss_one (ps_ret (pe_op op_mod (pe_callTy cr_intI (by rfl) T.int (by decide +kernel) (pa_cons (pv 0) pa_nil)) (pe_op op_add (pv 1) pe_int))))), ?_⟩
    walk_at "rd"
    have a1 := Int.emod_nonneg x (show m + 1 ≠ 0 by omega)
    have a2 := Int.emod_lt_of_pos x (show 0 < m + 1 by omega)
    have b1 := Int.emod_nonneg x (show f + 1 ≠ 0 by omega)
    have b2 := Int.emod_lt_of_pos x (show 0 < f + 1 by omega)
    exact ite2 (fun _ => ⟨by omega, q _ a1 (by omega)⟩) (fun _ => ⟨by omega, q _ b1 (by omega)⟩)
theorem scDrawn : FnScope ["numbers", "many", "rooms", "pool", "log", "k", "pick", "word"] ["numbers", "many", "rooms", "pool"] (defScope sDrawn) := ⟨rfl, rfl, rfl, by decide +kernel, rfl, by decide +kernel, by decide +kernel⟩
def spDrawn (K : PySem.W.Frag) : Sp := fun vs H Q _ => ∃ (a b : Addr) (ns : List Int) (m r : Nat) (Z : List Str), vs = [.ref a, .int m, .int r, .ref b] ∧ SqL K H a (ns.map V.int) ∧ 7 * m ≤ ns.length ∧ m ≤ 100 ∧ 1 ≤ r ∧ H b = some (.lst (Z.map V.str)) ∧ 1 ≤ Z.length ∧ Z.length ≤ 100 ∧ (∀ z ∈ Z, wk 16 z) ∧
  ∀ L ws p H', L.length = m → InR r L → (∀ c ∈ L, wk 16 c.2) → Same H H' → H p = none → H' p = some (.lst ws) → LG H' ws L → Q (.ref p) H'
theorem ok_drawn {f fS : Addr} {fd fdS : FuncData} (F : Fun K "_law_drawn" "_law_drawn" sDrawn f fd) (T : Bi mg) (d__law_spelled : Df P w K mg base "_law_spelled" ["numbers", "at"] 1 (spSpell K) fS fdS) : FnOk P w K mg base CX0 2 f fd ["numbers", "many", "rooms", "pool"] (spDrawn K) := by
  refine F.ok scDrawn (fun vs H Q E h => ?_) (fun cdv A outer s H vs Q E hr h => ?_)
  · obtain ⟨a, b, ns, m, r, Z, rfl, _⟩ := h
    rfl
  · obtain ⟨a, b, ns, m, r, Z, rfl, hS, hn, hm, r1, hb, z1, z100, zw, q⟩ := h
    refine ⟨_, (pss_cons (ps_set (i := 4) scDrawn.nd rfl (Or.inl rfl) (pe_lst pa_nil))
      (pss_cons (ps_for PassesOwn.never rfl (pi_range1 (by rfl) T.range (pa_cons (pv 1) pa_nil)) (pg_name (i := 5) scDrawn.nd rfl (Or.inl rfl))
      (pss_cons (ps_set (i := 6) scDrawn.nd rfl (Or.inl rfl) (pe_callTy cr_intI (by rfl) T.int (by decide +kernel) (pa_cons (pe_ix ix_list (pv 0) (pe_op op_add (pe_op op_mul pe_int (pv 5)) pe_int) (fun _ _ => rfl)) pa_nil)))
        (pss_cons (ps_set (i := 7) scDrawn.nd rfl (Or.inl rfl) (pe_ix ix_list (pv 3) (pe_op op_mod (pe_callTy cr_intI (by rfl) T.int (by decide +kernel) (pa_cons (pe_op op_fdiv (pv 6) pe_int) pa_nil)) (pe_callB call_len_seq (by rfl) T.len (by decide +kernel) (pa_cons (pv 3) pa_nil))) (fun _ _ => rfl)))
        (pss_cons (ps_if (pt_cmpR op_eqI (pe_op op_mod (pe_callTy cr_intI (by rfl) T.int (by decide +kernel) (pa_cons (pv 6) pa_nil)) pe_int) pe_int (nomark _))
        (pss_one (ps_set (i := 7) scDrawn.nd rfl (Or.inl rfl) (pe_call d__law_spelled.ok (hr.mono (by decide)) (by rfl) d__law_spelled.at_ d__law_spelled.kp d__law_spelled.b .nil pass0 (pa_cons (pv 0) (pa_cons (pe_op op_add (pe_op op_mul pe_int (pv 5)) pe_int) pa_nil)))))
        pss_nil)
        (pss_one (ps_expr (pe_bm PySem.F.plainAttrs_list PySem.F.slot_list_append PySem.F.type_list_append mt_append (pv 4) (pa_cons (pe_tup (pa_cons (pe_op op_mod (pe_callTy cr_intI (by rfl) T.int (by decide +kernel) (pa_cons (pe_ix ix_list (pv 0) (pe_op op_mul pe_int (pv 5)) (fun _ _ => rfl)) pa_nil)) (pv 2)) (pa_cons (pv 7) pa_nil))) pa_nil))))))))
      (pss_one (ps_ret (pv 4))))), ?_⟩
    walk_at "rd"
    refine ⟨by decide, fun p np => ?_⟩
    refine for_iter ?_
    walk_at "rd"
    obtain ⟨Pv, hPv⟩ : ∃ Pv : Nat → L2.St → Hp → Prop, Pv = (fun i σ H' => ∃ (ws : List V) (L : List Cl) (v5 v6 v7 : Option V), σ = [some (.ref a), some (.int m), some (.int r), some (.ref b), some (.ref p), v5, v6, v7] ∧ Same H H' ∧ H' p = some (.lst ws) ∧ LG H' ws L ∧ L.length = i ∧ InR r L ∧ ∀ c ∈ L, wk 16 c.2) := ⟨_, rfl⟩
    refine ⟨by omega, by omega, for_range (lo := 0) (n := (m : Int).toNat) Pv (by rw [hPv]; exact ⟨[], [], none, none, none, rfl, same_upd np, upd_same, LG.nil0 _, rfl, (fun c hc => by cases hc), fun c hc => by cases hc⟩) (fun i σ H' hi pv => ?_) (fun σ H' pv => ?_)⟩
    · have nxt : ∀ ws L v5 v6 v7 H', Same H H' → H' p = some (.lst ws) → LG H' ws L → L.length = i + 1 → InR r L → (∀ c ∈ L, wk 16 c.2) → Pv (i + 1) [some (.ref a), some (.int m), some (.int r), some (.ref b), some (.ref p), v5, v6, v7] H' := fun ws L v5 v6 v7 H' h1 h2 h3 h4 h5 h6 => by
        rw [hPv]
        exact ⟨ws, L, v5, v6, v7, rfl, h1, h2, h3, h4, h5, h6⟩
      rw [hPv] at pv
      obtain ⟨ws, L, v5, v6, v7, rfl, sm, hp, lw, lL, inr, wks⟩ := pv
      have hS' := sm.seq hS
      have gn : ∀ (j : Nat) (hj : j < ns.length), (ns.map V.int)[j]? = some (.int ns[j]) := fun j hj => by
        rw [List.getElem?_map, List.getElem?_eq_getElem hj]
        rfl
      have g1 := gn (7 * i + 1) (by omega)
      have g0 := gn (7 * i) (by omega)
      generalize ns[7 * i + 1]'(by omega) = x1 at g1
      generalize ns[7 * i]'(by omega) = x0 at g0
      have wl : ws.length ≤ 100 := by rw [lw.len]; omega
      have ty : tyV K "list" (.ref p) H' := .inl ⟨rfl, _, SqL.of hp⟩
      have r0 := Int.emod_nonneg x0 (show (r : Int) ≠ 0 by omega)
      have r2 := Int.emod_lt_of_pos x0 (show (0 : Int) < r by omega)
      have fin : ∀ (y : Str) (v5 v6 v7 : Option V) (t : Addr), wk 16 y → H' t = none → ∃ acc, upd H' t (HO.tup [V.int (x0 % r), V.str y]) p = some (HO.lst acc) ∧ acc.length < sizeLine ∧ Pv (i + 1) [some (.ref a), some (.int m), some (.int r), some (.ref b), some (.ref p), v5, v6, v7] (upd (upd H' t (HO.tup [V.int (x0 % r), V.str y])) p (HO.lst (acc ++ [V.ref t]))) := fun y v5 v6 v7 t wy nt => by
        have npt : p ≠ t := ne_of_none hp nt
        refine ⟨ws, by rw [upd_ne npt]; exact hp, len_big (by omega), nxt (ws ++ [.ref t]) (L ++ [(x0 % r, y)]) _ _ _ _ (same_ch (sm.trans (same_upd nt)) np) upd_same ?_ (by rw [List.length_append, lL]; rfl) (fun c hc => ?_) (fun c hc => ?_)⟩
        · refine LG.snoc ((lw.kt (KT.new nt)).kt (KT.lst (by rw [upd_ne npt]; exact hp))) ⟨t, rfl, ?_⟩
          rw [upd_ne npt.symm, upd_same]
        · rcases List.mem_append.mp hc with h | h
          · exact inr c h
          · rw [List.mem_singleton.mp h]
            exact ⟨r0, r2⟩
        · rcases List.mem_append.mp hc with h | h
          · exact wks c h
          · rw [List.mem_singleton.mp h]
            exact wy
      walk_at "rd"
      refine ⟨.inl (by decide), _, hS', .int x1, at_of (j := 7 * i + 1) (by omega) g1, x1, rfl, ⟨by decide, by decide⟩, _, .inl (SqL.of (sm _ _ hb)), ?_⟩
      have zl : (Z.map V.str).length = Z.length := List.length_map _
      have p0 := Int.emod_nonneg (x1 / 8) (show ((Z.map V.str).length : Int) ≠ 0 by omega)
      have p1 := Int.emod_lt_of_pos (x1 / 8) (show (0 : Int) < ((Z.map V.str).length : Int) by omega)
      obtain ⟨j, ej⟩ : ∃ j : Nat, x1 / 8 % ((Z.map V.str).length : Int) = j := ⟨(x1 / 8 % ((Z.map V.str).length : Int)).toNat, by omega⟩
      rw [ej] at p1
      obtain ⟨z, gz, zk⟩ : ∃ z, (Z.map V.str)[j]? = some (.str z) ∧ wk 16 z := ⟨Z[j]'(by omega), by rw [List.getElem?_map, List.getElem?_eq_getElem (by omega)]; rfl, zw _ (List.getElem_mem _)⟩
      refine ⟨by omega, _, SqL.of (sm _ _ hb), .str z, by rw [ej]; exact atI_nat gz, by decide, ite2 (fun _ => ?_) (fun _ => ?_)⟩
      · refine ⟨.inl (by decide), a, ns, 7 * i + 2, by rw [show (7 : Int) * (0 + (i : Int)) + 2 = ((7 * i + 2 : Nat) : Int) by omega], hS', by omega, fun own ho => ?_⟩
        walk_at "rd"
        exact ⟨ty, .inl (by decide), _, hS', .int x0, at_of (j := 7 * i) (by omega) g0, x0, rfl, by omega, (by show 2 ≤ sizeLine; decide), fun t nt => fin own _ _ _ t (ho.mono (by decide)) nt⟩
      · exact ⟨ty, .inl (by decide), _, hS', .int x0, at_of (j := 7 * i) (by omega) g0, x0, rfl, by omega, (by show 2 ≤ sizeLine; decide), fun t nt => fin z _ _ _ t zk nt⟩
    · rw [hPv] at pv
      obtain ⟨ws, L, v5, v6, v7, rfl, sm, hp, lw, lL, inr, wks⟩ := pv
      walk_at "rd"
      exact q L ws p H' (by omega) inr wks sm np hp lw
end

abbrev sSetR : Stmt := topS 29
theorem flat_optR (o : Option Cl) : flat4 (optR o) = true := by cases o <;> rfl
theorem flat_optW (o : Option Cl) : flat4 (optW o) = true := by cases o <;> rfl
theorem same_ok {n : Nat} {H : Hp} {x y : V} {Q : VK} {E : XK} (h : Sm H n x y) (q : Q (.bl true) H) : spSame n [x, y] H Q E := ⟨x, y, rfl, h, q⟩
theorem paired_flat {H : Hp} {n : Nat} {us : List V} (h : ∀ x ∈ us, flat4 x = true) : Paired (Sm H n) us us := by
  induction us with
  | nil => exact Paired.nil
  | cons a l ih => exact Paired.cons (Sm.flat (h a List.mem_cons_self)) (ih fun x hx => h x (List.mem_cons_of_mem _ hx))
theorem sm_flats {H : Hp} {x y : Addr} {us : List V} (hx : H x = some (.lst us)) (hy : H y = some (.lst us)) (h : ∀ x ∈ us, flat4 x = true) (hl : us.length ≤ 100000) (n : Nat) : Sm H (n + 1) (.ref x) (.ref y) :=
  .inr ⟨x, y, _, _, rfl, rfl, .inl ⟨hx, hy⟩, paired_flat h, hl⟩
theorem sm_flatsT {H : Hp} {x y : Addr} {us : List V} (hx : H x = some (.tup us)) (hy : H y = some (.tup us)) (h : ∀ x ∈ us, flat4 x = true) (hl : us.length ≤ 100000) (n : Nat) : Sm H (n + 1) (.ref x) (.ref y) :=
  .inr ⟨x, y, _, _, rfl, rfl, .inr ⟨hx, hy⟩, paired_flat h, hl⟩
theorem flat_intsV (l : List Int) : ∀ x ∈ l.map V.int, flat4 x = true := fun x hx => by
  obtain ⟨i, _, rfl⟩ := List.mem_map.mp hx
  rfl
theorem sm_call {H : Hp} {u v : V} {d : Cl} (hu : IsC H u d) (hv : IsC H v d) (n : Nat) : Sm H (n + 1) u v := by
  obtain ⟨t, rfl, e1⟩ := hu
  obtain ⟨t', rfl, e2⟩ := hv
  exact .inr ⟨t, t', _, _, rfl, rfl, .inr ⟨e1, e2⟩, Paired.cons (Sm.flat rfl) (Paired.cons (Sm.flat rfl) Paired.nil), by show 2 ≤ 100000; decide⟩
theorem sm_logs {H : Hp} {x y : Addr} {us vs : List V} {D : List Cl} (hx : H x = some (.lst us)) (hy : H y = some (.lst vs)) (pu : LG H us D) (pv : LG H vs D) (hl : D.length ≤ 100000) (n : Nat) : Sm H (n + 2) (.ref x) (.ref y) := by
  refine .inr ⟨x, y, _, _, rfl, rfl, .inl ⟨hx, hy⟩, ?_, by rw [pu.len]; exact hl⟩
  clear hx hy hl
  induction pu generalizing vs with
  | nil => cases pv; exact Paired.nil
  | cons r _ ih => cases pv with | cons r2 t2 => exact Paired.cons (sm_call r r2 n) (ih t2)
section
variable {P : Program} {w : World} {K : PySem.W.Frag} {mg : Str → Option Value} {base : Heap}
theorem scChosen : FnScope ["numbers", "rooms", "least", "room"] ["numbers", "rooms"] (defScope sChosen) := ⟨rfl, rfl, rfl, by decide +kernel, rfl, by decide +kernel, by decide +kernel⟩
/-- ints from 0 on below r, at most r of them -/
def Some_ (r : Nat) (R : List Int) : Prop := R.length ≤ r ∧ ∀ x ∈ R, 0 ≤ x ∧ x < r
def spChosen (K : PySem.W.Frag) : Sp := fun vs H Q _ => ∃ (a : Addr) (ns : List Int) (r : Nat), vs = [.ref a, .int r] ∧ SqL K H a (ns.map V.int) ∧ 13 + r ≤ ns.length ∧ 1 ≤ r ∧ r ≤ 12 ∧
  ∀ R p H', Some_ r R → Same H H' → H p = none → H' p = some (.lst (R.map V.int)) → Q (.ref p) H'
theorem ok_chosen {f fN : Addr} {fd fdN : FuncData} (F : Fun K "_law_chosen" "_law_chosen" sChosen f fd) (T : Bi mg) (d__law_names : Df P w K mg base "_law_names" ["numbers", "at", "rooms"] 1 (spNam K) fN fdN) : FnOk P w K mg base CX0 2 f fd ["numbers", "rooms"] (spChosen K) := by
  refine F.ok scChosen (fun vs H Q E h => ?_) (fun cdv A outer s H vs Q E hr h => ?_)
  · obtain ⟨a, ns, r, rfl, _⟩ := h
    rfl
  · obtain ⟨a, ns, r, rfl, hS, hn, r1, r12, q⟩ := h
    refine ⟨_, (pss_cons (ps_set (i := 2) scChosen.nd rfl (Or.inr rfl) (pe_ix ix_list (pe_lst (pa_cons pe_int (pa_cons pe_int (pa_cons pe_int (pa_cons pe_int (pa_cons pe_int (pa_cons pe_int (pa_cons pe_int (pa_cons pe_int (pa_cons pe_int pa_nil)))))))))) (pe_op op_mod (pe_callTy cr_intI (by rfl) T.int (by decide +kernel) (pa_cons (pe_ix ix_list (pv 0) pe_int (fun _ _ => rfl)) pa_nil)) pe_int) (fun _ _ => rfl)))
      (pss_one (ps_ret (pe_lc (own := [("room", 3)]) (te := tVar 3) (tt := tTest (tOp (rI0 fun i j => .bl (decide (j ≤ i))) (tOp (rI (fun x j => 0 < j) fun i j => V.int (i % j)) (tCB (fun xs H Q => ∃ i, xs = [.int i] ∧ Q (.int i) H) (tCons (tOp (rIxL K) (tVar 0) (tOp (rI0 fun i j => V.int (i + j)) (tC (.int 13)) (tVar 3))) tNil)) (tC (.int 4))) (tVar 2))) (by rfl) scChosen.nd (pi_list (pe_call d__law_names.ok (hr.mono (by decide)) (by rfl) d__law_names.at_ d__law_names.kp d__law_names.b .nil pass0 (pa_cons (pv 0) (pa_cons pe_int (pa_cons (pv 1) pa_nil))))) (blkOk_by (N := ["numbers", "rooms", "least", "room"]) (sc := defScope sChosen) (by decide +kernel)) (fun _ _ _ _ _ => pg_name (i := 3) scChosen.nd rfl (Or.inl rfl)) (fun _ _ _ _ _ => (pts_one (pt_cmpR op_ge (pe_op op_mod (pe_callTy cr_intI (by rfl) T.int (by decide +kernel) (pa_cons (pe_ix ix_list (pv 0) (pe_op op_add pe_int (pv 3)) (fun _ _ => rfl)) pa_nil)) pe_int) (pv 2) (nomark _)))) (fun _ _ _ _ _ => (pv 3)))))), ?_⟩
    walk_at "rd"
    refine ⟨by decide, fun e ne => ?_⟩
    have s0 : Same H (upd H e (HO.lst [V.int 4, V.int 3, V.int 3, V.int 2, V.int 2, V.int 2, V.int 1, V.int 1, V.int 0])) := same_upd ne
    have he : upd H e (HO.lst [V.int 4, V.int 3, V.int 3, V.int 2, V.int 2, V.int 2, V.int 1, V.int 1, V.int 0]) e = some (.lst [V.int 4, V.int 3, V.int 3, V.int 2, V.int 2, V.int 2, V.int 1, V.int 1, V.int 0]) := upd_same
    generalize upd H e (HO.lst [V.int 4, V.int 3, V.int 3, V.int 2, V.int 2, V.int 2, V.int 1, V.int 1, V.int 0]) = H0 at s0 he
    have gn : ∀ j : Nat, j < ns.length → ∃ x, (ns.map V.int)[j]? = some (.int x) := fun j hj => ⟨ns[j], by rw [List.getElem?_map, List.getElem?_eq_getElem hj]; rfl⟩
    obtain ⟨x0, g0⟩ := gn 0 (by omega)
    obtain ⟨j0, ej⟩ : ∃ j : Nat, x0 % 9 = j := ⟨(x0 % 9).toNat, by omega⟩
    obtain ⟨z, gz⟩ : ∃ z : Int, [V.int 4, V.int 3, V.int 3, V.int 2, V.int 2, V.int 2, V.int 1, V.int 1, V.int 0][j0]? = some (.int z) := by
      have : j0 = 0 ∨ j0 = 1 ∨ j0 = 2 ∨ j0 = 3 ∨ j0 = 4 ∨ j0 = 5 ∨ j0 = 6 ∨ j0 = 7 ∨ j0 = 8 := by omega
      rcases this with rfl | rfl | rfl | rfl | rfl | rfl | rfl | rfl | rfl <;> exact ⟨_, rfl⟩
    refine ⟨_, s0.seq hS, .int x0, at_of (j := 0) rfl g0, x0, rfl, by decide, _, SqL.of he, .int z, at_of ej gz, ?_⟩
    refine ⟨_, rfl, _, rfl, a, ns, 1, r, rfl, s0.seq hS, by omega, by omega, fun xs n H1 pm s1 nn hn1 => ?_⟩
    have xr : ∀ x ∈ xs, 0 ≤ x ∧ x < r := fun x hx => by
      have m := pm.mem_iff.mp hx
      unfold rg at m
      obtain ⟨k, hk, rfl⟩ := List.mem_map.mp m
      have h1 := List.mem_range.mp hk
      exact ⟨Int.natCast_nonneg k, Int.ofNat_lt.mpr h1⟩
    have xl : xs.length = r := by rw [pm.length_eq, rg_len]
    have s01 := s0.trans s1
    refine ⟨n, rfl, ⟨_, SqL.of hn1⟩, fun c nc => ?_⟩
    obtain ⟨Pv, hPv⟩ : ∃ Pv : Nat → Hp → Prop, Pv = (fun j Hx => ∃ R : List Int, Same H1 Hx ∧ Hx c = some (.lst (R.map V.int)) ∧ R.length ≤ j ∧ ∀ x ∈ R, 0 ≤ x ∧ x < r) := ⟨_, rfl⟩
    refine lc_list (K := K) (a := n) (xs := xs.map V.int) Pv (by rw [hPv]; exact ⟨[], same_upd nc, upd_same, Nat.le_refl _, fun x hx => by cases hx⟩) (fun j Hx _ pv => by rw [hPv] at pv; obtain ⟨_, s3, _⟩ := pv; exact SqL.of (s3 _ _ hn1)) (fun j v Hx gv pv => ?_) (fun Hx pv => ?_)
    · have nxt : ∀ (R : List Int) Hx, Same H1 Hx → Hx c = some (.lst (R.map V.int)) → R.length ≤ j + 1 → (∀ x ∈ R, 0 ≤ x ∧ x < r) → Pv (j + 1) Hx := fun R Hx h1 h2 h3 h4 => by
        rw [hPv]
        exact ⟨R, h1, h2, h3, h4⟩
      rw [hPv] at pv
      obtain ⟨R, s3, hc, rl, rr⟩ := pv
      rw [List.getElem?_map] at gv
      cases gd : xs[j]? with
      | none => rw [gd] at gv; cases gv
      | some x =>
        rw [gd] at gv
        have ev := Option.some.inj gv
        subst ev
        have hx := xr x (List.mem_of_getElem? gd)
        have hj : j < xs.length := (List.getElem?_eq_some_iff.mp gd).1
        obtain ⟨y, gy⟩ := gn (13 + x.toNat) (by omega)
        simp only [wipe]
        walk_at "rd"
        refine ⟨_, (s01.trans s3).seq hS, .int y, at_of (j := 13 + x.toNat) (by omega) gy, y, rfl, by decide, ite2 (fun _ => ?_) (fun _ => nxt R Hx s3 hc (by omega) rr)⟩
        refine ⟨_, hc, len_big (by rw [List.length_map]; omega), nxt (R ++ [x]) _ (same_ch s3 nc) (by rw [upd_same, List.map_append]; rfl) (by rw [List.length_append]; exact Nat.succ_le_succ rl) fun w hw => ?_⟩
        rcases List.mem_append.mp hw with h | h
        · exact rr w h
        · rw [List.mem_singleton.mp h]
          exact hx
    · rw [hPv] at pv
      obtain ⟨R, s3, hc, rl, rr⟩ := pv
      rw [List.length_map, xl] at rl
      exact q R c Hx ⟨rl, rr⟩ (s01.trans s3) (s01.free nc) hc
theorem scSetR : FnScope ["log", "rooms", "top", "word", "asked"] ["log", "rooms"] (defScope sSetR) := ⟨rfl, rfl, rfl, by decide +kernel, rfl, by decide +kernel, by decide +kernel⟩
def spSetR : Sp := fun vs H Q _ => ∃ (l o : Addr) (us : List V) (L : List Cl) (R : List Int), vs = [.ref l, .ref o] ∧ H l = some (.lst us) ∧ LG H us L ∧ H o = some (.lst (R.map V.int)) ∧ R.length ≤ 1000 ∧ ∀ H', Same H H' → Q (.bl true) H'
theorem ok_setR {f f1 f2 f3 f4 f5 : Addr} {fd fd1 fd2 fd3 fd4 fd5 : FuncData} (F : Fun K "_law_set_right" "_law_set_right" sSetR f fd) (T : Bi mg) (d__law_top : Df P w K mg base "_law_top" ["log", "rooms"] 1 (spTopR K optR) f1 fd1) (d__law_word_of : Df P w K mg base "_law_word_of" ["log", "rooms"] 1 (spTopR K optW) f2 fd2)
    (d_top_room : Df P w K mg base "top_room" ["log", "rooms"] 2 (spTopR K optR) f3 fd3) (d_word_of : Df P w K mg base "word_of" ["log", "rooms"] 2 (spTopR K optW) f4 fd4) (d__law_same : Df P w K mg base "_law_same" ["got", "due"] 3 (spSame 2) f5 fd5) : FnOk P w K mg base CX0 4 f fd ["log", "rooms"] spSetR := by
  refine F.ok scSetR (fun vs H Q E h => ?_) (fun cdv A outer s H vs Q E hr h => ?_)
  · obtain ⟨l, o, us, L, R, rfl, _⟩ := h
    rfl
  · obtain ⟨l, o, us, L, R, rfl, hl, lg, ho, hR, q⟩ := h
    refine ⟨_, (pss_cons (ps_set (i := 2) scSetR.nd rfl (Or.inl rfl) (pe_call d__law_top.ok (hr.mono (by decide)) (by rfl) d__law_top.at_ d__law_top.kp d__law_top.b .nil pass0 (pa_cons (pv 0) (pa_cons (pv 1) pa_nil))))
      (pss_cons (ps_set (i := 3) scSetR.nd rfl (Or.inl rfl) (pe_call d__law_word_of.ok (hr.mono (by decide)) (by rfl) d__law_word_of.at_ d__law_word_of.kp d__law_word_of.b .nil pass0 (pa_cons (pv 0) (pa_cons (pv 1) pa_nil))))
      (pss_cons (ps_for PassesOwn.never rfl (pi_list (pe_lst (pa_cons (pe_callTy call_list_of (by rfl) T.list (by decide +kernel) (pa_cons (pv 1) pa_nil)) (pa_cons (pe_callTy call_tuple_of (by rfl) T.tuple (by decide +kernel) (pa_cons (pv 1) pa_nil)) pa_nil)))) (pg_name (i := 4) scSetR.nd rfl (Or.inl rfl))
      (pss_cons (ps_if (PW.pt (pw_or (pt_not (pt_val (pe_call d__law_same.ok (hr.mono (by decide)) (by rfl) d__law_same.at_ d__law_same.kp d__law_same.b .nil pass0 (pa_cons (pe_call d_top_room.ok (hr.mono (by decide)) (by rfl) d_top_room.at_ d_top_room.kp d_top_room.b .nil pass0 (pa_cons (pv 0) (pa_cons (pv 4) pa_nil))) (pa_cons (pv 2) pa_nil))))) (pw_or1 (pt_not (pt_val (pe_call d__law_same.ok (hr.mono (by decide)) (by rfl) d__law_same.at_ d__law_same.kp d__law_same.b .nil pass0 (pa_cons (pe_call d_word_of.ok (hr.mono (by decide)) (by rfl) d_word_of.at_ d_word_of.kp d_word_of.b .nil pass0 (pa_cons (pv 0) (pa_cons (pv 4) pa_nil))) (pa_cons (pv 3) pa_nil))))))))
        (pss_one (ps_ret pe_bl))
        pss_nil)
        (pss_one (ps_if (pt_not (pt_val (pe_call d__law_same.ok (hr.mono (by decide)) (by rfl) d__law_same.at_ d__law_same.kp d__law_same.b .nil pass0 (pa_cons (pe_callTy call_list_of (by rfl) T.list (by decide +kernel) (pa_cons (pv 4) pa_nil)) (pa_cons (pe_callTy call_list_of (by rfl) T.list (by decide +kernel) (pa_cons (pv 1) pa_nil)) pa_nil)))))
        (pss_one (ps_ret pe_bl))
        pss_nil))))
      (pss_one (ps_ret pe_bl))))), ?_⟩
    walk_at "rd"
    refine ⟨l, o, us, L, R, rfl, hl, lg, .inl (SqL.of ho), l, o, us, L, R, rfl, hl, lg, .inl (SqL.of ho), ?_⟩
    refine for_iter ?_
    walk_at "rd"
    refine ⟨_, .inl (SqL.of ho), fun o1 n1 => ⟨R.map V.int, .inl ⟨SqL.of (same_upd n1 _ _ ho), fun o2 n2 => ⟨by show 2 ≤ sizeLine; decide, fun p np => ⟨⟨_, SqL.of upd_same⟩, ?_⟩⟩⟩⟩⟩
    have s1 : Same H (upd (upd (upd H o1 (HO.lst (R.map V.int))) o2 (HO.tup (R.map V.int))) p (HO.lst [V.ref o1, V.ref o2])) := ((same_upd n1).trans (same_upd n2)).trans (same_upd np)
    have h1 : upd (upd (upd H o1 (HO.lst (R.map V.int))) o2 (HO.tup (R.map V.int))) p (HO.lst [V.ref o1, V.ref o2]) o1 = some (.lst (R.map V.int)) := same_upd np _ _ (same_upd n2 _ _ upd_same)
    have h2 : upd (upd (upd H o1 (HO.lst (R.map V.int))) o2 (HO.tup (R.map V.int))) p (HO.lst [V.ref o1, V.ref o2]) o2 = some (.tup (R.map V.int)) := same_upd np _ _ upd_same
    have hp : upd (upd (upd H o1 (HO.lst (R.map V.int))) o2 (HO.tup (R.map V.int))) p (HO.lst [V.ref o1, V.ref o2]) p = some (.lst [V.ref o1, V.ref o2]) := upd_same
    generalize upd (upd (upd H o1 (HO.lst (R.map V.int))) o2 (HO.tup (R.map V.int))) p (HO.lst [V.ref o1, V.ref o2]) = H1 at s1 h1 h2 hp
    obtain ⟨Pv, hPv⟩ : ∃ Pv : Nat → L2.St → Hp → Prop, Pv = (fun i σ H' => ∃ v4 : Option V, σ = [some (.ref l), some (.ref o), some (optR (lastIn R L)), some (optW (lastIn R L)), v4] ∧ Same H1 H') := ⟨_, rfl⟩
    refine for_list (K := K) (a := p) (xs := [V.ref o1, V.ref o2]) Pv (by rw [hPv]; exact ⟨none, rfl, Same.refl _⟩) (fun i σ H' _ pv => by rw [hPv] at pv; obtain ⟨_, _, s2⟩ := pv; exact SqL.of (s2 _ _ hp)) (fun i v σ H' gv pv => ?_) (fun σ H' pv => ?_)
    · have nxt : ∀ v4 H', Same H1 H' → Pv (i + 1) [some (.ref l), some (.ref o), some (optR (lastIn R L)), some (optW (lastIn R L)), v4] H' := fun v4 H' h1 => by
        rw [hPv]
        exact ⟨v4, rfl, h1⟩
      rw [hPv] at pv
      obtain ⟨v4, rfl, s2⟩ := pv
      obtain ⟨z, rfl, hz⟩ : ∃ z, v = .ref z ∧ (SqL K H' z (R.map V.int) ∨ SqT K H' z (R.map V.int)) := by
        cases i with
        | zero => exact ⟨o1, (Option.some.inj gv).symm, .inl (SqL.of (s2 _ _ h1))⟩
        | succ i =>
          cases i with
          | zero => exact ⟨o2, (Option.some.inj gv).symm, .inr (SqT.of (s2 _ _ h2))⟩
          | succ i => cases gv
      have s12 := s1.trans s2
      have hl2 := s12 _ _ hl
      have lg2 := lg.kt (KT.same s12)
      walk_at "rd"
      refine ⟨l, z, us, L, R, rfl, hl2, lg2, hz, same_ok (Sm.flat (flat_optR _)) ?_⟩
      refine ⟨true, rfl, iteF ⟨l, z, us, L, R, rfl, hl2, lg2, hz, same_ok (Sm.flat (flat_optW _)) ⟨true, rfl, iteF ?_⟩⟩⟩
      refine ⟨_, hz, fun a1 f1 => ⟨_, .inl (SqL.of (same_upd f1 _ _ (s12 _ _ ho))), fun a2 f2 => ?_⟩⟩
      refine same_ok (sm_flats (us := R.map V.int) (same_upd f2 _ _ upd_same) upd_same (flat_intsV R) (by rw [List.length_map]; omega) 1) ⟨true, rfl, iteF ?_⟩
      exact nxt _ _ ((s2.trans (same_upd f1)).trans (same_upd f2))
    · rw [hPv] at pv
      obtain ⟨v4, rfl, s2⟩ := pv
      walk_at "rd"
      exact q _ (s1.trans s2)
end

theorem HouseAt.keep {C : Addr} {H H' : Hp} {p : Addr} {r : Nat} {D : List Pr} {own : List Addr} (h : HouseAt C H p r D own) (k : ∀ b o, b ∈ own → H b = some o → H' b = some o) (kt : KT H H') : HouseAt C H' p r D own := by
  obtain ⟨dx, l, m, ls, ns, h1, h2, h3, h4, h5, h6, rfl⟩ := h.ex
  refine ⟨⟨dx, l, m, ls, ns, k _ _ List.mem_cons_self h1, k _ _ (by simp) h2, h3.kt kt, k _ _ (by simp) h4, h5, fun i n g => k _ _ (by have := List.mem_of_getElem? g; simp [this]) (h6 i n g), rfl⟩, h.ok, h.r1, h.r12⟩
theorem HouseAt.same {C : Addr} {H H' : Hp} {p : Addr} {r : Nat} {D : List Pr} {own : List Addr} (h : HouseAt C H p r D own) (s : Same H H') : HouseAt C H' p r D own := h.keep (fun b o _ e => s b o e) (KT.same s)
abbrev sLogR : Stmt := topS 30
def wf (W : List V) (c : Cl) : List V := W.set c.1.toNat (.str c.2)
theorem fold_len (L : List Cl) : ∀ W : List V, (L.foldl wf W).length = W.length := by
  induction L with
  | nil => intro W; rfl
  | cons c L ih =>
    intro W
    show (L.foldl wf (wf W c)).length = _
    rw [ih]
    exact List.length_set
theorem fold_other (i : Int) (hi : 0 ≤ i) : ∀ (L : List Cl) (W : List V), (∀ c ∈ L, 0 ≤ c.1) → i ∉ L.map (·.1) → (L.foldl wf W)[i.toNat]? = W[i.toNat]?
  | [], _, _, _ => rfl
  | c :: L, W, h, hn => by
    have e := fold_other i hi L (wf W c) (fun d hd => h d (List.mem_cons_of_mem _ hd)) (fun z => hn (List.mem_cons_of_mem _ z))
    have h0 := h c List.mem_cons_self
    have ne : c.1 ≠ i := fun z => hn (by rw [← z]; exact List.mem_cons_self)
    show (L.foldl wf (wf W c))[i.toNat]? = _
    rw [e]
    unfold wf
    exact List.getElem?_set_ne (by omega)
theorem fold_last : ∀ (L : List Cl) (W : List V), (∀ c ∈ L, 0 ≤ c.1 ∧ c.1 < W.length) → ∀ c ∈ lastF L, (L.foldl wf W)[c.1.toNat]? = some (.str c.2)
  | [], _, _, _, hc => by cases hc
  | d :: L, W, h, c, hc => by
    have h2 : ∀ c ∈ L, 0 ≤ c.1 ∧ c.1 < (wf W d).length := fun c hc => by
      have := h c (List.mem_cons_of_mem _ hc)
      unfold wf
      rw [List.length_set]
      exact this
    show (L.foldl wf (wf W d))[c.1.toNat]? = _
    by_cases m : d.1 ∈ L.map (·.1)
    · have e : lastF (d :: L) = lastF L := if_pos m
      rw [e] at hc
      exact fold_last L (wf W d) h2 c hc
    · have e : lastF (d :: L) = d :: lastF L := if_neg m
      rw [e] at hc
      rcases List.mem_cons.mp hc with z | z
      · subst z
        have h0 := h c List.mem_cons_self
        rw [fold_other c.1 h0.1 L _ (fun d hd => (h2 d hd).1) m]
        unfold wf
        exact List.getElem?_set_self (by omega)
      · exact fold_last L (wf W d) h2 c z
def Kd (v : V) : Prop := v = .non ∨ ∃ z, v = .str z
theorem fold_kind : ∀ (L : List Cl) (W : List V), (∀ v ∈ W, Kd v) → ∀ v ∈ L.foldl wf W, Kd v
  | [], _, h, v, hv => h v hv
  | c :: L, W, h, v, hv => fold_kind L (wf W c) (fun u hu => by
      unfold wf at hu
      rcases List.mem_or_eq_of_mem_set hu with m | e
      · exact h u m
      · exact .inr ⟨_, e⟩) v hv
theorem words_kind (r : Nat) (L : List Cl) : ∀ v ∈ wordsF r L, Kd v := fold_kind L _ fun v hv => .inl (List.eq_of_mem_replicate hv)
theorem words_flat (r : Nat) (L : List Cl) : ∀ v ∈ wordsF r L, flat4 v = true := fun v hv => by
  rcases words_kind r L v hv with rfl | ⟨z, rfl⟩ <;> rfl
theorem words_last {r : Nat} {L : List Cl} (h : InR r L) : ∀ c ∈ lastF L, 0 ≤ c.1 ∧ (wordsF r L)[c.1.toNat]? = some (.str c.2) := fun c hc => by
  have sub : ∀ L : List Cl, ∀ c ∈ lastF L, c ∈ L := by
    intro L
    induction L with
    | nil => intro c hc; cases hc
    | cons d L ih =>
      intro c hc
      by_cases m : d.1 ∈ L.map (·.1)
      · have e : lastF (d :: L) = lastF L := if_pos m
        rw [e] at hc
        exact List.mem_cons_of_mem _ (ih c hc)
      · have e : lastF (d :: L) = d :: lastF L := if_neg m
        rw [e] at hc
        rcases List.mem_cons.mp hc with z | z
        · rw [z]; exact List.mem_cons_self
        · exact List.mem_cons_of_mem _ (ih c z)
  refine ⟨(h c (sub L c hc)).1, fold_last L (List.replicate r .non) (fun d hd => ?_) c hc⟩
  rw [List.length_replicate]
  exact h d hd
theorem lastF_sub : ∀ L : List Cl, ∀ c ∈ lastF L, c ∈ L := by
  intro L
  induction L with
  | nil => intro c hc; cases hc
  | cons d L ih =>
    intro c hc
    by_cases m : d.1 ∈ L.map (·.1)
    · have e : lastF (d :: L) = lastF L := if_pos m
      rw [e] at hc
      exact List.mem_cons_of_mem _ (ih c hc)
    · have e : lastF (d :: L) = d :: lastF L := if_neg m
      rw [e] at hc
      rcases List.mem_cons.mp hc with z | z
      · rw [z]; exact List.mem_cons_self
      · exact List.mem_cons_of_mem _ (ih c z)
/-- the rooms of the list that keep a word, with it -/
def keptS (x : Int) : Option V → Option Cl
  | some (V.str z) => some (x, z)
  | _ => none
def calledF (W : List V) (R : List Int) : List Cl := R.filterMap fun x => keptS x (W[x.toNat]?)
theorem calledF_mem {W : List V} {R : List Int} (h : ∀ x ∈ R, 0 ≤ x) : ∀ c ∈ calledF W R, 0 ≤ c.1 ∧ W[c.1.toNat]? = some (.str c.2) := fun c hc => by
  unfold calledF at hc
  obtain ⟨x, hx, e⟩ := List.mem_filterMap.mp hc
  have h0 := h x hx
  cases g : W[x.toNat]? with
  | none => rw [g] at e; cases e
  | some v =>
    rw [g] at e
    cases v <;> first | (cases e; done) | skip
    have e2 := Option.some.inj e
    subst e2
    exact ⟨h0, g⟩
theorem calledF_len (W : List V) (R : List Int) : (calledF W R).length ≤ R.length := List.length_filterMap_le _ _
theorem calledF_none {W : List V} {R : List Int} {j : Nat} {x : Int} (g : R[j]? = some x) (w : W[x.toNat]? = some .non) : calledF W (R.take (j + 1)) = calledF W (R.take j) := by
  rw [List.take_add_one, g]
  unfold calledF
  rw [List.filterMap_append]
  show _ ++ List.filterMap _ [x] = _
  rw [List.filterMap_cons_none (by rw [w]; rfl)]
  exact List.append_nil _
theorem calledF_some {W : List V} {R : List Int} {j : Nat} {x : Int} {z : Str} (g : R[j]? = some x) (w : W[x.toNat]? = some (.str z)) : calledF W (R.take (j + 1)) = calledF W (R.take j) ++ [(x, z)] := by
  rw [List.take_add_one, g]
  unfold calledF
  rw [List.filterMap_append]
  congr 1
  show List.filterMap _ [x] = _
  rw [List.filterMap_cons_some (by rw [w]; rfl)]
  rfl
section
variable {P : Program} {w : World} {K : PySem.W.Frag} {mg : Str → Option Value} {base : Heap}
theorem scLogR : FnScope ["house", "rooms", "log", "chosen", "handed", "last", "room", "words", "word", "turn", "heard", "told", "called", "due", "listed", "call"] ["house", "rooms", "log", "chosen"] (defScope sLogR) := ⟨rfl, rfl, rfl, by decide +kernel, rfl, by decide +kernel, by decide +kernel⟩
def spLogR (C : Addr) : Sp := fun vs H Q _ => ∃ (p l o : Addr) (r : Nat) (us : List V) (L : List Cl) (R : List Int) (D : List Pr) (own : List Addr), vs = [.ref p, .int r, .ref l, .ref o] ∧ HouseAt C H p r D own ∧ H l = some (.lst us) ∧ LG H us L ∧ InR r L ∧ L.length ≤ 1000 ∧ H o = some (.lst (R.map V.int)) ∧ Some_ r R ∧ ∀ H', Same H H' → Q (.bl true) H'
theorem ok_logR {f C f1 f2 f3 f4 f5 f6 f7 : Addr} {fd fd1 fd2 fd3 fd4 fd5 fd6 fd7 : FuncData} (F : Fun K "_law_log_right" "_law_log_right" sLogR f fd) (T : Bi mg) (d__law_last : Df P w K mg base "_law_last" ["log"] 1 spLast f1 fd1) (d_last_calls : Df P w K mg base "last_calls" ["log"] 1 spLast f2 fd2)
    (d_order_of : Df P w K mg base "order_of" ["log"] 2 spOrd f3 fd3) (d_words_of : Df P w K mg base "words_of" ["house", "log"] 1 (spWds C) f4 fd4) (d_log_of : Df P w K mg base "log_of" ["words", "order"] 1 (spLof K) f5 fd5) (d__law_set_right : Df P w K mg base "_law_set_right" ["log", "rooms"] 4 spSetR f6 fd6)
    (d__law_same : Df P w K mg base "_law_same" ["got", "due"] 3 (spSame 2) f7 fd7) : FnOk P w K mg base CX0 5 f fd ["house", "rooms", "log", "chosen"] (spLogR C) := by
  refine F.ok scLogR (fun vs H Q E h => ?_) (fun cdv A outer s H vs Q E hr h => ?_)
  · obtain ⟨p, l, o, r, us, L, R, D, own, rfl, _⟩ := h
    rfl
  · obtain ⟨p, l, o, r, us, L, R, D, own, rfl, hh, hl, lg, inr, ln, ho, ⟨Rl, Rr⟩, q⟩ := h
    refine ⟨_, (pss_cons (ps_set (i := 4) scLogR.nd rfl (Or.inl rfl) (pe_callTy call_list_of (by rfl) T.list (by decide +kernel) (pa_cons (pv 2) pa_nil)))
      (pss_cons (ps_set (i := 5) scLogR.nd rfl (Or.inl rfl) (pe_call d__law_last.ok (hr.mono (by decide)) (by rfl) d__law_last.at_ d__law_last.kp d__law_last.b .nil pass0 (pa_cons (pv 2) pa_nil)))
      (pss_cons (ps_set (i := 7) scLogR.nd rfl (Or.inr rfl) (pe_lc (own := [("room", 6)]) (by rfl) scLogR.nd (pi_range1 (by rfl) T.range (pa_cons (pv 1) pa_nil)) (blkOk_by (N := ["house", "rooms", "log", "chosen", "handed", "last", "room", "words", "word", "turn", "heard", "told", "called", "due", "listed", "call"]) (sc := defScope sLogR) (by decide +kernel)) (fun _ _ _ _ _ => pg_name (i := 6) scLogR.nd rfl (Or.inl rfl)) (fun _ _ _ _ _ => pts_nil) (fun _ _ _ _ _ => pe_non)))
      (pss_cons (ps_for PassesOwn.never rfl (pi_list (pv 2)) (pg_tup rfl (pgs_cons (pg_name (i := 6) scLogR.nd rfl (Or.inl rfl)) (pgs_cons (pg_name (i := 8) scLogR.nd rfl (Or.inl rfl)) pgs_nil)))
      (pss_one (ps_asg (pv 8) (pg_sub (pv 7) (pv 6) set_list))))
      (pss_cons (ps_if (PW.pt (pw_or (pt_not (pt_val (pe_call d__law_same.ok (hr.mono (by decide)) (by rfl) d__law_same.at_ d__law_same.kp d__law_same.b .nil pass0 (pa_cons (pe_call d_last_calls.ok (hr.mono (by decide)) (by rfl) d_last_calls.at_ d_last_calls.kp d_last_calls.b .nil pass0 (pa_cons (pv 4) pa_nil)) (pa_cons (pv 5) pa_nil))))) (pw_or1 (pt_not (pt_val (pe_call d__law_same.ok (hr.mono (by decide)) (by rfl) d__law_same.at_ d__law_same.kp d__law_same.b .nil pass0 (pa_cons (pe_call d_order_of.ok (hr.mono (by decide)) (by rfl) d_order_of.at_ d_order_of.kp d_order_of.b .nil pass0 (pa_cons (pv 4) pa_nil)) (pa_cons (pe_callTy call_tuple_of (by rfl) T.tuple (by decide +kernel) (pa_cons (pe_lc (own := [("call", 15)]) (te := tOp (rIxT K) (tVar 15) (tC (.int 0))) (by rfl) scLogR.nd (pi_list (pv 5)) (blkOk_by (N := ["house", "rooms", "log", "chosen", "handed", "last", "room", "words", "word", "turn", "heard", "told", "called", "due", "listed", "call"]) (sc := defScope sLogR) (by decide +kernel)) (fun _ _ _ _ _ => pg_name (i := 15) scLogR.nd rfl (Or.inl rfl)) (fun _ _ _ _ _ => pts_nil) (fun _ _ _ _ _ => (pe_ix ix_tup (pv 15) pe_int (fun _ _ => rfl)))) pa_nil)) pa_nil))))))))
      (pss_one (ps_ret pe_bl))
      pss_nil)
      (pss_cons (ps_for PassesOwn.never rfl (pi_range1 (by rfl) T.range (pa_cons pe_int pa_nil)) (pg_name (i := 9) scLogR.nd rfl (Or.inl rfl))
      (pss_cons (ps_set (i := 10) scLogR.nd rfl (Or.inl rfl) (pe_call d_words_of.ok (hr.mono (by decide)) (by rfl) d_words_of.at_ d_words_of.kp d_words_of.b .nil pass0 (pa_cons (pv 0) (pa_cons (pv 4) pa_nil))))
        (pss_cons (ps_if (pt_not (pt_val (pe_call d__law_same.ok (hr.mono (by decide)) (by rfl) d__law_same.at_ d__law_same.kp d__law_same.b .nil pass0 (pa_cons (pv 10) (pa_cons (pv 7) pa_nil)))))
        (pss_one (ps_ret pe_bl))
        pss_nil)
        (pss_one (ps_expr (pe_bm PySem.F.plainAttrs_list PySem.F.slot_list_append PySem.F.type_list_append mt_append (pv 10) (pa_cons pe_str pa_nil)))))))
      (pss_cons (ps_if (PW.pt (pw_or (pt_not (pt_val (pe_call d__law_set_right.ok (hr.mono (by decide)) (by rfl) d__law_set_right.at_ d__law_set_right.kp d__law_set_right.b .nil pass0 (pa_cons (pv 4) (pa_cons (pv 3) pa_nil))))) (pw_or1 (pt_not (pt_val (pe_call d__law_set_right.ok (hr.mono (by decide)) (by rfl) d__law_set_right.at_ d__law_set_right.kp d__law_set_right.b .nil pass0 (pa_cons (pv 4) (pa_cons (pe_lst pa_nil) pa_nil))))))))
      (pss_one (ps_ret pe_bl))
      pss_nil)
      (pss_cons (ps_for PassesOwn.never rfl (pi_range1 (by rfl) T.range (pa_cons (pv 1) pa_nil)) (pg_name (i := 6) scLogR.nd rfl (Or.inl rfl))
      (pss_one (ps_if (pt_not (pt_val (pe_call d__law_set_right.ok (hr.mono (by decide)) (by rfl) d__law_set_right.at_ d__law_set_right.kp d__law_set_right.b .nil pass0 (pa_cons (pv 4) (pa_cons (pe_lst (pa_cons (pv 6) pa_nil)) pa_nil)))))
        (pss_one (ps_ret pe_bl))
        pss_nil)))
      (pss_cons (ps_if (pt_not (pt_val (pe_call d__law_same.ok (hr.mono (by decide)) (by rfl) d__law_same.at_ d__law_same.kp d__law_same.b .nil pass0 (pa_cons (pe_call d_log_of.ok (hr.mono (by decide)) (by rfl) d_log_of.at_ d_log_of.kp d_log_of.b .nil pass0 (pa_cons (pe_call d_words_of.ok (hr.mono (by decide)) (by rfl) d_words_of.at_ d_words_of.kp d_words_of.b .nil pass0 (pa_cons (pv 0) (pa_cons (pv 4) pa_nil))) (pa_cons (pe_call d_order_of.ok (hr.mono (by decide)) (by rfl) d_order_of.at_ d_order_of.kp d_order_of.b .nil pass0 (pa_cons (pv 4) pa_nil)) pa_nil))) (pa_cons (pv 5) pa_nil)))))
      (pss_one (ps_ret pe_bl))
      pss_nil)
      (pss_cons (ps_set (i := 11) scLogR.nd rfl (Or.inl rfl) (pe_call d_last_calls.ok (hr.mono (by decide)) (by rfl) d_last_calls.at_ d_last_calls.kp d_last_calls.b .nil pass0 (pa_cons (pv 4) pa_nil)))
      (pss_cons (ps_expr (pe_bm PySem.F.plainAttrs_list PySem.F.slot_list_append PySem.F.type_list_append mt_append (pv 11) (pa_cons (pe_tup (pa_cons pe_int (pa_cons pe_str pa_nil))) pa_nil)))
      (pss_cons (ps_setLc (i := 12) (own := [("room", 6)]) (te := tVar 6) (tt := tTest (tOp (fun x y H Q => y = .non ∧ Q (.bl (!decide (x = .non))) H) (tOp (rIxL K) (tVar 7) (tVar 6)) (tC .non))) (by rfl) scLogR.nd rfl rfl (sw_true rfl rfl rfl (by decide +kernel)) (pi_list (pv 3)) (blkOk_by (N := ["house", "rooms", "log", "chosen", "handed", "last", "room", "words", "word", "turn", "heard", "told", "called", "due", "listed", "call"]) (sc := defScope sLogR) (by decide +kernel)) (fun _ _ _ _ _ => pg_name (i := 6) scLogR.nd rfl (Or.inl rfl)) (fun _ _ _ _ _ => (pts_one (pt_cmpR op_notN (pe_ix ix_list (pv 7) (pv 6) (fun _ _ => rfl)) pe_non (nomark _)))) (fun _ _ _ _ _ => (pv 6)))
      (pss_cons (ps_setLc (i := 13) (own := [("room", 6)]) (te := tTup (tCons (tVar 6) (tCons (tOp (rIxL K) (tVar 7) (tVar 6)) tNil))) (by rfl) scLogR.nd rfl rfl (sw_true rfl rfl rfl (by decide +kernel)) (pi_list (pv 12)) (blkOk_by (N := ["house", "rooms", "log", "chosen", "handed", "last", "room", "words", "word", "turn", "heard", "told", "called", "due", "listed", "call"]) (sc := defScope sLogR) (by decide +kernel)) (fun _ _ _ _ _ => pg_name (i := 6) scLogR.nd rfl (Or.inl rfl)) (fun _ _ _ _ _ => pts_nil) (fun _ _ _ _ _ => (pe_tup (pa_cons (pv 6) (pa_cons (pe_ix ix_list (pv 7) (pv 6) (fun _ _ => rfl)) pa_nil)))))
      (pss_cons (ps_set (i := 14) scLogR.nd rfl (Or.inl rfl) (pe_callTy call_list_of (by rfl) T.list (by decide +kernel) (pa_cons (pv 7) pa_nil)))
      (pss_cons (ps_if (PW.pt (pw_or (pt_not (pt_val (pe_call d__law_same.ok (hr.mono (by decide)) (by rfl) d__law_same.at_ d__law_same.kp d__law_same.b .nil pass0 (pa_cons (pe_call d_log_of.ok (hr.mono (by decide)) (by rfl) d_log_of.at_ d_log_of.kp d_log_of.b .nil pass0 (pa_cons (pv 14) (pa_cons (pe_callTy call_tuple_of (by rfl) T.tuple (by decide +kernel) (pa_cons (pv 12) pa_nil)) pa_nil))) (pa_cons (pv 13) pa_nil))))) (pw_or1 (pt_not (pt_val (pe_call d__law_same.ok (hr.mono (by decide)) (by rfl) d__law_same.at_ d__law_same.kp d__law_same.b .nil pass0 (pa_cons (pe_call d_last_calls.ok (hr.mono (by decide)) (by rfl) d_last_calls.at_ d_last_calls.kp d_last_calls.b .nil pass0 (pa_cons (pv 4) pa_nil)) (pa_cons (pv 5) pa_nil))))))))
      (pss_one (ps_ret pe_bl))
      pss_nil)
      (pss_one (ps_ret (pe_and (pe_call d__law_same.ok (hr.mono (by decide)) (by rfl) d__law_same.at_ d__law_same.kp d__law_same.b .nil pass0 (pa_cons (pv 14) (pa_cons (pv 7) pa_nil))) (pe_one (pe_call d__law_same.ok (hr.mono (by decide)) (by rfl) d__law_same.at_ d__law_same.kp d__law_same.b .nil pass0 (pa_cons (pv 4) (pa_cons (pv 2) pa_nil)))))))))))))))))))))), ?_⟩
    walk_at "rd"
    refine ⟨us, .inl (SqL.of hl), fun h nh => ?_⟩
    have s0 : Same H (upd H h (HO.lst us)) := same_upd nh
    have hhh : upd H h (HO.lst us) h = some (.lst us) := upd_same
    generalize upd H h (HO.lst us) = H0 at s0 hhh
    refine ⟨l, us, L, rfl, s0 _ _ hl, lg.kt (KT.same s0), ln, fun ws la H1 s1 nla hla lw => ?_⟩
    have s01 := s0.trans s1
    have hh1 := s1 _ _ hhh
    have hla1 := hla
    have r12 := hh.r12
    refine ⟨_, rfl, r, rfl, by omega, by omega, fun c nc => ?_⟩
    obtain ⟨Pv, hPv⟩ : ∃ Pv : Nat → Hp → Prop, Pv = (fun j Hx => Same H1 Hx ∧ Hx c = some (.lst (List.replicate j V.non))) := ⟨_, rfl⟩
    refine lc_range (lo := 0) (n := (r : Int).toNat) Pv (by rw [hPv]; exact ⟨same_upd nc, upd_same⟩) (fun j Hx hj pv => ?_) (fun Hx pv => ?_)
    · have nxt : ∀ Hx, Same H1 Hx → Hx c = some (.lst (List.replicate (j + 1) V.non)) → Pv (j + 1) Hx := fun Hx h1 h2 => by
        rw [hPv]
        exact ⟨h1, h2⟩
      rw [hPv] at pv
      obtain ⟨s2, hc⟩ := pv
      simp only [wipe]
      walk_at "rd"
      refine ⟨_, hc, len_big (by rw [List.length_replicate]; omega), nxt _ (same_ch s2 nc) ?_⟩
      rw [upd_same, List.replicate_succ']
    rw [hPv] at pv
    obtain ⟨s2, hc⟩ := pv
    clear hPv Pv
    rw [Int.toNat_natCast] at hc
    have s02 := s01.trans s2
    have hl2 := s02 _ _ hl
    have fc : H1 c = none := nc
    walk_at "rd"
    refine for_iter ?_
    walk_at "rd"
    obtain ⟨Pv, hPv⟩ : ∃ Pv : Nat → L2.St → Hp → Prop, Pv = (fun i σ H' => ∃ v6 v8 : Option V, σ = [some (.ref p), some (.int r), some (.ref l), some (.ref o), some (.ref h), some (.ref la), v6, some (.ref c), v8, none, none, none, none, none, none, none] ∧ Same H1 H' ∧ H' c = some (.lst (wordsF r (L.take i)))) := ⟨_, rfl⟩
    refine ⟨⟨_, SqL.of hl2⟩, for_list (K := K) (a := l) (xs := us) Pv (by rw [hPv]; exact ⟨none, none, rfl, s2, hc⟩) (fun i σ H' _ pv => by rw [hPv] at pv; obtain ⟨_, _, _, sm, _⟩ := pv; exact SqL.of (sm _ _ (s01 _ _ hl))) (fun i v σ H' gv pv => ?_) (fun σ H' pv => ?_)⟩
    · have nxt : ∀ v6 v8 H', Same H1 H' → H' c = some (.lst (wordsF r (L.take (i + 1)))) → Pv (i + 1) [some (.ref p), some (.int r), some (.ref l), some (.ref o), some (.ref h), some (.ref la), v6, some (.ref c), v8, none, none, none, none, none, none, none] H' := fun v6 v8 H' h1 h2 => by
        rw [hPv]
        exact ⟨v6, v8, rfl, h1, h2⟩
      rw [hPv] at pv
      obtain ⟨v6, v8, rfl, sm, ht⟩ := pv
      obtain ⟨d, gc, tc, rfl, htc⟩ := pget lg gv
      have rc := inr d (List.mem_of_getElem? gc)
      walk_at "rd"
      refine ⟨_, SqT.of (sm _ _ (s01 _ _ htc)), rfl, _, _, rfl, _, _, rfl, rfl, ?_⟩
      walk_at "rd"
      refine ⟨_, ht, d.1.toNat, ixn (by omega) (by rw [wordsF_len]; omega), nxt _ _ _ (same_ch sm fc) ?_⟩
      rw [upd_same, wordsF_step gc]
    rw [hPv] at pv
    obtain ⟨v6, v8, rfl, sm, hc3⟩ := pv
    clear hPv Pv hc s2 s02 hl2
    rw [lg.len, List.take_length] at hc3
    have s3 := s01.trans sm
    have hh3 := hh.same s3
    have h3 := sm _ _ hh1
    have hl3 := s3 _ _ hl
    have ho3 := s3 _ _ ho
    have lg3 := lg.kt (KT.same s3)
    have hla3 := sm _ _ hla
    have lw3 := lw.kt (KT.same sm)
    have ll : (lastF L).length ≤ 1000 := Nat.le_trans (lastF_len L) ln
    have ll5 : (lastF L).length ≤ 100000 := by omega
    have wr : (wordsF r L).length ≤ 100000 := by rw [wordsF_len]; omega
    clear sm s1 hhh s0 nh nc fc hh1 hla1 hla lw s01
    rename Hp => H3
    walk_at "rd"
    refine ⟨h, us, L, rfl, h3, lg3, ln, fun ws2 p2 H4 s4 np2 hp2 lw2 => same_ok (sm_logs hp2 (s4 _ _ hla3) lw2 (lw3.kt (KT.same s4)) ll5 0) ⟨true, rfl, iteF ?_⟩⟩
    refine ⟨h, us, L, rfl, s4 _ _ h3, lg3.kt (KT.same s4), ln, fun p3 H5 s5 np3 hp3 => ?_⟩
    walk_at "rd"
    have s35 := s4.trans s5
    have hla5 := s35 _ _ hla3
    have lw5 := lw3.kt (KT.same s35)
    have wsl : ws.length ≤ 1000 := by rw [lw3.len]; exact ll
    refine ⟨_, rfl, la, rfl, ⟨_, SqL.of hla5⟩, fun g ng => ?_⟩
    obtain ⟨Pv, hPv⟩ : ∃ Pv : Nat → Hp → Prop, Pv = (fun j Hx => Same H5 Hx ∧ Hx g = some (.lst (((lastF L).take j).map fun c => V.int c.1))) := ⟨_, rfl⟩
    refine lc_list (K := K) (a := la) (xs := ws) Pv (by rw [hPv]; exact ⟨same_upd ng, upd_same⟩) (fun j Hx _ pv => by rw [hPv] at pv; exact SqL.of (pv.1 _ _ hla5)) (fun j v Hx gv pv => ?_) (fun Hx pv => ?_)
    · have nxt : ∀ Hx, Same H5 Hx → Hx g = some (.lst (((lastF L).take (j + 1)).map fun c => V.int c.1)) → Pv (j + 1) Hx := fun Hx h1 h2 => by
        rw [hPv]
        exact ⟨h1, h2⟩
      rw [hPv] at pv
      obtain ⟨s6, hg⟩ := pv
      obtain ⟨d, gd, td, rfl, htd⟩ := pget lw5 gv
      have hj : j < ws.length := (List.getElem?_eq_some_iff.mp gv).1
      simp only [wipe]
      walk_at "rd"
      refine ⟨_, SqT.of (s6 _ _ htd), .int d.1, rfl, _, hg, len_big (by rw [List.length_map, List.length_take]; omega), nxt _ (same_ch s6 ng) ?_⟩
      rw [upd_same, List.take_add_one, gd, List.map_append]
      rfl
    rw [hPv] at pv
    obtain ⟨s6, hg⟩ := pv
    clear hPv Pv
    rw [lw3.len, List.take_length] at hg
    refine ⟨g, rfl, _, .inl ⟨SqL.of hg, fun t nt => ?_⟩⟩
    have s7 := s6.trans (same_upd (o := HO.tup ((lastF L).map fun c => V.int c.1)) nt)
    refine same_ok (sm_flatsT (s7 _ _ hp3) upd_same (fun x hx => by obtain ⟨d, _, rfl⟩ := List.mem_map.mp hx; rfl) (by rw [List.length_map]; omega) 1) ⟨true, rfl, iteF ?_⟩
    have s37 := s35.trans s7
    generalize upd Hx t (HO.tup ((lastF L).map fun c => V.int c.1)) = H7 at s37
    clear s7
    refine for_iter ?_
    walk_at "rd"
    obtain ⟨Pv, hPv⟩ : ∃ Pv : Nat → L2.St → Hp → Prop, Pv = (fun i σ H' => ∃ v9 v10 : Option V, σ = [some (.ref p), some (.int r), some (.ref l), some (.ref o), some (.ref h), some (.ref la), v6, some (.ref c), v8, v9, v10, none, none, none, none, none] ∧ Same H3 H') := ⟨_, rfl⟩
    refine ⟨by decide, by decide, for_range (lo := 0) (n := (2 : Int).toNat) Pv (by rw [hPv]; exact ⟨none, none, rfl, s37⟩) (fun i σ H' hi pv => ?_) (fun σ H' pv => ?_)⟩
    · have nxt : ∀ v9 v10 H', Same H3 H' → Pv (i + 1) [some (.ref p), some (.int r), some (.ref l), some (.ref o), some (.ref h), some (.ref la), v6, some (.ref c), v8, v9, v10, none, none, none, none, none] H' := fun v9 v10 H' h1 => by
        rw [hPv]
        exact ⟨v9, v10, rfl, h1⟩
      rw [hPv] at pv
      obtain ⟨v9, v10, rfl, s8⟩ := pv
      walk_at "rd"
      refine ⟨p, h, us, L, r, D, own, rfl, hh3.same s8, s8 _ _ h3, lg3.kt (KT.same s8), inr, fun e H9 s9 ne he => ?_⟩
      walk_at "rd"
      have s39 := s8.trans s9
      refine same_ok (sm_flats he (s39 _ _ hc3) (words_flat r L) wr 1) ⟨true, rfl, iteF ?_⟩
      exact ⟨.inl ⟨rfl, _, SqL.of he⟩, _, he, len_big (by omega), nxt _ _ _ (same_ch s39 (s8.free ne))⟩
    rw [hPv] at pv
    obtain ⟨v9, v10, rfl, s8⟩ := pv
    clear hPv Pv s37 s6 hg nt
    walk_at "rd"
    refine ⟨h, o, us, L, R, rfl, s8 _ _ h3, lg3.kt (KT.same s8), s8 _ _ ho3, by omega, fun H9 s9 => ⟨true, rfl, iteF ?_⟩⟩
    have s39 := s8.trans s9
    refine ⟨Nat.zero_le _, fun e ne => ⟨h, e, us, L, [], rfl, (s39.trans (same_upd ne)) _ _ h3, lg3.kt (KT.same (s39.trans (same_upd ne))), upd_same, Nat.zero_le _, fun H10 s10 => ⟨true, rfl, iteF ?_⟩⟩⟩
    have sA := (s39.trans (same_upd (o := HO.lst []) ne)).trans s10
    clear s39 s9 s8 ne s10
    refine for_iter ?_
    walk_at "rd"
    obtain ⟨Pv, hPv⟩ : ∃ Pv : Nat → L2.St → Hp → Prop, Pv = (fun i σ H' => ∃ v6 : Option V, σ = [some (.ref p), some (.int r), some (.ref l), some (.ref o), some (.ref h), some (.ref la), v6, some (.ref c), v8, v9, v10, none, none, none, none, none] ∧ Same H3 H') := ⟨_, rfl⟩
    refine ⟨by omega, by omega, for_range (lo := 0) (n := (r : Int).toNat) Pv (by rw [hPv]; exact ⟨_, rfl, sA⟩) (fun i σ H' hi pv => ?_) (fun σ H' pv => ?_)⟩
    · have nxt : ∀ v6 H', Same H3 H' → Pv (i + 1) [some (.ref p), some (.int r), some (.ref l), some (.ref o), some (.ref h), some (.ref la), v6, some (.ref c), v8, v9, v10, none, none, none, none, none] H' := fun v6 H' h1 => by
        rw [hPv]
        exact ⟨v6, rfl, h1⟩
      rw [hPv] at pv
      obtain ⟨v6, rfl, s8⟩ := pv
      walk_at "rd"
      refine ⟨by show 1 ≤ sizeLine; decide, fun e ne => ⟨h, e, us, L, [0 + (i : Int)], rfl, (s8.trans (same_upd ne)) _ _ h3, lg3.kt (KT.same (s8.trans (same_upd ne))), upd_same, by show 1 ≤ 1000; decide, fun H11 s11 => ⟨true, rfl, iteF (nxt _ _ ((s8.trans (same_upd ne)).trans s11))⟩⟩⟩
    rw [hPv] at pv
    obtain ⟨v6, rfl, s8⟩ := pv
    clear hPv Pv sA
    walk_at "rd"
    refine ⟨p, h, us, L, r, D, own, rfl, hh3.same s8, s8 _ _ h3, lg3.kt (KT.same s8), inr, fun e1 H11 s11 ne1 he1 => ?_⟩
    walk_at "rd"
    have sB := s8.trans s11
    refine ⟨h, us, L, rfl, sB _ _ h3, lg3.kt (KT.same sB), ln, fun e2 H12 s12 ne2 he2 => ?_⟩
    walk_at "rd"
    have sC := sB.trans s12
    refine ⟨e1, e2, wordsF r L, lastF L, rfl, s12 _ _ he1, he2, ll, words_last inr, fun ws3 e3 H13 s13 ne3 he3 lw13 => ?_⟩
    walk_at "rd"
    have sD := sC.trans s13
    refine same_ok (sm_logs he3 (sD _ _ hla3) lw13 (lw3.kt (KT.same sD)) ll5 0) ⟨true, rfl, iteF ?_⟩
    refine ⟨h, us, L, rfl, sD _ _ h3, lg3.kt (KT.same sD), ln, fun ws4 e4 H14 s14 ne4 he4 lw4 => ?_⟩
    walk_at "rd"
    have sE := sD.trans s14
    clear sB sC s8 s11 s12 s13 he1 he2 he3 lw13
    refine ⟨.inl ⟨rfl, _, SqL.of he4⟩, (by show 2 ≤ sizeLine; decide), fun t1 nt1 => ⟨ws4, same_upd nt1 _ _ he4, len_big (by rw [lw4.len]; omega), ?_⟩⟩
    have sF : Same H3 (upd (upd H14 t1 (HO.tup [V.int 0, V.str (Str.ofString "a")])) e4 (HO.lst (ws4 ++ [V.ref t1]))) := same_ch (sE.trans (same_upd nt1)) (sD.free ne4)
    generalize upd (upd H14 t1 (HO.tup [V.int 0, V.str (Str.ofString "a")])) e4 (HO.lst (ws4 ++ [V.ref t1])) = HF at sF
    clear lw4 s14 sE sD
    have hoF := sF _ _ ho3
    have hcF := sF _ _ hc3
    refine ⟨_, rfl, o, rfl, ⟨_, SqL.of hoF⟩, fun k nk => ?_⟩
    have cl := calledF_len (wordsF r L) R
    obtain ⟨Pv, hPv⟩ : ∃ Pv : Nat → Hp → Prop, Pv = (fun j Hx => Same HF Hx ∧ Hx k = some (.lst ((calledF (wordsF r L) (R.take j)).map fun c => V.int c.1))) := ⟨_, rfl⟩
    refine lc_list (K := K) (a := o) (xs := R.map V.int) Pv (by rw [hPv]; exact ⟨same_upd nk, upd_same⟩) (fun j Hx _ pv => by rw [hPv] at pv; exact SqL.of (pv.1 _ _ hoF)) (fun j v Hx gv pv => ?_) (fun Hx pv => ?_)
    · have nxt : ∀ Hx, Same HF Hx → Hx k = some (.lst ((calledF (wordsF r L) (R.take (j + 1))).map fun c => V.int c.1)) → Pv (j + 1) Hx := fun Hx h1 h2 => by
        rw [hPv]
        exact ⟨h1, h2⟩
      rw [hPv] at pv
      obtain ⟨s6, hk⟩ := pv
      rw [List.getElem?_map] at gv
      cases gd : R[j]? with
      | none => rw [gd] at gv; cases gv
      | some x =>
        rw [gd] at gv
        have ev := Option.some.inj gv
        subst ev
        have hx := Rr x (List.mem_of_getElem? gd)
        have wlen := wordsF_len r L
        obtain ⟨w0, gw⟩ : ∃ w0, (wordsF r L)[x.toNat]? = some w0 := ⟨_, List.getElem?_eq_getElem (by omega)⟩
        have cj := calledF_len (wordsF r L) (R.take j)
        rw [List.length_take] at cj
        simp only [wipe]
        walk_at "rd"
        refine ⟨_, SqL.of (s6 _ _ hcF), w0, at_of (j := x.toNat) (by omega) gw, ?_⟩
        rcases words_kind r L w0 (List.mem_of_getElem? gw) with rfl | ⟨z, rfl⟩
        · rw [if_neg (by simp)]
          refine nxt _ s6 ?_
          rw [calledF_none gd gw]
          exact hk
        · rw [if_pos (by simp)]
          refine ⟨_, hk, len_big (by rw [List.length_map]; omega), nxt _ (same_ch s6 nk) ?_⟩
          rw [upd_same, calledF_some gd gw, List.map_append]
          rfl
    rw [hPv] at pv
    obtain ⟨s6, hk⟩ := pv
    clear hPv Pv
    rw [List.length_map, List.take_length] at hk
    have sG := sF.trans s6
    have hcG := sG _ _ hc3
    refine ⟨_, rfl, k, rfl, ⟨_, SqL.of hk⟩, fun m nm => ?_⟩
    obtain ⟨Pv, hPv⟩ : ∃ Pv : Nat → Hp → Prop, Pv = (fun j Hy => ∃ zs, Same Hx Hy ∧ Hy m = some (.lst zs) ∧ LG Hy zs ((calledF (wordsF r L) R).take j)) := ⟨_, rfl⟩
    refine lc_list (K := K) (a := k) (xs := (calledF (wordsF r L) R).map fun c => V.int c.1) Pv (by rw [hPv]; exact ⟨[], same_upd nm, upd_same, LG.nil0 _⟩) (fun j Hy _ pv => by rw [hPv] at pv; obtain ⟨_, sm, _⟩ := pv; exact SqL.of (sm _ _ hk)) (fun j v Hy gv pv => ?_) (fun Hy pv => ?_)
    · have nxt : ∀ zs Hy, Same Hx Hy → Hy m = some (.lst zs) → LG Hy zs ((calledF (wordsF r L) R).take (j + 1)) → Pv (j + 1) Hy := fun zs Hy h1 h2 h3 => by
        rw [hPv]
        exact ⟨zs, h1, h2, h3⟩
      rw [hPv] at pv
      obtain ⟨zs, sm, hm, lz⟩ := pv
      rw [List.getElem?_map] at gv
      cases gd : (calledF (wordsF r L) R)[j]? with
      | none => rw [gd] at gv; cases gv
      | some d =>
        rw [gd] at gv
        have ev := Option.some.inj gv
        subst ev
        obtain ⟨w0, wd⟩ := calledF_mem (fun x hx => (Rr x hx).1) d (List.mem_of_getElem? gd)
        have zl : zs.length ≤ 1000 := by
          rw [lz.len, List.length_take]
          omega
        simp only [wipe]
        walk_at "rd"
        refine ⟨_, SqL.of (sm _ _ hcG), .str d.2, at_of (j := d.1.toNat) (by omega) wd, (by show 2 ≤ sizeLine; decide), fun t nt => ?_⟩
        have nct : m ≠ t := ne_of_none hm nt
        refine ⟨zs, by rw [upd_ne nct]; exact hm, len_big (by omega), nxt (zs ++ [.ref t]) _ (same_ch (sm.trans (same_upd nt)) nm) upd_same ?_⟩
        rw [List.take_add_one, gd]
        refine LG.snoc ((lz.kt (KT.new nt)).kt (KT.lst (by rw [upd_ne nct]; exact hm))) ⟨t, rfl, ?_⟩
        rw [upd_ne nct.symm, upd_same]
    rw [hPv] at pv
    obtain ⟨zs, sm, hm, lz⟩ := pv
    clear hPv Pv
    rw [List.length_map, List.take_length] at lz
    have sH := sG.trans sm
    have hkH := sm _ _ hk
    walk_at "rd"
    refine ⟨_, .inl (SqL.of (sH _ _ hc3)), fun e5 ne5 => ⟨_, .inl ⟨SqL.of (same_upd ne5 _ _ hkH), fun e6 ne6 => ?_⟩⟩⟩
    have s56 : Same Hy (upd (upd Hy e5 (HO.lst (wordsF r L))) e6 (HO.tup ((calledF (wordsF r L) R).map fun c => V.int c.1))) := (same_upd ne5).trans (same_upd ne6)
    have h5 : upd (upd Hy e5 (HO.lst (wordsF r L))) e6 (HO.tup ((calledF (wordsF r L) R).map fun c => V.int c.1)) e5 = some (.lst (wordsF r L)) := same_upd ne6 _ _ upd_same
    have h6 : upd (upd Hy e5 (HO.lst (wordsF r L))) e6 (HO.tup ((calledF (wordsF r L) R).map fun c => V.int c.1)) e6 = some (.tup ((calledF (wordsF r L) R).map fun c => V.int c.1)) := upd_same
    generalize upd (upd Hy e5 (HO.lst (wordsF r L))) e6 (HO.tup ((calledF (wordsF r L) R).map fun c => V.int c.1)) = HI at s56 h5 h6
    refine ⟨e5, e6, wordsF r L, calledF (wordsF r L) R, rfl, h5, h6, by omega, calledF_mem fun x hx => (Rr x hx).1, fun ws7 e7 HJ s7 ne7 he7 lw7 => ?_⟩
    have sJ := s56.trans s7
    refine same_ok (sm_logs he7 (sJ _ _ hm) lw7 (lz.kt (KT.same sJ)) (by omega) 0) ⟨true, rfl, iteF ?_⟩
    have sK := sH.trans sJ
    refine ⟨h, us, L, rfl, sK _ _ h3, lg3.kt (KT.same sK), ln, fun ws8 e8 HL s8 ne8 he8 lw8 => ?_⟩
    have sL := sK.trans s8
    refine same_ok (sm_logs he8 (sL _ _ hla3) lw8 (lw3.kt (KT.same sL)) ll5 0) ⟨true, rfl, iteF ?_⟩
    refine same_ok (sm_flats ((s7.trans s8) _ _ h5) (sL _ _ hc3) (words_flat r L) wr 1) ⟨true, rfl, iteT ?_⟩
    exact same_ok (sm_logs (sL _ _ h3) (sL _ _ hl3) (lg3.kt (KT.same sL)) (lg3.kt (KT.same sL)) (by omega) 0) (q _ (s3.trans sL))
end

abbrev sLaw : Stmt := topS 31
section
variable {P : Program} {w : World} {K : PySem.W.Frag} {mg : Str → Option Value} {base : Heap}
theorem scLaw : FnScope ["script", "n", "rooms", "pool", "many", "log", "s", "chosen", "house", "further"] ["script"] (defScope sLaw) := ⟨rfl, rfl, rfl, by decide +kernel, rfl, by decide +kernel, by decide +kernel⟩
def spLaw (K : PySem.W.Frag) : Sp := fun vs H Q _ => ∃ (a : Addr) (ns : List Int), vs = [.ref a] ∧ SqL K H a (ns.map V.int) ∧ ns.length ≤ 63 ∧ ∀ H', Q (.bl true) H'
theorem use_init {C x dx l : Addr} {r : Nat} {us : List V} {D G : List Pr} {H : Hp} {Q : VK} {E : XK} (nx : H x = none) (ndx : H dx = none) (hl : H l = some (.lst us)) (pl : PL H us D) (pm : (D.map mm2).Perm G) (drs : Drs r G) (r1 : 1 ≤ r) (r12 : r ≤ 12)
    (q : ∀ own H2, HouseAt C H2 x r G own → Same H H2 → (∀ b ∈ own, H b = none) → Q .non H2) : spHinit C [.ref x, .int r, .ref l] (upd (upd H dx (.own x)) x (.ins C dx [])) Q E := by
  have s0 : Same H (upd (upd H dx (.own x)) x (.ins C dx [])) := fun b o e => by
    rw [upd_ne (ne_of_none e nx), upd_ne (ne_of_none e ndx)]
    exact e
  refine ⟨x, dx, l, r, us, D, D.map mm2, rfl, upd_same, s0 _ _ hl, pl.kt (KT.same s0), rfl, pm.nodup_iff.mpr drs.asc.nodup, fun d hd => drs.ok d (pm.mem_iff.mp hd), r1, r12, fun D' own H' mem hh keep free => ?_⟩
  have e : D' = G := asc_uniq hh.ok.asc drs.asc fun d => (mem d).trans pm.mem_iff
  subst e
  refine q own H' hh (fun b o e => keep b o (s0 b o e) (ne_of_none e nx)) fun b hb => ?_
  by_cases e : b = x
  · rw [e]
    exact nx
  · exact s0.free (free b hb e)
theorem ok_law {f C fi pf ff f1 f2 f3 f4 f5 f6 f7 f8 : Addr} {fd fdi fdf fd1 fd2 fd3 fd4 fd5 fd6 fd7 fd8 : FuncData} (F : Fun K "law" "law" sLaw f fd) (T : Bi mg) (U : Hs K mg C) (M : Mk K C fi) (Gi : FnOk P w K mg base CX0 2 fi fdi ["self", "rooms", "doors"] (spHinit C)) (bi : Binds K fdi ["self", "rooms", "doors"] [])
    (Sf : Smt K C "full" pf ff) (Gf : FnOk P w K mg base CX0 4 ff fdf ["rooms"] (spHfull C)) (bf : Binds K fdf ["rooms"] [])
    (d__law_cell : Df P w K mg base "_law_cell" ["script", "k"] 1 (spCell K) f1 fd1) (d__law_numbers : Df P w K mg base "_law_numbers" ["cell", "count"] 1 (spNum K) f2 fd2) (d__law_pool : Df P w K mg base "_law_pool" ["numbers", "at", "many"] 2 (spPool K) f3 fd3)
    (d__law_size : Df P w K mg base "_law_size" ["number", "few", "most"] 1 spSize f4 fd4) (d__law_drawn : Df P w K mg base "_law_drawn" ["numbers", "many", "rooms", "pool"] 2 (spDrawn K) f5 fd5) (d__law_chosen : Df P w K mg base "_law_chosen" ["numbers", "rooms"] 2 (spChosen K) f6 fd6)
    (d__law_last : Df P w K mg base "_law_last" ["log"] 1 spLast f7 fd7) (d__law_log_right : Df P w K mg base "_law_log_right" ["house", "rooms", "log", "chosen"] 5 (spLogR C) f8 fd8) : FnOk P w K mg base CX0 6 f fd ["script"] (spLaw K) := by
  refine F.ok scLaw (fun vs H Q E h => ?_) (fun cdv A outer s H vs Q E hr h => ?_)
  · obtain ⟨a, ns, rfl, _⟩ := h
    rfl
  · obtain ⟨a, ss, rfl, hS, _, q⟩ := h
    refine ⟨_, (pss_cons (ps_set (i := 1) scLaw.nd rfl (Or.inl rfl) (pe_call d__law_numbers.ok (hr.mono (by decide)) (by rfl) d__law_numbers.at_ d__law_numbers.kp d__law_numbers.b .nil pass0 (pa_cons (pe_call d__law_cell.ok (hr.mono (by decide)) (by rfl) d__law_cell.at_ d__law_cell.kp d__law_cell.b .nil pass0 (pa_cons (pv 0) (pa_cons pe_int pa_nil))) (pa_cons pe_int pa_nil))))
      (pss_cons (ps_set (i := 2) scLaw.nd rfl (Or.inl rfl) (pe_op op_add pe_int (pe_op op_mod (pe_callTy cr_intI (by rfl) T.int (by decide +kernel) (pa_cons (pe_ix ix_list (pv 1) pe_int (fun _ _ => rfl)) pa_nil)) pe_int)))
      (pss_cons (ps_set (i := 3) scLaw.nd rfl (Or.inl rfl) (pe_call d__law_pool.ok (hr.mono (by decide)) (by rfl) d__law_pool.at_ d__law_pool.kp d__law_pool.b .nil pass0 (pa_cons (pv 1) (pa_cons pe_int (pa_cons (pe_op op_add pe_int (pe_op op_mod (pe_callTy cr_intI (by rfl) T.int (by decide +kernel) (pa_cons (pe_ix ix_list (pv 1) pe_int (fun _ _ => rfl)) pa_nil)) pe_int)) pa_nil)))))
      (pss_cons (ps_set (i := 4) scLaw.nd rfl (Or.inl rfl) (pe_call d__law_size.ok (hr.mono (by decide)) (by rfl) d__law_size.at_ d__law_size.kp d__law_size.b .nil pass0 (pa_cons (pe_ix ix_list (pv 1) pe_int (fun _ _ => rfl)) (pa_cons pe_int (pa_cons pe_int pa_nil)))))
      (pss_cons (ps_set (i := 5) scLaw.nd rfl (Or.inl rfl) (pe_call d__law_drawn.ok (hr.mono (by decide)) (by rfl) d__law_drawn.at_ d__law_drawn.kp d__law_drawn.b .nil pass0 (pa_cons (pe_call d__law_numbers.ok (hr.mono (by decide)) (by rfl) d__law_numbers.at_ d__law_numbers.kp d__law_numbers.b .nil pass0 (pa_cons (pe_call d__law_cell.ok (hr.mono (by decide)) (by rfl) d__law_cell.at_ d__law_cell.kp d__law_cell.b .nil pass0 (pa_cons (pv 0) (pa_cons pe_int pa_nil))) (pa_cons (pe_op op_mul pe_int (pv 4)) pa_nil))) (pa_cons (pv 4) (pa_cons (pv 2) (pa_cons (pv 3) pa_nil))))))
      (pss_cons (ps_set (i := 6) scLaw.nd rfl (Or.inl rfl) (pe_call d__law_numbers.ok (hr.mono (by decide)) (by rfl) d__law_numbers.at_ d__law_numbers.kp d__law_numbers.b .nil pass0 (pa_cons (pe_call d__law_cell.ok (hr.mono (by decide)) (by rfl) d__law_cell.at_ d__law_cell.kp d__law_cell.b .nil pass0 (pa_cons (pv 0) (pa_cons pe_int pa_nil))) (pa_cons pe_int pa_nil))))
      (pss_cons (ps_set (i := 7) scLaw.nd rfl (Or.inl rfl) (pe_call d__law_chosen.ok (hr.mono (by decide)) (by rfl) d__law_chosen.at_ d__law_chosen.kp d__law_chosen.b .nil pass0 (pa_cons (pv 6) (pa_cons (pv 2) pa_nil))))
      (pss_cons (ps_set (i := 8) scLaw.nd rfl (Or.inl rfl) (pe_make M Gi (hr.mono (by decide)) (by rfl) U.mgC bi .nil pass0 (pa_cons (pv 2) (pa_cons (pe_lst pa_nil) pa_nil))))
      (pss_cons (ps_if (pt_cmpR op_eqI (pe_op op_mod (pe_callTy cr_intI (by rfl) T.int (by decide +kernel) (pa_cons (pe_ix ix_list (pv 1) pe_int (fun _ _ => rfl)) pa_nil)) pe_int) pe_int (nomark _))
      (pss_one (ps_set (i := 8) scLaw.nd rfl (Or.inl rfl) (pe_smt (pe_glob (v := .ref C) (by rfl) U.mgC rfl) Sf Gf (hr.mono (by decide)) bf pass0 (pa_cons (pv 2) pa_nil))))
      pss_nil)
      (pss_cons (ps_if (PW.pt (pw_or (pt_not (pt_val (pe_call d__law_log_right.ok (hr.mono (by decide)) (by rfl) d__law_log_right.at_ d__law_log_right.kp d__law_log_right.b .nil pass0 (pa_cons (pv 8) (pa_cons (pv 2) (pa_cons (pv 5) (pa_cons (pv 7) pa_nil))))))) (pw_or1 (pt_not (pt_val (pe_call d__law_log_right.ok (hr.mono (by decide)) (by rfl) d__law_log_right.at_ d__law_log_right.kp d__law_log_right.b .nil pass0 (pa_cons (pv 8) (pa_cons (pv 2) (pa_cons (pe_call d__law_last.ok (hr.mono (by decide)) (by rfl) d__law_last.at_ d__law_last.kp d__law_last.b .nil pass0 (pa_cons (pv 5) pa_nil)) (pa_cons (pv 7) pa_nil))))))))))
      (pss_one (ps_ret pe_bl))
      pss_nil)
      (pss_cons (ps_set (i := 9) scLaw.nd rfl (Or.inl rfl) (pe_op op_cat (pv 5) (pe_lst (pa_cons (pe_tup (pa_cons (pe_op op_mod (pe_callTy cr_intI (by rfl) T.int (by decide +kernel) (pa_cons (pe_ix ix_list (pv 6) pe_int (fun _ _ => rfl)) pa_nil)) (pv 2)) (pa_cons (pe_ix ix_list (pv 3) pe_int (fun _ _ => rfl)) pa_nil))) pa_nil))))
      (pss_one (ps_ret (pe_and (pe_call d__law_log_right.ok (hr.mono (by decide)) (by rfl) d__law_log_right.at_ d__law_log_right.kp d__law_log_right.b .nil pass0 (pa_cons (pv 8) (pa_cons (pv 2) (pa_cons (pv 9) (pa_cons (pv 7) pa_nil))))) (pe_one (pe_call d__law_log_right.ok (hr.mono (by decide)) (by rfl) d__law_log_right.at_ d__law_log_right.kp d__law_log_right.b .nil pass0 (pa_cons (pv 8) (pa_cons (pv 2) (pa_cons (pv 5) (pa_cons (pe_revL (pv 7)) pa_nil)))))))))))))))))))), ?_⟩
    walk_at "rd"
    refine ⟨a, ss, 0, rfl, hS, fun c0 _ => ⟨c0, 24, rfl, by decide, fun nl lnn H1 N1 s1 fn1 hln => ?_⟩⟩
    walk_at "rd"
    have gN : ∀ j : Nat, j < 24 → ∃ x, (nl.map V.int)[j]? = some (.int x) := fun j hj => ⟨nl[j]'(by rw [N1.1]; exact hj), by rw [List.getElem?_map, List.getElem?_eq_getElem (by rw [N1.1]; exact hj)]; rfl⟩
    obtain ⟨x23, g23⟩ := gN 23 (by decide)
    obtain ⟨x20, g20⟩ := gN 20 (by decide)
    obtain ⟨x21, g21⟩ := gN 21 (by decide)
    obtain ⟨x22, g22⟩ := gN 22 (by decide)
    obtain ⟨r, er, hr1, hr12⟩ : ∃ r : Nat, 1 + x23 % 12 = (r : Int) ∧ 1 ≤ r ∧ r ≤ 12 := ⟨(1 + x23 % 12).toNat, by omega, by omega, by omega⟩
    obtain ⟨mm, em, hm1, hm4⟩ : ∃ m : Nat, 1 + x20 % 4 = (m : Int) ∧ 1 ≤ m ∧ m ≤ 4 := ⟨(1 + x20 % 4).toNat, by omega, by omega, by omega⟩
    refine ⟨_, SqL.of hln, .int x23, at_of (j := 23) rfl g23, x23, rfl, by decide, _, SqL.of hln, .int x20, at_of (j := 20) rfl g20, x20, rfl, by decide, ?_⟩
    rw [er, em]
    refine ⟨lnn, nl, mm, rfl, SqL.of hln, by rw [N1.1]; omega, hm1, by omega, fun Z pz H2 tz s2 npz hpz => ?_⟩
    walk_at "rd"
    refine ⟨_, SqL.of (s2 _ _ hln), .int x21, at_of (j := 21) rfl g21, x21, 12, 59, rfl, by decide, by decide, fun nn hn0 hn59 => ?_⟩
    obtain ⟨mc, rfl⟩ : ∃ m : Nat, nn = (m : Int) := ⟨nn.toNat, by omega⟩
    walk_at "rd"
    refine ⟨a, ss, 1, rfl, (s1.trans s2).seq hS, fun c1 _ => ?_⟩
    walk_at "rd"
    refine ⟨.inl (by decide), c1, 7 * mc, by rw [show (7 : Int) * (mc : Int) = ((7 * mc : Nat) : Int) by omega], by omega, fun ml lm H3 N3 s3 fm hlm => ?_⟩
    walk_at "rd"
    have s23 := s2.trans s3
    refine ⟨lm, pz, ml, mc, r, Z, rfl, SqL.of hlm, by rw [N3.1]; exact Nat.le_refl _, by omega, hr1, s3 _ _ hpz, by rw [tz.1]; exact hm1, by rw [tz.1]; omega, tz.2, fun L us lo H4 lenL inrL _ s4 flo hlo lgL => ?_⟩
    walk_at "rd"
    have s14 := (s1.trans s23).trans s4
    have s24 := s23.trans s4
    refine ⟨a, ss, 2, rfl, s14.seq hS, fun c2 _ => ?_⟩
    walk_at "rd"
    refine ⟨c2, 26, rfl, by decide, fun sl ls H5 N5 s5 fs hls => ?_⟩
    walk_at "rd"
    refine ⟨ls, sl, r, rfl, SqL.of hls, by rw [N5.1]; omega, hr1, hr12, fun R lr H6 sR s6 flr hlr => ?_⟩
    walk_at "rd"
    have s46 := s5.trans s6
    have s16 := s24.trans s46
    have gS : ∃ x, (sl.map V.int)[25]? = some (.int x) := ⟨sl[25]'(by rw [N5.1]; decide), by rw [List.getElem?_map, List.getElem?_eq_getElem (by rw [N5.1]; decide)]; rfl⟩
    obtain ⟨x25, g25⟩ := gS
    obtain ⟨z0, gz0⟩ : ∃ z, (Z.map V.str)[0]? = some (.str z) := ⟨Z[0]'(by rw [tz.1]; omega), by rw [List.getElem?_map, List.getElem?_eq_getElem (by rw [tz.1]; omega)]; rfl⟩
    have rm0 := Int.emod_nonneg x25 (show (r : Int) ≠ 0 by omega)
    have rm1 := Int.emod_lt_of_pos x25 (show (0 : Int) < r by omega)
    have ul : us.length = L.length := lgL.len
    refine ⟨Nat.zero_le _, fun e ne x dx nx ndx nex => ?_⟩
    refine use_init (D := []) (G := []) nx ndx upd_same (PL.nil0 _) (List.Perm.refl _) ⟨List.Pairwise.nil, fun d hd => by cases hd⟩ hr1 hr12 fun own0 H7 hh7 s7 _ => ⟨rfl, ?_⟩
    have s67 : Same H6 H7 := (same_upd ne).trans s7
    refine ⟨_, SqL.of (s67 _ _ (s16 _ _ hln)), .int x22, at_of (j := 22) rfl g22, x22, rfl, by decide, ite2 (fun _ => ?_) (fun _ => ?_)⟩
    · refine ⟨rfl, _, rfl, r, rfl, hr1, hr12, fun p D own H8 hh s8 => ?_⟩
      have sX : Same H6 H8 := s67.trans s8
      walk_at "rd"
      have s48 := s46.trans sX
      refine ⟨p, lo, lr, r, us, L, R, _, _, rfl, hh, s48 _ _ hlo, lgL.kt (KT.same s48), inrL, by omega, sX _ _ hlr, sR, fun H9 s9 => ⟨true, rfl, iteF ?_⟩⟩
      have s49 := s48.trans s9
      refine ⟨lo, us, L, rfl, s49 _ _ hlo, lgL.kt (KT.same s49), by omega, fun vs2 l2 H10 s10 nl2 hl2 lg2 => ?_⟩
      have sY := s9.trans s10
      refine ⟨p, l2, lr, r, vs2, lastF L, R, _, _, rfl, hh.same sY, hl2, lg2, fun c hc => inrL c (lastF_sub L c hc), Nat.le_trans (lastF_len L) (by omega), sY _ _ (sX _ _ hlr), sR, fun H11 s11 => ⟨true, rfl, iteF ?_⟩⟩
      have sZ := sY.trans s11
      have s6b := sX.trans sZ
      have s4b := s46.trans s6b
      refine ⟨_, SqL.of (s6b _ _ (s6 _ _ hls)), .int x25, at_of (j := 25) rfl g25, x25, rfl, by omega, _, SqL.of (s6b _ _ (s46 _ _ (s4 _ _ (s3 _ _ hpz)))), .str z0, at_of (j := 0) rfl gz0, (by show 2 ≤ sizeLine; decide), fun t nt => ⟨by show 1 ≤ sizeLine; decide, fun e2 ne2 => ?_⟩⟩
      have sT : Same H11 (upd (upd H11 t (HO.tup [V.int (x25 % (r : Int)), V.str z0])) e2 (HO.lst [V.ref t])) := (same_upd nt).trans (same_upd ne2)
      have hT : upd (upd H11 t (HO.tup [V.int (x25 % (r : Int)), V.str z0])) e2 (HO.lst [V.ref t]) t = some (.tup [V.int (x25 % (r : Int)), V.str z0]) := same_upd ne2 _ _ upd_same
      have hE : upd (upd H11 t (HO.tup [V.int (x25 % (r : Int)), V.str z0])) e2 (HO.lst [V.ref t]) e2 = some (.lst [V.ref t]) := upd_same
      generalize upd (upd H11 t (HO.tup [V.int (x25 % (r : Int)), V.str z0])) e2 (HO.lst [V.ref t]) = HT at sT hT hE
      have s4T := s4b.trans sT
      refine ⟨lo, e2, us, [V.ref t], rfl, rfl, s4T _ _ hlo, hE, Nat.le_of_lt (len_big (by show us.length + 1 ≤ 100000; omega)), fun f nf => ?_⟩
      have lgF : LG HT (us ++ [V.ref t]) (L ++ [(x25 % (r : Int), z0)]) := LG.snoc (lgL.kt (KT.same s4T)) ⟨t, rfl, hT⟩
      have sU : Same HT (upd HT f (HO.lst (us ++ [V.ref t]))) := same_upd nf
      have s8U := (sZ.trans sT).trans sU
      have inrF : InR r (L ++ [(x25 % (r : Int), z0)]) := fun c hc => by
        rcases List.mem_append.mp hc with h | h
        · exact inrL c h
        · rw [List.mem_singleton.mp h]
          exact ⟨rm0, rm1⟩
      refine ⟨p, f, lr, r, us ++ [V.ref t], L ++ [(x25 % (r : Int), z0)], R, _, _, rfl, hh.same s8U, upd_same, lgF.kt (KT.same sU), inrF, by rw [List.length_append]; show L.length + 1 ≤ 1000; omega, s8U _ _ (sX _ _ hlr), sR, fun H12 s12 => ⟨true, rfl, iteT ?_⟩⟩
      have s8V := s8U.trans s12
      refine ⟨_, rfl, lr, _, rfl, SqL.of (s8V _ _ (sX _ _ hlr)), fun g ng => ?_⟩
      have sW := s8V.trans (same_upd (o := HO.lst (R.map V.int).reverse) ng)
      refine ⟨p, lo, g, r, us, L, R.reverse, _, _, rfl, hh.same sW, sW _ _ (s48 _ _ hlo), lgL.kt (KT.same (s48.trans sW)), inrL, by omega, by rw [upd_same, List.map_reverse], ⟨by rw [List.length_reverse]; exact sR.1, fun x hx => sR.2 x (List.mem_reverse.mp hx)⟩, fun H13 _ => q H13⟩
    · have hh := hh7
      have sX := s67
      have s48 := s46.trans sX
      refine ⟨x, lo, lr, r, us, L, R, _, _, rfl, hh, s48 _ _ hlo, lgL.kt (KT.same s48), inrL, by omega, sX _ _ hlr, sR, fun H9 s9 => ⟨true, rfl, iteF ?_⟩⟩
      have s49 := s48.trans s9
      refine ⟨lo, us, L, rfl, s49 _ _ hlo, lgL.kt (KT.same s49), by omega, fun vs2 l2 H10 s10 nl2 hl2 lg2 => ?_⟩
      have sY := s9.trans s10
      refine ⟨x, l2, lr, r, vs2, lastF L, R, _, _, rfl, hh.same sY, hl2, lg2, fun c hc => inrL c (lastF_sub L c hc), Nat.le_trans (lastF_len L) (by omega), sY _ _ (sX _ _ hlr), sR, fun H11 s11 => ⟨true, rfl, iteF ?_⟩⟩
      have sZ := sY.trans s11
      have s6b := sX.trans sZ
      have s4b := s46.trans s6b
      refine ⟨_, SqL.of (s6b _ _ (s6 _ _ hls)), .int x25, at_of (j := 25) rfl g25, x25, rfl, by omega, _, SqL.of (s6b _ _ (s46 _ _ (s4 _ _ (s3 _ _ hpz)))), .str z0, at_of (j := 0) rfl gz0, (by show 2 ≤ sizeLine; decide), fun t nt => ⟨by show 1 ≤ sizeLine; decide, fun e2 ne2 => ?_⟩⟩
      have sT : Same H11 (upd (upd H11 t (HO.tup [V.int (x25 % (r : Int)), V.str z0])) e2 (HO.lst [V.ref t])) := (same_upd nt).trans (same_upd ne2)
      have hT : upd (upd H11 t (HO.tup [V.int (x25 % (r : Int)), V.str z0])) e2 (HO.lst [V.ref t]) t = some (.tup [V.int (x25 % (r : Int)), V.str z0]) := same_upd ne2 _ _ upd_same
      have hE : upd (upd H11 t (HO.tup [V.int (x25 % (r : Int)), V.str z0])) e2 (HO.lst [V.ref t]) e2 = some (.lst [V.ref t]) := upd_same
      generalize upd (upd H11 t (HO.tup [V.int (x25 % (r : Int)), V.str z0])) e2 (HO.lst [V.ref t]) = HT at sT hT hE
      have s4T := s4b.trans sT
      refine ⟨lo, e2, us, [V.ref t], rfl, rfl, s4T _ _ hlo, hE, Nat.le_of_lt (len_big (by show us.length + 1 ≤ 100000; omega)), fun f nf => ?_⟩
      have lgF : LG HT (us ++ [V.ref t]) (L ++ [(x25 % (r : Int), z0)]) := LG.snoc (lgL.kt (KT.same s4T)) ⟨t, rfl, hT⟩
      have sU : Same HT (upd HT f (HO.lst (us ++ [V.ref t]))) := same_upd nf
      have s8U := (sZ.trans sT).trans sU
      have inrF : InR r (L ++ [(x25 % (r : Int), z0)]) := fun c hc => by
        rcases List.mem_append.mp hc with h | h
        · exact inrL c h
        · rw [List.mem_singleton.mp h]
          exact ⟨rm0, rm1⟩
      refine ⟨x, f, lr, r, us ++ [V.ref t], L ++ [(x25 % (r : Int), z0)], R, _, _, rfl, hh.same s8U, upd_same, lgF.kt (KT.same sU), inrF, by rw [List.length_append]; show L.length + 1 ≤ 1000; omega, s8U _ _ (sX _ _ hlr), sR, fun H12 s12 => ⟨true, rfl, iteT ?_⟩⟩
      have s8V := s8U.trans s12
      refine ⟨_, rfl, lr, _, rfl, SqL.of (s8V _ _ (sX _ _ hlr)), fun g ng => ?_⟩
      have sW := s8V.trans (same_upd (o := HO.lst (R.map V.int).reverse) ng)
      refine ⟨x, lo, g, r, us, L, R.reverse, _, _, rfl, hh.same sW, sW _ _ (s48 _ _ hlo), lgL.kt (KT.same (s48.trans sW)), inrL, by omega, by rw [upd_same, List.map_reverse], ⟨by rw [List.length_reverse]; exact sR.1, fun x hx => sR.2 x (List.mem_reverse.mp hx)⟩, fun H13 _ => q H13⟩
end

set_option maxHeartbeats 8000000 in
theorem all_mk {l : PySem.W.OpenLaw} {w : World} {K : PySem.W.Frag} {h : Heap} {mg : Str → Option Value} {fa : Addr} (X : K.In h) (G : h.Ns mainGlobals mg) (hfa : mg "law" = some (.ref fa))
    {f_check_room_count : Addr} {od_check_room_count an_check_room_count : Option Addr} {sl_check_room_count : Array (Option Value)} {oc_check_room_count kV_check_room_count dc_check_room_count pm_check_room_count cd_check_room_count ct_check_room_count : Value}
    {f_checked_doors : Addr} {od_checked_doors an_checked_doors : Option Addr} {sl_checked_doors : Array (Option Value)} {oc_checked_doors kV_checked_doors dc_checked_doors pm_checked_doors cd_checked_doors ct_checked_doors : Value}
    {f_last_calls : Addr} {od_last_calls an_last_calls : Option Addr} {sl_last_calls : Array (Option Value)} {oc_last_calls kV_last_calls dc_last_calls pm_last_calls cd_last_calls ct_last_calls : Value}
    {f_order_of : Addr} {od_order_of an_order_of : Option Addr} {sl_order_of : Array (Option Value)} {oc_order_of kV_order_of dc_order_of pm_order_of cd_order_of ct_order_of : Value}
    {f_words_of : Addr} {od_words_of an_words_of : Option Addr} {sl_words_of : Array (Option Value)} {oc_words_of kV_words_of dc_words_of pm_words_of cd_words_of ct_words_of : Value}
    {f_last_call_in : Addr} {od_last_call_in an_last_call_in : Option Addr} {sl_last_call_in : Array (Option Value)} {oc_last_call_in kV_last_call_in dc_last_call_in pm_last_call_in cd_last_call_in ct_last_call_in : Value}
    {f_top_room : Addr} {od_top_room an_top_room : Option Addr} {sl_top_room : Array (Option Value)} {oc_top_room kV_top_room dc_top_room pm_top_room cd_top_room ct_top_room : Value}
    {f_word_of : Addr} {od_word_of an_word_of : Option Addr} {sl_word_of : Array (Option Value)} {oc_word_of kV_word_of dc_word_of pm_word_of cd_word_of ct_word_of : Value}
    {f_log_of : Addr} {od_log_of an_log_of : Option Addr} {sl_log_of : Array (Option Value)} {oc_log_of kV_log_of dc_log_of pm_log_of cd_log_of ct_log_of : Value}
    {f__law_cell : Addr} {od__law_cell an__law_cell : Option Addr} {sl__law_cell : Array (Option Value)} {oc__law_cell kV__law_cell dc__law_cell pm__law_cell cd__law_cell ct__law_cell : Value}
    {f__law_numbers : Addr} {od__law_numbers an__law_numbers : Option Addr} {sl__law_numbers : Array (Option Value)} {oc__law_numbers kV__law_numbers dc__law_numbers pm__law_numbers cd__law_numbers ct__law_numbers : Value}
    {f__law_names : Addr} {od__law_names an__law_names : Option Addr} {sl__law_names : Array (Option Value)} {oc__law_names kV__law_names dc__law_names pm__law_names cd__law_names ct__law_names : Value}
    {f__law_top : Addr} {od__law_top an__law_top : Option Addr} {sl__law_top : Array (Option Value)} {oc__law_top kV__law_top dc__law_top pm__law_top cd__law_top ct__law_top : Value}
    {f__law_word_of : Addr} {od__law_word_of an__law_word_of : Option Addr} {sl__law_word_of : Array (Option Value)} {oc__law_word_of kV__law_word_of dc__law_word_of pm__law_word_of cd__law_word_of ct__law_word_of : Value}
    {f__law_same : Addr} {od__law_same an__law_same : Option Addr} {sl__law_same : Array (Option Value)} {oc__law_same kV__law_same dc__law_same pm__law_same cd__law_same ct__law_same : Value}
    {f__law_last : Addr} {od__law_last an__law_last : Option Addr} {sl__law_last : Array (Option Value)} {oc__law_last kV__law_last dc__law_last pm__law_last cd__law_last ct__law_last : Value}
    {f__law_spelled : Addr} {od__law_spelled an__law_spelled : Option Addr} {sl__law_spelled : Array (Option Value)} {oc__law_spelled kV__law_spelled dc__law_spelled pm__law_spelled cd__law_spelled ct__law_spelled : Value}
    {f__law_pool : Addr} {od__law_pool an__law_pool : Option Addr} {sl__law_pool : Array (Option Value)} {oc__law_pool kV__law_pool dc__law_pool pm__law_pool cd__law_pool ct__law_pool : Value}
    {f__law_size : Addr} {od__law_size an__law_size : Option Addr} {sl__law_size : Array (Option Value)} {oc__law_size kV__law_size dc__law_size pm__law_size cd__law_size ct__law_size : Value}
    {f__law_drawn : Addr} {od__law_drawn an__law_drawn : Option Addr} {sl__law_drawn : Array (Option Value)} {oc__law_drawn kV__law_drawn dc__law_drawn pm__law_drawn cd__law_drawn ct__law_drawn : Value}
    {f__law_chosen : Addr} {od__law_chosen an__law_chosen : Option Addr} {sl__law_chosen : Array (Option Value)} {oc__law_chosen kV__law_chosen dc__law_chosen pm__law_chosen cd__law_chosen ct__law_chosen : Value}
    {f__law_set_right : Addr} {od__law_set_right an__law_set_right : Option Addr} {sl__law_set_right : Array (Option Value)} {oc__law_set_right kV__law_set_right dc__law_set_right pm__law_set_right cd__law_set_right ct__law_set_right : Value}
    {f__law_log_right : Addr} {od__law_log_right an__law_log_right : Option Addr} {sl__law_log_right : Array (Option Value)} {oc__law_log_right kV__law_log_right dc__law_log_right pm__law_log_right cd__law_log_right ct__law_log_right : Value}
    {f_law : Addr} {od_law an_law : Option Addr} {sl_law : Array (Option Value)} {oc_law kV_law dc_law pm_law cd_law ct_law : Value}
    {f_m_init_ : Addr} {od_m_init_ an_m_init_ : Option Addr} {sl_m_init_ : Array (Option Value)} {oc_m_init_ kV_m_init_ dc_m_init_ pm_m_init_ cd_m_init_ ct_m_init_ : Value}
    {pa_sfull : Addr} {rs_sfull : List Value}
    {f_sfull : Addr} {od_sfull an_sfull : Option Addr} {sl_sfull : Array (Option Value)} {oc_sfull kV_sfull dc_sfull pm_sfull cd_sfull ct_sfull : Value}
    {C : Addr}
    {tk_MOST_ROOMS : Tok}
    (aC : PySem.W.nsIn K mainGlobals "House" = some (some (.ref C)))
    (pg : PySem.W.plainGet K C Str.empty = true)
    (hd : PySem.W.hasDictIn K C = true)
    (po : PySem.W.plainOver K C = true)
    (sa : PySem.W.findIn K (.ref C) "__setattr__" = some (some (.builtin "object.__setattr__")))
    (mk : PySem.W.makesIn K C = true)
    (kc : PySem.W.keepIn K (.ref C) = true)
    (a_check_room_count : PySem.W.nsIn K mainGlobals "check_room_count" = some (some (.ref f_check_room_count)))
    (l_check_room_count : K.lookup f_check_room_count = some ⟨oc_check_room_count, od_check_room_count, .func (PySem.W.fnOf "check_room_count" "check_room_count" (defArgs sRoom) (defBody sRoom) (defScope sRoom) .none kV_check_room_count dc_check_room_count pm_check_room_count an_check_room_count cd_check_room_count ct_check_room_count), sl_check_room_count⟩)
    (c_check_room_count : PySem.W.codeIn K cd_check_room_count "check_room_count" = true)
    (k_check_room_count : PySem.W.keepIn K (.ref f_check_room_count) = true)
    (a_checked_doors : PySem.W.nsIn K mainGlobals "checked_doors" = some (some (.ref f_checked_doors)))
    (l_checked_doors : K.lookup f_checked_doors = some ⟨oc_checked_doors, od_checked_doors, .func (PySem.W.fnOf "checked_doors" "checked_doors" (defArgs sChk) (defBody sChk) (defScope sChk) .none kV_checked_doors dc_checked_doors pm_checked_doors an_checked_doors cd_checked_doors ct_checked_doors), sl_checked_doors⟩)
    (c_checked_doors : PySem.W.codeIn K cd_checked_doors "checked_doors" = true)
    (k_checked_doors : PySem.W.keepIn K (.ref f_checked_doors) = true)
    (a_last_calls : PySem.W.nsIn K mainGlobals "last_calls" = some (some (.ref f_last_calls)))
    (l_last_calls : K.lookup f_last_calls = some ⟨oc_last_calls, od_last_calls, .func (PySem.W.fnOf "last_calls" "last_calls" (defArgs sLast) (defBody sLast) (defScope sLast) .none kV_last_calls dc_last_calls pm_last_calls an_last_calls cd_last_calls ct_last_calls), sl_last_calls⟩)
    (c_last_calls : PySem.W.codeIn K cd_last_calls "last_calls" = true)
    (k_last_calls : PySem.W.keepIn K (.ref f_last_calls) = true)
    (a_order_of : PySem.W.nsIn K mainGlobals "order_of" = some (some (.ref f_order_of)))
    (l_order_of : K.lookup f_order_of = some ⟨oc_order_of, od_order_of, .func (PySem.W.fnOf "order_of" "order_of" (defArgs sOrd) (defBody sOrd) (defScope sOrd) .none kV_order_of dc_order_of pm_order_of an_order_of cd_order_of ct_order_of), sl_order_of⟩)
    (c_order_of : PySem.W.codeIn K cd_order_of "order_of" = true)
    (k_order_of : PySem.W.keepIn K (.ref f_order_of) = true)
    (a_words_of : PySem.W.nsIn K mainGlobals "words_of" = some (some (.ref f_words_of)))
    (l_words_of : K.lookup f_words_of = some ⟨oc_words_of, od_words_of, .func (PySem.W.fnOf "words_of" "words_of" (defArgs sWds) (defBody sWds) (defScope sWds) .none kV_words_of dc_words_of pm_words_of an_words_of cd_words_of ct_words_of), sl_words_of⟩)
    (c_words_of : PySem.W.codeIn K cd_words_of "words_of" = true)
    (k_words_of : PySem.W.keepIn K (.ref f_words_of) = true)
    (a_last_call_in : PySem.W.nsIn K mainGlobals "last_call_in" = some (some (.ref f_last_call_in)))
    (l_last_call_in : K.lookup f_last_call_in = some ⟨oc_last_call_in, od_last_call_in, .func (PySem.W.fnOf "last_call_in" "last_call_in" (defArgs sLci) (defBody sLci) (defScope sLci) .none kV_last_call_in dc_last_call_in pm_last_call_in an_last_call_in cd_last_call_in ct_last_call_in), sl_last_call_in⟩)
    (c_last_call_in : PySem.W.codeIn K cd_last_call_in "last_call_in" = true)
    (k_last_call_in : PySem.W.keepIn K (.ref f_last_call_in) = true)
    (a_top_room : PySem.W.nsIn K mainGlobals "top_room" = some (some (.ref f_top_room)))
    (l_top_room : K.lookup f_top_room = some ⟨oc_top_room, od_top_room, .func (PySem.W.fnOf "top_room" "top_room" (defArgs sTopR) (defBody sTopR) (defScope sTopR) .none kV_top_room dc_top_room pm_top_room an_top_room cd_top_room ct_top_room), sl_top_room⟩)
    (c_top_room : PySem.W.codeIn K cd_top_room "top_room" = true)
    (k_top_room : PySem.W.keepIn K (.ref f_top_room) = true)
    (a_word_of : PySem.W.nsIn K mainGlobals "word_of" = some (some (.ref f_word_of)))
    (l_word_of : K.lookup f_word_of = some ⟨oc_word_of, od_word_of, .func (PySem.W.fnOf "word_of" "word_of" (defArgs sWof) (defBody sWof) (defScope sWof) .none kV_word_of dc_word_of pm_word_of an_word_of cd_word_of ct_word_of), sl_word_of⟩)
    (c_word_of : PySem.W.codeIn K cd_word_of "word_of" = true)
    (k_word_of : PySem.W.keepIn K (.ref f_word_of) = true)
    (a_log_of : PySem.W.nsIn K mainGlobals "log_of" = some (some (.ref f_log_of)))
    (l_log_of : K.lookup f_log_of = some ⟨oc_log_of, od_log_of, .func (PySem.W.fnOf "log_of" "log_of" (defArgs sLof) (defBody sLof) (defScope sLof) .none kV_log_of dc_log_of pm_log_of an_log_of cd_log_of ct_log_of), sl_log_of⟩)
    (c_log_of : PySem.W.codeIn K cd_log_of "log_of" = true)
    (k_log_of : PySem.W.keepIn K (.ref f_log_of) = true)
    (a__law_cell : PySem.W.nsIn K mainGlobals "_law_cell" = some (some (.ref f__law_cell)))
    (l__law_cell : K.lookup f__law_cell = some ⟨oc__law_cell, od__law_cell, .func (PySem.W.fnOf "_law_cell" "_law_cell" (defArgs sCell) (defBody sCell) (defScope sCell) .none kV__law_cell dc__law_cell pm__law_cell an__law_cell cd__law_cell ct__law_cell), sl__law_cell⟩)
    (c__law_cell : PySem.W.codeIn K cd__law_cell "_law_cell" = true)
    (k__law_cell : PySem.W.keepIn K (.ref f__law_cell) = true)
    (a__law_numbers : PySem.W.nsIn K mainGlobals "_law_numbers" = some (some (.ref f__law_numbers)))
    (l__law_numbers : K.lookup f__law_numbers = some ⟨oc__law_numbers, od__law_numbers, .func (PySem.W.fnOf "_law_numbers" "_law_numbers" (defArgs sNum) (defBody sNum) (defScope sNum) .none kV__law_numbers dc__law_numbers pm__law_numbers an__law_numbers cd__law_numbers ct__law_numbers), sl__law_numbers⟩)
    (c__law_numbers : PySem.W.codeIn K cd__law_numbers "_law_numbers" = true)
    (k__law_numbers : PySem.W.keepIn K (.ref f__law_numbers) = true)
    (a__law_names : PySem.W.nsIn K mainGlobals "_law_names" = some (some (.ref f__law_names)))
    (l__law_names : K.lookup f__law_names = some ⟨oc__law_names, od__law_names, .func (PySem.W.fnOf "_law_names" "_law_names" (defArgs sNam) (defBody sNam) (defScope sNam) .none kV__law_names dc__law_names pm__law_names an__law_names cd__law_names ct__law_names), sl__law_names⟩)
    (c__law_names : PySem.W.codeIn K cd__law_names "_law_names" = true)
    (k__law_names : PySem.W.keepIn K (.ref f__law_names) = true)
    (a__law_top : PySem.W.nsIn K mainGlobals "_law_top" = some (some (.ref f__law_top)))
    (l__law_top : K.lookup f__law_top = some ⟨oc__law_top, od__law_top, .func (PySem.W.fnOf "_law_top" "_law_top" (defArgs sLtop) (defBody sLtop) (defScope sLtop) .none kV__law_top dc__law_top pm__law_top an__law_top cd__law_top ct__law_top), sl__law_top⟩)
    (c__law_top : PySem.W.codeIn K cd__law_top "_law_top" = true)
    (k__law_top : PySem.W.keepIn K (.ref f__law_top) = true)
    (a__law_word_of : PySem.W.nsIn K mainGlobals "_law_word_of" = some (some (.ref f__law_word_of)))
    (l__law_word_of : K.lookup f__law_word_of = some ⟨oc__law_word_of, od__law_word_of, .func (PySem.W.fnOf "_law_word_of" "_law_word_of" (defArgs sLwof) (defBody sLwof) (defScope sLwof) .none kV__law_word_of dc__law_word_of pm__law_word_of an__law_word_of cd__law_word_of ct__law_word_of), sl__law_word_of⟩)
    (c__law_word_of : PySem.W.codeIn K cd__law_word_of "_law_word_of" = true)
    (k__law_word_of : PySem.W.keepIn K (.ref f__law_word_of) = true)
    (a__law_same : PySem.W.nsIn K mainGlobals "_law_same" = some (some (.ref f__law_same)))
    (l__law_same : K.lookup f__law_same = some ⟨oc__law_same, od__law_same, .func (PySem.W.fnOf "_law_same" "_law_same" (defArgs sSame) (defBody sSame) (defScope sSame) .none kV__law_same dc__law_same pm__law_same an__law_same cd__law_same ct__law_same), sl__law_same⟩)
    (c__law_same : PySem.W.codeIn K cd__law_same "_law_same" = true)
    (k__law_same : PySem.W.keepIn K (.ref f__law_same) = true)
    (a__law_last : PySem.W.nsIn K mainGlobals "_law_last" = some (some (.ref f__law_last)))
    (l__law_last : K.lookup f__law_last = some ⟨oc__law_last, od__law_last, .func (PySem.W.fnOf "_law_last" "_law_last" (defArgs sLlast) (defBody sLlast) (defScope sLlast) .none kV__law_last dc__law_last pm__law_last an__law_last cd__law_last ct__law_last), sl__law_last⟩)
    (c__law_last : PySem.W.codeIn K cd__law_last "_law_last" = true)
    (k__law_last : PySem.W.keepIn K (.ref f__law_last) = true)
    (a__law_spelled : PySem.W.nsIn K mainGlobals "_law_spelled" = some (some (.ref f__law_spelled)))
    (l__law_spelled : K.lookup f__law_spelled = some ⟨oc__law_spelled, od__law_spelled, .func (PySem.W.fnOf "_law_spelled" "_law_spelled" (defArgs sSpell) (defBody sSpell) (defScope sSpell) .none kV__law_spelled dc__law_spelled pm__law_spelled an__law_spelled cd__law_spelled ct__law_spelled), sl__law_spelled⟩)
    (c__law_spelled : PySem.W.codeIn K cd__law_spelled "_law_spelled" = true)
    (k__law_spelled : PySem.W.keepIn K (.ref f__law_spelled) = true)
    (a__law_pool : PySem.W.nsIn K mainGlobals "_law_pool" = some (some (.ref f__law_pool)))
    (l__law_pool : K.lookup f__law_pool = some ⟨oc__law_pool, od__law_pool, .func (PySem.W.fnOf "_law_pool" "_law_pool" (defArgs sPool) (defBody sPool) (defScope sPool) .none kV__law_pool dc__law_pool pm__law_pool an__law_pool cd__law_pool ct__law_pool), sl__law_pool⟩)
    (c__law_pool : PySem.W.codeIn K cd__law_pool "_law_pool" = true)
    (k__law_pool : PySem.W.keepIn K (.ref f__law_pool) = true)
    (a__law_size : PySem.W.nsIn K mainGlobals "_law_size" = some (some (.ref f__law_size)))
    (l__law_size : K.lookup f__law_size = some ⟨oc__law_size, od__law_size, .func (PySem.W.fnOf "_law_size" "_law_size" (defArgs sSize) (defBody sSize) (defScope sSize) .none kV__law_size dc__law_size pm__law_size an__law_size cd__law_size ct__law_size), sl__law_size⟩)
    (c__law_size : PySem.W.codeIn K cd__law_size "_law_size" = true)
    (k__law_size : PySem.W.keepIn K (.ref f__law_size) = true)
    (a__law_drawn : PySem.W.nsIn K mainGlobals "_law_drawn" = some (some (.ref f__law_drawn)))
    (l__law_drawn : K.lookup f__law_drawn = some ⟨oc__law_drawn, od__law_drawn, .func (PySem.W.fnOf "_law_drawn" "_law_drawn" (defArgs sDrawn) (defBody sDrawn) (defScope sDrawn) .none kV__law_drawn dc__law_drawn pm__law_drawn an__law_drawn cd__law_drawn ct__law_drawn), sl__law_drawn⟩)
    (c__law_drawn : PySem.W.codeIn K cd__law_drawn "_law_drawn" = true)
    (k__law_drawn : PySem.W.keepIn K (.ref f__law_drawn) = true)
    (a__law_chosen : PySem.W.nsIn K mainGlobals "_law_chosen" = some (some (.ref f__law_chosen)))
    (l__law_chosen : K.lookup f__law_chosen = some ⟨oc__law_chosen, od__law_chosen, .func (PySem.W.fnOf "_law_chosen" "_law_chosen" (defArgs sChosen) (defBody sChosen) (defScope sChosen) .none kV__law_chosen dc__law_chosen pm__law_chosen an__law_chosen cd__law_chosen ct__law_chosen), sl__law_chosen⟩)
    (c__law_chosen : PySem.W.codeIn K cd__law_chosen "_law_chosen" = true)
    (k__law_chosen : PySem.W.keepIn K (.ref f__law_chosen) = true)
    (a__law_set_right : PySem.W.nsIn K mainGlobals "_law_set_right" = some (some (.ref f__law_set_right)))
    (l__law_set_right : K.lookup f__law_set_right = some ⟨oc__law_set_right, od__law_set_right, .func (PySem.W.fnOf "_law_set_right" "_law_set_right" (defArgs sSetR) (defBody sSetR) (defScope sSetR) .none kV__law_set_right dc__law_set_right pm__law_set_right an__law_set_right cd__law_set_right ct__law_set_right), sl__law_set_right⟩)
    (c__law_set_right : PySem.W.codeIn K cd__law_set_right "_law_set_right" = true)
    (k__law_set_right : PySem.W.keepIn K (.ref f__law_set_right) = true)
    (a__law_log_right : PySem.W.nsIn K mainGlobals "_law_log_right" = some (some (.ref f__law_log_right)))
    (l__law_log_right : K.lookup f__law_log_right = some ⟨oc__law_log_right, od__law_log_right, .func (PySem.W.fnOf "_law_log_right" "_law_log_right" (defArgs sLogR) (defBody sLogR) (defScope sLogR) .none kV__law_log_right dc__law_log_right pm__law_log_right an__law_log_right cd__law_log_right ct__law_log_right), sl__law_log_right⟩)
    (c__law_log_right : PySem.W.codeIn K cd__law_log_right "_law_log_right" = true)
    (k__law_log_right : PySem.W.keepIn K (.ref f__law_log_right) = true)
    (a_law : PySem.W.nsIn K mainGlobals "law" = some (some (.ref f_law)))
    (l_law : K.lookup f_law = some ⟨oc_law, od_law, .func (PySem.W.fnOf "law" "law" (defArgs sLaw) (defBody sLaw) (defScope sLaw) .none kV_law dc_law pm_law an_law cd_law ct_law), sl_law⟩)
    (c_law : PySem.W.codeIn K cd_law "law" = true)
    (k_law : PySem.W.keepIn K (.ref f_law) = true)
    (a_m_init_ : PySem.W.findIn K (.ref C) "__init__" = some (some (.ref f_m_init_)))
    (l_m_init_ : K.lookup f_m_init_ = some ⟨oc_m_init_, od_m_init_, .func (PySem.W.fnOf "__init__" "House.__init__" (defArgs sHinit) (defBody sHinit) (defScope sHinit) .none kV_m_init_ dc_m_init_ pm_m_init_ an_m_init_ cd_m_init_ ct_m_init_), sl_m_init_⟩)
    (c_m_init_ : PySem.W.codeIn K cd_m_init_ "House.__init__" = true)
    (k_m_init_ : PySem.W.keepIn K (.ref f_m_init_) = true)
    (i_m_init_ : PySem.W.isFn K (.ref f_m_init_) = true)
    (a_sfull : PySem.W.findCls K (.ref C) (.type "type") "full" = some (.get (.builtin "staticmethod.__get__") (.ref pa_sfull) .none (.ref C)))
    (r_sfull : PySem.W.recIn K pa_sfull "staticmethod" = some (.ref f_sfull :: rs_sfull))
    (l_sfull : K.lookup f_sfull = some ⟨oc_sfull, od_sfull, .func (PySem.W.fnOf "full" "House.full" (defArgs sHfull) (defBody sHfull) (defScope sHfull) .none kV_sfull dc_sfull pm_sfull an_sfull cd_sfull ct_sfull), sl_sfull⟩)
    (c_sfull : PySem.W.codeIn K cd_sfull "House.full" = true)
    (k_sfull : PySem.W.keepIn K (.ref f_sfull) = true)
    (n_rooms : PySem.W.findIn K (.ref C) "rooms" = some none)
    (n__doors : PySem.W.findIn K (.ref C) "_doors" = some none)
    (n__near : PySem.W.findIn K (.ref C) "_near" = some none)
    (cr1 : PySem.W.readsIn K C (.type "type") = true)
    (cr2 : PySem.W.specialIn K (.ref C) "__getattribute__" = some (some (.builtin "type.__getattribute__")))
    (cv_MOST_ROOMS : PySem.W.findCls K (.ref C) (.type "type") "MOST_ROOMS" = some (.val (.int 12 tk_MOST_ROOMS)))
    (z_len : PySem.W.nsIn K mainGlobals "len" = some none)
    (z_abs : PySem.W.nsIn K mainGlobals "abs" = some none)
    (z_int : PySem.W.nsIn K mainGlobals "int" = some none)
    (z_range : PySem.W.nsIn K mainGlobals "range" = some none)
    (z_list : PySem.W.nsIn K mainGlobals "list" = some none)
    (z_tuple : PySem.W.nsIn K mainGlobals "tuple" = some none)
    (z_min : PySem.W.nsIn K mainGlobals "min" = some none)
    (z_max : PySem.W.nsIn K mainGlobals "max" = some none)
    (z_sorted : PySem.W.nsIn K mainGlobals "sorted" = some none)
    (z_isinstance : PySem.W.nsIn K mainGlobals "isinstance" = some none)
    (z_bool : PySem.W.nsIn K mainGlobals "bool" = some none)
    (z_str : PySem.W.nsIn K mainGlobals "str" = some none)
    (z_set : PySem.W.nsIn K mainGlobals "set" = some none)
    (z_enumerate : PySem.W.nsIn K mainGlobals "enumerate" = some none)
    (z_reversed : PySem.W.nsIn K mainGlobals "reversed" = some none) :
    ∃ fd : FuncData, (∀ (s : Shared) (v : Value), BindsTo s fd ⟨[v], []⟩ [("script", v)]) ∧ ∀ base : Heap, K.In base → base.Ns mainGlobals mg → FnOk l.prog w K mg base CX0 6 fa fd ["script"] (spLaw K) := by
  have e := hfa.symm.trans (PySem.W.mg_of X G a_law)
  cases e
  have T : Bi mg := ⟨PySem.W.mg_none_of X G z_len, PySem.W.mg_none_of X G z_abs, PySem.W.mg_none_of X G z_int, PySem.W.mg_none_of X G z_range, PySem.W.mg_none_of X G z_list, PySem.W.mg_none_of X G z_tuple, PySem.W.mg_none_of X G z_min, PySem.W.mg_none_of X G z_max, PySem.W.mg_none_of X G z_sorted, PySem.W.mg_none_of X G z_isinstance, PySem.W.mg_none_of X G z_bool, PySem.W.mg_none_of X G z_str, PySem.W.mg_none_of X G z_set, PySem.W.mg_none_of X G z_enumerate⟩
  have F_check_room_count := fun_mk (st := sRoom) l_check_room_count c_check_room_count k_check_room_count
  have at_check_room_count := PySem.W.mg_of X G a_check_room_count
  have b_check_room_count := F_check_room_count.binds (ps := ["rooms"]) fun _ _ _ _ _ _ us hl => match us, hl with | [_], _ => rfl
  have F_checked_doors := fun_mk (st := sChk) l_checked_doors c_checked_doors k_checked_doors
  have at_checked_doors := PySem.W.mg_of X G a_checked_doors
  have b_checked_doors := F_checked_doors.binds (ps := ["rooms", "doors"]) fun _ _ _ _ _ _ us hl => match us, hl with | [_, _], _ => rfl
  have F_last_calls := fun_mk (st := sLast) l_last_calls c_last_calls k_last_calls
  have at_last_calls := PySem.W.mg_of X G a_last_calls
  have b_last_calls := F_last_calls.binds (ps := ["log"]) fun _ _ _ _ _ _ us hl => match us, hl with | [_], _ => rfl
  have F_order_of := fun_mk (st := sOrd) l_order_of c_order_of k_order_of
  have at_order_of := PySem.W.mg_of X G a_order_of
  have b_order_of := F_order_of.binds (ps := ["log"]) fun _ _ _ _ _ _ us hl => match us, hl with | [_], _ => rfl
  have F_words_of := fun_mk (st := sWds) l_words_of c_words_of k_words_of
  have at_words_of := PySem.W.mg_of X G a_words_of
  have b_words_of := F_words_of.binds (ps := ["house", "log"]) fun _ _ _ _ _ _ us hl => match us, hl with | [_, _], _ => rfl
  have F_last_call_in := fun_mk (st := sLci) l_last_call_in c_last_call_in k_last_call_in
  have at_last_call_in := PySem.W.mg_of X G a_last_call_in
  have b_last_call_in := F_last_call_in.binds (ps := ["log", "rooms"]) fun _ _ _ _ _ _ us hl => match us, hl with | [_, _], _ => rfl
  have F_top_room := fun_mk (st := sTopR) l_top_room c_top_room k_top_room
  have at_top_room := PySem.W.mg_of X G a_top_room
  have b_top_room := F_top_room.binds (ps := ["log", "rooms"]) fun _ _ _ _ _ _ us hl => match us, hl with | [_, _], _ => rfl
  have F_word_of := fun_mk (st := sWof) l_word_of c_word_of k_word_of
  have at_word_of := PySem.W.mg_of X G a_word_of
  have b_word_of := F_word_of.binds (ps := ["log", "rooms"]) fun _ _ _ _ _ _ us hl => match us, hl with | [_, _], _ => rfl
  have F_log_of := fun_mk (st := sLof) l_log_of c_log_of k_log_of
  have at_log_of := PySem.W.mg_of X G a_log_of
  have b_log_of := F_log_of.binds (ps := ["words", "order"]) fun _ _ _ _ _ _ us hl => match us, hl with | [_, _], _ => rfl
  have F__law_cell := fun_mk (st := sCell) l__law_cell c__law_cell k__law_cell
  have at__law_cell := PySem.W.mg_of X G a__law_cell
  have b__law_cell := F__law_cell.binds (ps := ["script", "k"]) fun _ _ _ _ _ _ us hl => match us, hl with | [_, _], _ => rfl
  have F__law_numbers := fun_mk (st := sNum) l__law_numbers c__law_numbers k__law_numbers
  have at__law_numbers := PySem.W.mg_of X G a__law_numbers
  have b__law_numbers := F__law_numbers.binds (ps := ["cell", "count"]) fun _ _ _ _ _ _ us hl => match us, hl with | [_, _], _ => rfl
  have F__law_names := fun_mk (st := sNam) l__law_names c__law_names k__law_names
  have at__law_names := PySem.W.mg_of X G a__law_names
  have b__law_names := F__law_names.binds (ps := ["numbers", "at", "rooms"]) fun _ _ _ _ _ _ us hl => match us, hl with | [_, _, _], _ => rfl
  have F__law_top := fun_mk (st := sLtop) l__law_top c__law_top k__law_top
  have at__law_top := PySem.W.mg_of X G a__law_top
  have b__law_top := F__law_top.binds (ps := ["log", "rooms"]) fun _ _ _ _ _ _ us hl => match us, hl with | [_, _], _ => rfl
  have F__law_word_of := fun_mk (st := sLwof) l__law_word_of c__law_word_of k__law_word_of
  have at__law_word_of := PySem.W.mg_of X G a__law_word_of
  have b__law_word_of := F__law_word_of.binds (ps := ["log", "rooms"]) fun _ _ _ _ _ _ us hl => match us, hl with | [_, _], _ => rfl
  have F__law_same := fun_mk (st := sSame) l__law_same c__law_same k__law_same
  have at__law_same := PySem.W.mg_of X G a__law_same
  have b__law_same := F__law_same.binds (ps := ["got", "due"]) fun _ _ _ _ _ _ us hl => match us, hl with | [_, _], _ => rfl
  have F__law_last := fun_mk (st := sLlast) l__law_last c__law_last k__law_last
  have at__law_last := PySem.W.mg_of X G a__law_last
  have b__law_last := F__law_last.binds (ps := ["log"]) fun _ _ _ _ _ _ us hl => match us, hl with | [_], _ => rfl
  have F__law_spelled := fun_mk (st := sSpell) l__law_spelled c__law_spelled k__law_spelled
  have at__law_spelled := PySem.W.mg_of X G a__law_spelled
  have b__law_spelled := F__law_spelled.binds (ps := ["numbers", "at"]) fun _ _ _ _ _ _ us hl => match us, hl with | [_, _], _ => rfl
  have F__law_pool := fun_mk (st := sPool) l__law_pool c__law_pool k__law_pool
  have at__law_pool := PySem.W.mg_of X G a__law_pool
  have b__law_pool := F__law_pool.binds (ps := ["numbers", "at", "many"]) fun _ _ _ _ _ _ us hl => match us, hl with | [_, _, _], _ => rfl
  have F__law_size := fun_mk (st := sSize) l__law_size c__law_size k__law_size
  have at__law_size := PySem.W.mg_of X G a__law_size
  have b__law_size := F__law_size.binds (ps := ["number", "few", "most"]) fun _ _ _ _ _ _ us hl => match us, hl with | [_, _, _], _ => rfl
  have F__law_drawn := fun_mk (st := sDrawn) l__law_drawn c__law_drawn k__law_drawn
  have at__law_drawn := PySem.W.mg_of X G a__law_drawn
  have b__law_drawn := F__law_drawn.binds (ps := ["numbers", "many", "rooms", "pool"]) fun _ _ _ _ _ _ us hl => match us, hl with | [_, _, _, _], _ => rfl
  have F__law_chosen := fun_mk (st := sChosen) l__law_chosen c__law_chosen k__law_chosen
  have at__law_chosen := PySem.W.mg_of X G a__law_chosen
  have b__law_chosen := F__law_chosen.binds (ps := ["numbers", "rooms"]) fun _ _ _ _ _ _ us hl => match us, hl with | [_, _], _ => rfl
  have F__law_set_right := fun_mk (st := sSetR) l__law_set_right c__law_set_right k__law_set_right
  have at__law_set_right := PySem.W.mg_of X G a__law_set_right
  have b__law_set_right := F__law_set_right.binds (ps := ["log", "rooms"]) fun _ _ _ _ _ _ us hl => match us, hl with | [_, _], _ => rfl
  have F__law_log_right := fun_mk (st := sLogR) l__law_log_right c__law_log_right k__law_log_right
  have at__law_log_right := PySem.W.mg_of X G a__law_log_right
  have b__law_log_right := F__law_log_right.binds (ps := ["house", "rooms", "log", "chosen"]) fun _ _ _ _ _ _ us hl => match us, hl with | [_, _, _, _], _ => rfl
  have F_law := fun_mk (st := sLaw) l_law c_law k_law
  have at_law := PySem.W.mg_of X G a_law
  have F_m_init_ := fun_mk (st := sHinit) l_m_init_ c_m_init_ k_m_init_
  have b_m_init_ := F_m_init_.binds (ps := ["self", "rooms", "doors"]) fun _ _ _ _ _ _ us hl => match us, hl with | [_, _, _], _ => rfl
  have mk_ : Mk K C f_m_init_ := ⟨mk, a_m_init_, i_m_init_, kc⟩
  have F_sfull := fun_mk (st := sHfull) l_sfull c_sfull k_sfull
  have b_sfull := F_sfull.binds (ps := ["rooms"]) fun _ _ _ _ _ _ us hl => match us, hl with | [_], _ => rfl
  have st_sfull : Smt K C "full" pa_sfull f_sfull := ⟨cr1, cr2, a_sfull, ⟨_, r_sfull⟩, k_sfull⟩
  have mrev := PySem.W.mg_none_of X G z_reversed
  have U : Hs K mg C := ⟨⟨pg, hd, po, sa⟩, n_rooms, n__doors, n__near, PySem.W.mg_of X G aC, ⟨.type "type", _, ⟨cr1, cr2⟩, ⟨cv_MOST_ROOMS, ⟨_, rfl⟩⟩⟩⟩
  refine ⟨PySem.W.fnOf "law" "law" (defArgs sLaw) (defBody sLaw) (defScope sLaw) .none kV_law dc_law pm_law an_law cd_law ct_law, fun s v => .of_eq rfl, fun base _ _ => ?_⟩
  have R1 : Df l.prog w K mg base "check_room_count" _ 1 spRoom _ _ := ⟨at_check_room_count, k_check_room_count, b_check_room_count, ok_room F_check_room_count U⟩
  have R2 : Df l.prog w K mg base "checked_doors" _ 1 spChk _ _ := ⟨at_checked_doors, k_checked_doors, b_checked_doors, ok_chk F_checked_doors T⟩
  have E1 : Df l.prog w K mg base "last_calls" _ 1 spLast _ _ := ⟨at_last_calls, k_last_calls, b_last_calls, ok_last F_last_calls T mrev⟩
  have E2 : Df l.prog w K mg base "order_of" _ 2 spOrd _ _ := ⟨at_order_of, k_order_of, b_order_of, ok_ord F_order_of T E1⟩
  have E3 : Df l.prog w K mg base "words_of" _ 1 (spWds C) _ _ := ⟨at_words_of, k_words_of, b_words_of, ok_wds F_words_of U⟩
  have E4 : Df l.prog w K mg base "last_call_in" _ 1 (spLci K) _ _ := ⟨at_last_call_in, k_last_call_in, b_last_call_in, ok_lci F_last_call_in mrev⟩
  have E5 : Df l.prog w K mg base "top_room" _ 2 (spTopR K optR) _ _ := ⟨at_top_room, k_top_room, b_top_room, ok_topR F_top_room E4⟩
  have E6 : Df l.prog w K mg base "word_of" _ 2 (spTopR K optW) _ _ := ⟨at_word_of, k_word_of, b_word_of, ok_wof F_word_of E4⟩
  have E7 : Df l.prog w K mg base "log_of" _ 1 (spLof K) _ _ := ⟨at_log_of, k_log_of, b_log_of, ok_lof F_log_of⟩
  have D1 : Df l.prog w K mg base "_law_cell" _ 1 (spCell K) _ _ := ⟨at__law_cell, k__law_cell, b__law_cell, ok_cell F__law_cell T⟩
  have D2 : Df l.prog w K mg base "_law_numbers" _ 1 (spNum K) _ _ := ⟨at__law_numbers, k__law_numbers, b__law_numbers, ok_num F__law_numbers T⟩
  have D3 : Df l.prog w K mg base "_law_names" _ 1 (spNam K) _ _ := ⟨at__law_names, k__law_names, b__law_names, ok_nam F__law_names T⟩
  have D4 : Df l.prog w K mg base "_law_top" _ 1 (spTopR K optR) _ _ := ⟨at__law_top, k__law_top, b__law_top, ok_ltop F__law_top⟩
  have D5 : Df l.prog w K mg base "_law_word_of" _ 1 (spTopR K optW) _ _ := ⟨at__law_word_of, k__law_word_of, b__law_word_of, ok_lwof F__law_word_of⟩
  have D6 : Df l.prog w K mg base "_law_same" _ 3 (spSame 2) _ _ := ⟨at__law_same, k__law_same, b__law_same, ok_same F__law_same T b__law_same at__law_same 2⟩
  have D7 : Df l.prog w K mg base "_law_last" _ 1 spLast _ _ := ⟨at__law_last, k__law_last, b__law_last, ok_llast F__law_last T⟩
  have D8 : Df l.prog w K mg base "_law_spelled" _ 1 (spSpell K) _ _ := ⟨at__law_spelled, k__law_spelled, b__law_spelled, ok_spell F__law_spelled T⟩
  have D9 : Df l.prog w K mg base "_law_pool" _ 2 (spPool K) _ _ := ⟨at__law_pool, k__law_pool, b__law_pool, ok_pool F__law_pool T D8⟩
  have D10 : Df l.prog w K mg base "_law_size" _ 1 spSize _ _ := ⟨at__law_size, k__law_size, b__law_size, ok_size F__law_size T⟩
  have D11 : Df l.prog w K mg base "_law_drawn" _ 2 (spDrawn K) _ _ := ⟨at__law_drawn, k__law_drawn, b__law_drawn, ok_drawn F__law_drawn T D8⟩
  have D12 : Df l.prog w K mg base "_law_chosen" _ 2 (spChosen K) _ _ := ⟨at__law_chosen, k__law_chosen, b__law_chosen, ok_chosen F__law_chosen T D3⟩
  have D13 : Df l.prog w K mg base "_law_set_right" _ 4 spSetR _ _ := ⟨at__law_set_right, k__law_set_right, b__law_set_right, ok_setR F__law_set_right T D4 D5 E5 E6 D6⟩
  have D14 : Df l.prog w K mg base "_law_log_right" _ 5 (spLogR C) _ _ := ⟨at__law_log_right, k__law_log_right, b__law_log_right, ok_logR F__law_log_right T D7 E1 E2 E3 E7 D13 D6⟩
  have GI := ok_hinit F_m_init_ T U R1 R2
  exact ok_law F_law T U mk_ GI b_m_init_ st_sfull (ok_hfull F_sfull T U mk_ GI b_m_init_ R1) b_sfull D1 D2 D9 D10 D11 D12 D7 D14
theorem walk {l : PySem.W.OpenLaw} {q : Program} {loose : List Str} {XP : (Str → Option Value) → Heap → Prop} {YP : World → Heap → Prop} {d : DefRec} {K : Params → PySem.W.Frag} (hn : l.most = some 63) (hdf : d.params.defaults = [])
    (hY : ∀ (w : World) (h : Heap), YP w h → (K w.params).In h)
    (F : ∀ (w : World) (mg : Str → Option Value) (fa : Addr) (h : Heap), (K w.params).In h → h.Ns mainGlobals mg → mg d.name = some (.ref fa) →
      ∃ fd : FuncData, (∀ (s : Shared) (u : Value), BindsTo s fd ⟨[u], []⟩ [("script", u)]) ∧ ∀ base : Heap, (K w.params).In base → base.Ns mainGlobals mg → FnOk l.prog w (K w.params) mg base CX0 6 fa fd ["script"] (spLaw (K w.params))) :
    PySem.W.WalkO q loose XP YP l.row.toRowW d [] (fun f vs => PySem.call f vs) :=
  L2.walk_of (n := 63) (k := 6) (x := "script") (CX := fun _ => CX0) (sp := fun w => spLaw (K w.params)) hn (by decide) hdf ⟨rfl, by decide, by decide⟩ hY F (fun _ _ a ns hl _ hS => ⟨a, ns, rfl, hS, hl, fun _ => rfl⟩) fun _ _ _ _ _ z => z
end My

open PySem PySem.W PyProof.Rows in
set_option maxRecDepth 100000 in
set_option maxHeartbeats 0 in
theorem PySem.Challenge.cw_callsheard_k05_last_calls_holds : PySem.Challenge.rw_callsheard_k05_last_calls.Holds := by
  w_on; o_law; k_head; (case hw => w_witness2)
  k_fill
  refine My.walk (l := PySem.Challenge.rw_callsheard_k05_last_calls) rfl rfl (fun w h Y => PySem.W.kIn_of Y) ?F
  case F =>
    intro w mg fa h KX G hmg
    refine' My.all_mk KX G hmg ?aC ?pg ?hd ?po ?sa ?mk ?kc ?a_check_room_count ?l_check_room_count ?c_check_room_count ?k_check_room_count ?a_checked_doors ?l_checked_doors ?c_checked_doors ?k_checked_doors ?a_last_calls ?l_last_calls ?c_last_calls ?k_last_calls ?a_order_of ?l_order_of ?c_order_of ?k_order_of ?a_words_of ?l_words_of ?c_words_of ?k_words_of ?a_last_call_in ?l_last_call_in ?c_last_call_in ?k_last_call_in ?a_top_room ?l_top_room ?c_top_room ?k_top_room ?a_word_of ?l_word_of ?c_word_of ?k_word_of ?a_log_of ?l_log_of ?c_log_of ?k_log_of ?a__law_cell ?l__law_cell ?c__law_cell ?k__law_cell ?a__law_numbers ?l__law_numbers ?c__law_numbers ?k__law_numbers ?a__law_names ?l__law_names ?c__law_names ?k__law_names ?a__law_top ?l__law_top ?c__law_top ?k__law_top ?a__law_word_of ?l__law_word_of ?c__law_word_of ?k__law_word_of ?a__law_same ?l__law_same ?c__law_same ?k__law_same ?a__law_last ?l__law_last ?c__law_last ?k__law_last ?a__law_spelled ?l__law_spelled ?c__law_spelled ?k__law_spelled ?a__law_pool ?l__law_pool ?c__law_pool ?k__law_pool ?a__law_size ?l__law_size ?c__law_size ?k__law_size ?a__law_drawn ?l__law_drawn ?c__law_drawn ?k__law_drawn ?a__law_chosen ?l__law_chosen ?c__law_chosen ?k__law_chosen ?a__law_set_right ?l__law_set_right ?c__law_set_right ?k__law_set_right ?a__law_log_right ?l__law_log_right ?c__law_log_right ?k__law_log_right ?a_law ?l_law ?c_law ?k_law ?a_m_init_ ?l_m_init_ ?c_m_init_ ?k_m_init_ ?i_m_init_ ?a_sfull ?r_sfull ?l_sfull ?c_sfull ?k_sfull ?n_rooms ?n__doors ?n__near ?cr1 ?cr2 ?cv_MOST_ROOMS ?z_len ?z_abs ?z_int ?z_range ?z_list ?z_tuple ?z_min ?z_max ?z_sorted ?z_isinstance ?z_bool ?z_str ?z_set ?z_enumerate ?z_reversed
    (case aC => k_is)
    (case pg => k_is)
    (case hd => k_is)
    (case po => k_is)
    (case sa => k_is)
    (case mk => k_is)
    (case kc => k_is)
    (case a_check_room_count => k_is)
    (case l_check_room_count => k_is)
    (case c_check_room_count => k_is)
    (case k_check_room_count => k_is)
    (case a_checked_doors => k_is)
    (case l_checked_doors => k_is)
    (case c_checked_doors => k_is)
    (case k_checked_doors => k_is)
    (case a_last_calls => k_is)
    (case l_last_calls => k_is)
    (case c_last_calls => k_is)
    (case k_last_calls => k_is)
    (case a_order_of => k_is)
    (case l_order_of => k_is)
    (case c_order_of => k_is)
    (case k_order_of => k_is)
    (case a_words_of => k_is)
    (case l_words_of => k_is)
    (case c_words_of => k_is)
    (case k_words_of => k_is)
    (case a_last_call_in => k_is)
    (case l_last_call_in => k_is)
    (case c_last_call_in => k_is)
    (case k_last_call_in => k_is)
    (case a_top_room => k_is)
    (case l_top_room => k_is)
    (case c_top_room => k_is)
    (case k_top_room => k_is)
    (case a_word_of => k_is)
    (case l_word_of => k_is)
    (case c_word_of => k_is)
    (case k_word_of => k_is)
    (case a_log_of => k_is)
    (case l_log_of => k_is)
    (case c_log_of => k_is)
    (case k_log_of => k_is)
    (case a__law_cell => k_is)
    (case l__law_cell => k_is)
    (case c__law_cell => k_is)
    (case k__law_cell => k_is)
    (case a__law_numbers => k_is)
    (case l__law_numbers => k_is)
    (case c__law_numbers => k_is)
    (case k__law_numbers => k_is)
    (case a__law_names => k_is)
    (case l__law_names => k_is)
    (case c__law_names => k_is)
    (case k__law_names => k_is)
    (case a__law_top => k_is)
    (case l__law_top => k_is)
    (case c__law_top => k_is)
    (case k__law_top => k_is)
    (case a__law_word_of => k_is)
    (case l__law_word_of => k_is)
    (case c__law_word_of => k_is)
    (case k__law_word_of => k_is)
    (case a__law_same => k_is)
    (case l__law_same => k_is)
    (case c__law_same => k_is)
    (case k__law_same => k_is)
    (case a__law_last => k_is)
    (case l__law_last => k_is)
    (case c__law_last => k_is)
    (case k__law_last => k_is)
    (case a__law_spelled => k_is)
    (case l__law_spelled => k_is)
    (case c__law_spelled => k_is)
    (case k__law_spelled => k_is)
    (case a__law_pool => k_is)
    (case l__law_pool => k_is)
    (case c__law_pool => k_is)
    (case k__law_pool => k_is)
    (case a__law_size => k_is)
    (case l__law_size => k_is)
    (case c__law_size => k_is)
    (case k__law_size => k_is)
    (case a__law_drawn => k_is)
    (case l__law_drawn => k_is)
    (case c__law_drawn => k_is)
    (case k__law_drawn => k_is)
    (case a__law_chosen => k_is)
    (case l__law_chosen => k_is)
    (case c__law_chosen => k_is)
    (case k__law_chosen => k_is)
    (case a__law_set_right => k_is)
    (case l__law_set_right => k_is)
    (case c__law_set_right => k_is)
    (case k__law_set_right => k_is)
    (case a__law_log_right => k_is)
    (case l__law_log_right => k_is)
    (case c__law_log_right => k_is)
    (case k__law_log_right => k_is)
    (case a_law => k_is)
    (case l_law => k_is)
    (case c_law => k_is)
    (case k_law => k_is)
    (case a_m_init_ => k_is)
    (case l_m_init_ => k_is)
    (case c_m_init_ => k_is)
    (case k_m_init_ => k_is)
    (case i_m_init_ => k_is)
    (case a_sfull => k_is)
    (case r_sfull => k_is)
    (case l_sfull => k_is)
    (case c_sfull => k_is)
    (case k_sfull => k_is)
    (case n_rooms => k_is)
    (case n__doors => k_is)
    (case n__near => k_is)
    (case cr1 => k_is)
    (case cr2 => k_is)
    (case cv_MOST_ROOMS => k_is)
    (case z_len => k_is)
    (case z_abs => k_is)
    (case z_int => k_is)
    (case z_range => k_is)
    (case z_list => k_is)
    (case z_tuple => k_is)
    (case z_min => k_is)
    (case z_max => k_is)
    (case z_sorted => k_is)
    (case z_isinstance => k_is)
    (case z_bool => k_is)
    (case z_str => k_is)
    (case z_set => k_is)
    (case z_enumerate => k_is)
    (case z_reversed => k_is)


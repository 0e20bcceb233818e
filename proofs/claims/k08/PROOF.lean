import PyProof.Rows.All
import Wide.All
import OpenK.AllK
import Wide.FinOn
import HandS.ForMost
import HandS.SortRule
import HandS.IsInst
import HandS.Deep
import HandS.Property
import HandS.TupSets
import HandS.Style
import HandS.Conv
import HandS.Evl
import HandS.ClsMeth
import HandS.ExcInit
import HandS.ExcField
import HandS.ExcOwn
import HandS.WordsExc
import KE.KExcIs
import KE.KIsAll
import HandS.Codes
import HandS.ExcIs
import PySem.Challenge.RW_callsheard_k08_all_openings
set_option Elab.async false
set_option linter.all false
set_option maxRecDepth 100000
namespace My
open PySem PySem.Spec PyProof.Rows L2
theorem cxK {CX : CXT} {P : Program} {w : World} {K : PySem.W.Frag} {mg : Str → Option Value} {base : Heap} {N : List Str} {q : Str} {sc : Scope} {f : Addr} {cdv : Value} {A : Around} {outer : List Env} {s : Shared} {H : Hp} {E : XK} : (cxOf CX P w K mg base N q sc f cdv A outer s H E).nox.K = K := rfl
theorem cxK2 {CX : CXT} {P : Program} {w : World} {K : PySem.W.Frag} {mg : Str → Option Value} {base : Heap} {N : List Str} {q : Str} {sc : Scope} {f : Addr} {cdv : Value} {A : Around} {outer : List Env} {s : Shared} {H : Hp} {E : XK} : (cxOf CX P w K mg base N q sc f cdv A outer s H E).K = K := rfl
theorem cxP {CX : CXT} {P : Program} {w : World} {K : PySem.W.Frag} {mg : Str → Option Value} {base : Heap} {N : List Str} {q : Str} {sc : Scope} {f : Addr} {cdv : Value} {A : Around} {outer : List Env} {s : Shared} {H : Hp} {E : XK} : (cxOf CX P w K mg base N q sc f cdv A outer s H E).prog = P := rfl
theorem cxW {CX : CXT} {P : Program} {w : World} {K : PySem.W.Frag} {mg : Str → Option Value} {base : Heap} {N : List Str} {q : Str} {sc : Scope} {f : Addr} {cdv : Value} {A : Around} {outer : List Env} {s : Shared} {H : Hp} {E : XK} : (cxOf CX P w K mg base N q sc f cdv A outer s H E).w = w := rfl
/-- built-in names that the text has not bound -/
structure Bi (mg : Str → Option Value) : Prop where
  len : mg "len" = none
  abs : mg "abs" = none
  int : mg "int" = none
  range : mg "range" = none
  list : mg "list" = none
  tuple : mg "tuple" = none
  min : mg "min" = none
  max : mg "max" = none
  sorted : mg "sorted" = none
  isinstance : mg "isinstance" = none
  bool : mg "bool" = none
  str : mg "str" = none
  set : mg "set" = none
  enumerate : mg "enumerate" = none
/-- a def of the text, bound in the module, that keeps a promise -/
structure Df (P : Program) (w : World) (K : PySem.W.Frag) (mg : Str → Option Value) (base : Heap) (x : Str) (ps : List Str) (k : Nat) (sp : Sp) (f : Addr) (fd : FuncData) : Prop where
  at_ : mg x = some (.ref f)
  kp : PySem.W.keepIn K (.ref f) = true
  b : Binds K fd ps []
  ok : FnOk P w K mg base CX0 k f fd ps sp
local macro_rules | `(tactic| walk_at "rd") => `(tactic| try simp only [cxK, cxK2, cxP, cxW, L2.start, List.length_cons, List.length_nil, List.replicate_succ, List.replicate_zero, List.map_cons, List.map_nil, List.cons_append, List.nil_append, tVar, tC, tAdd, tSub, t2I, tIsN, tNotN, tB, tAnd, tOr, tNot, tAndV, tOrV, tNotV, tIf, tNext, tSeq, tBreak, tCont, tDrop, tRet, tRetN, tIfS, gName, gNil, gCons, gTup, gSub, tAsg, tOp, tUn, rI, rI0, rU, tTest, tChain, tNil, tCons, tTup, tLst, tCall, tCB, tNoPart, tPart, tSl, rIxL, rIxT, rIxS, rSetL, rAppend, rExtend, tBM, tBM0, tFld, tMeth, tMake, sFld, tYes, tLstRg, tRg1, tRg2, rSlL, iRng1, iRng2, iList, List.getElem?_cons_zero, List.getElem?_cons_succ, Option.some.injEq, List.cons.injEq, V.int.injEq, V.ref.injEq, V.bl.injEq, V.str.injEq, exists_eq_left', exists_eq_left, exists_eq_right, exists_eq_right', true_and, and_true, and_assoc, exists_and_left, exists_and_right, List.set_cons_zero, List.set_cons_succ, List.append_nil, reduceCtorEq, false_and, and_false, exists_false, or_false, false_or, decide_eq_true_eq, Nat.reduceAdd, Nat.reduceSub])
section
variable {X : Cx}
theorem cr_intI : CallR X (.type "int") (fun xs H Q => ∃ i, xs = [.int i] ∧ Q (.int i) H) := fun pins s σ H xs us Q I r h => call_int1 pins s σ H xs us Q I r (.inl h)
theorem op_eqI : OpR X (compareOp .Eq) (rI0 fun i j => .bl (decide (i = j))) := fun pins s σ H x y v u Q I rx ry h => by
  obtain ⟨i, j, rfl, rfl, q⟩ := h
  have e : decide (i = j) = decide (V.int i = V.int j) := by
    by_cases h : i = j
    · subst h
      rw [decide_eq_true rfl, decide_eq_true rfl]
    · rw [decide_eq_false h, decide_eq_false (fun z => h (V.int.inj z))]
  exact op_eq pins s σ H _ _ v u Q I rx ry ⟨rfl, by rw [← e]; exact q⟩
theorem op_neI : OpR X (compareOp .NotEq) (rI0 fun i j => .bl (!decide (i = j))) := fun pins s σ H x y v u Q I rx ry h => by
  obtain ⟨i, j, rfl, rfl, q⟩ := h
  have e : decide (i = j) = decide (V.int i = V.int j) := by
    by_cases h : i = j
    · subst h
      rw [decide_eq_true rfl, decide_eq_true rfl]
    · rw [decide_eq_false h, decide_eq_false (fun z => h (V.int.inj z))]
  exact op_ne pins s σ H _ _ v u Q I rx ry ⟨rfl, by rw [← e]; exact q⟩
def rIsT : R2 := fun x y H Q => ∃ b : Bool, y = .bl b ∧ Q (.bl (decide (x = .bl b))) H
/-- x is True, x is False -/
theorem op_isT : OpR X (compareOp .Is) rIsT := by
  intro pins s σ H x y v u Q I rx ry h
  obtain ⟨b, rfl, q⟩ := h
  cases (show u = Value.bool b from ry)
  cases x with
  | non => cases (show v = Value.none from rx); exact wpAny_is_other rfl (fun z => nomatch z) ⟨.bl false, H, I, rfl, by simpa using q⟩
  | bl a =>
    cases (show v = Value.bool a from rx)
    by_cases e : a = b
    · subst e
      exact wpAny_is_self rfl ⟨.bl true, H, I, rfl, by simpa using q⟩
    · exact wpAny_is_other rfl (fun z => e (Value.bool.inj z)) ⟨.bl false, H, I, rfl, by simpa [e] using q⟩
  | int i => obtain ⟨t, e⟩ := (show ∃ t, v = Value.int i t from rx); cases e; exact wpAny_is_other rfl (fun z => nomatch z) ⟨.bl false, H, I, rfl, by simpa using q⟩
  | str i => obtain ⟨t, e⟩ := (show ∃ t, v = Value.str i t from rx); cases e; exact wpAny_is_other rfl (fun z => nomatch z) ⟨.bl false, H, I, rfl, by simpa using q⟩
  | byt i => obtain ⟨t, e⟩ := (show ∃ t, v = Value.bytes i t from rx); cases e; exact wpAny_is_other rfl (fun z => nomatch z) ⟨.bl false, H, I, rfl, by simpa using q⟩
  | flt i => obtain ⟨t, e⟩ := (show ∃ t, v = Value.float i t from rx); cases e; exact wpAny_is_other rfl (fun z => nomatch z) ⟨.bl false, H, I, rfl, by simpa using q⟩
  | ref a => cases (show v = Value.ref a from rx); exact wpAny_is_other rfl (fun z => nomatch z) ⟨.bl false, H, I, rfl, by simpa using q⟩
  | ty n => cases (show v = Value.type n from rx); exact wpAny_is_other rfl (fun z => nomatch z) ⟨.bl false, H, I, rfl, by simpa using q⟩
end
theorem same_upd {H : Hp} {p : Addr} {o : HO} (h : H p = none) : Same H (upd H p o) := fun b x e => by
  rw [upd_ne (ne_of_none e h)]
  exact e
/-- a list that was new and is changed: what stood before stands -/
theorem same_ch {H0 H : Hp} {p : Addr} {o : HO} (s : Same H0 H) (n : H0 p = none) : Same H0 (upd H p o) := fun b x e => by
  rw [upd_ne (ne_of_none e n)]
  exact s _ _ e
theorem ixn {n j : Nat} {z : Int} (e : z = (j : Int)) (hj : j < n) : ixN n z = some j := by
  rw [e]
  unfold ixN
  rw [if_pos (by omega), if_pos (by omega)]
  simp
theorem len_big {n : Nat} (h : n ≤ 100000) : n < sizeLine := Nat.lt_of_le_of_lt h (by decide)
theorem mem_ix {α : Type} {l : List α} {i : Nat} (h : i < l.length) : ∃ x, l[i]? = some x ∧ x ∈ l := ⟨l[i], List.getElem?_eq_getElem h, List.getElem_mem h⟩

def topS (i : Nat) : Stmt := PySem.Challenge.pw_callsheard_k08_all_openings.main.body.getD i (.Pass ⟨0, 0, 0, 0⟩)
abbrev sCell : Stmt := topS 15
abbrev sNum : Stmt := topS 16
def cellN (ns : List Int) (k : Nat) : Int := (ns.getD k 0).natAbs
theorem cellN_nn (ns : List Int) (k : Nat) : 0 ≤ cellN ns k := Int.natCast_nonneg _
section
variable {P : Program} {w : World} {K : PySem.W.Frag} {mg : Str → Option Value} {base : Heap}
theorem scCell : FnScope ["script", "k"] ["script", "k"] (defScope sCell) := ⟨rfl, rfl, rfl, by decide +kernel, rfl, by decide +kernel, by decide +kernel⟩
def spCell (K : PySem.W.Frag) : Sp := fun vs H Q _ => ∃ (a : Addr) (ns : List Int) (k : Nat), vs = [.ref a, .int k] ∧ SqL K H a (ns.map V.int) ∧ ∀ c, 0 ≤ c → Q (.int c) H
theorem ok_cell {f : Addr} {fd : FuncData} (F : Fun K "_law_cell" "_law_cell" sCell f fd) (T : Bi mg) : FnOk P w K mg base CX0 1 f fd ["script", "k"] (spCell K) := by
  refine F.ok scCell (fun vs H Q E h => ?_) (fun cdv A outer s H vs Q E hr h => ?_)
  · obtain ⟨a, ns, k, rfl, _⟩ := h
    rfl
  · obtain ⟨a, ns, k, rfl, hS, q⟩ := h
    refine ⟨_, (pss_cons (ps_if (pt_cmpR op_lt (pv 1) (pe_callB call_len_seq (by rfl) T.len (by decide +kernel) (pa_cons (pv 0) pa_nil)) (nomark _))
      (pss_one (ps_ret (pe_callB call_abs (by rfl) T.abs (by decide +kernel) (pa_cons (pe_callTy cr_intI (by rfl) T.int (by decide +kernel) (pa_cons (pe_ix ix_list (pv 0) (pv 1) (fun _ _ => rfl)) pa_nil)) pa_nil))))
      pss_nil)
      (pss_one (ps_ret pe_int))), ?_⟩
    walk_at "rd"
    refine ⟨_, .inl hS, ?_⟩
    rw [List.length_map]
    refine ite2 (fun hk => ?_) (fun _ => q _ (Int.le_refl _))
    have hk2 : k < ns.length := by omega
    refine ⟨_, hS, V.int ns[k], atI_nat (by rw [List.getElem?_map, List.getElem?_eq_getElem hk2]; rfl), _, rfl, ?_⟩
    refine q _ ?_
    split <;> omega
theorem scNum : FnScope ["cell", "count", "numbers", "rest", "mixed", "k"] ["cell", "count"] (defScope sNum) := ⟨rfl, rfl, rfl, by decide +kernel, rfl, by decide +kernel, by decide +kernel⟩
/-- n ints from 0 on below 997 -/
def Nums (n : Nat) (ns : List Int) : Prop := ns.length = n ∧ ∀ x ∈ ns, 0 ≤ x ∧ x < 997
def spNum (K : PySem.W.Frag) : Sp := fun vs H Q _ => ∃ (c : Int) (n : Nat), vs = [.int c, .int n] ∧ n ≤ 1000 ∧ ∀ ns p H', Nums n ns → Same H H' → H p = none → H' p = some (.lst (ns.map V.int)) → Q (.ref p) H'
theorem ok_num {f : Addr} {fd : FuncData} (F : Fun K "_law_numbers" "_law_numbers" sNum f fd) (T : Bi mg) : FnOk P w K mg base CX0 1 f fd ["cell", "count"] (spNum K) := by
  refine F.ok scNum (fun vs H Q E h => ?_) (fun cdv A outer s H vs Q E hr h => ?_)
  · obtain ⟨c, n, rfl, _⟩ := h
    rfl
  · obtain ⟨c, n, rfl, hn, q⟩ := h
    refine ⟨_, (pss_cons (ps_set (i := 2) scNum.nd rfl (Or.inl rfl) (pe_lst pa_nil))
      (pss_cons (ps_set (i := 3) scNum.nd rfl (Or.inl rfl) (pv 0))
      (pss_cons (ps_set (i := 4) scNum.nd rfl (Or.inl rfl) (pe_op op_mod (pe_callTy cr_intI (by rfl) T.int (by decide +kernel) (pa_cons (pe_op op_add (pe_op op_mul (pv 0) pe_int) pe_int) pa_nil)) pe_int))
      (pss_cons (ps_for PassesOwn.never rfl (pi_range1 (by rfl) T.range (pa_cons (pv 1) pa_nil)) (pg_name (i := 5) scNum.nd rfl (Or.inl rfl))
      (pss_cons (ps_set (i := 4) scNum.nd rfl (Or.inl rfl) (pe_op op_mod (pe_callTy cr_intI (by rfl) T.int (by decide +kernel) (pa_cons (pe_op op_add (pe_op op_add (pe_op op_mul (pv 4) pe_int) (pe_op op_mul pe_int (pv 5))) pe_int) pa_nil)) pe_int))
        (pss_one (ps_if (pt_cmpR op_ge (pv 0) (pe_op op_pow pe_int pe_int) (nomark _))
        (pss_cons (ps_expr (pe_bm PySem.F.plainAttrs_list PySem.F.slot_list_append PySem.F.type_list_append mt_append (pv 2) (pa_cons (pe_op op_mod (pe_callTy cr_intI (by rfl) T.int (by decide +kernel) (pa_cons (pv 3) pa_nil)) pe_int) pa_nil)))
          (pss_one (ps_set (i := 3) scNum.nd rfl (Or.inl rfl) (pe_op op_fdiv (pv 3) pe_int))))
        (pss_one (ps_expr (pe_bm PySem.F.plainAttrs_list PySem.F.slot_list_append PySem.F.type_list_append mt_append (pv 2) (pa_cons (pe_op op_mod (pe_callTy cr_intI (by rfl) T.int (by decide +kernel) (pa_cons (pe_op op_fdiv (pv 4) pe_int) pa_nil)) pe_int) pa_nil))))))))
      (pss_one (ps_ret (pv 2))))))), ?_⟩
    walk_at "rd"
    refine ⟨by decide, fun p np => ⟨.inr (by decide), by decide, ?_⟩⟩
    refine ⟨_, rfl, _, rfl, by omega, by omega, for_range (lo := 0) (n := (n : Int).toNat) (fun i σ H' => ∃ (ns : List Int) (rest mixed : Int) (v : Option V), σ = [some (.int c), some (.int n), some (.ref p), some (.int rest), some (.int mixed), v] ∧ Nums i ns ∧ Same H H' ∧ H' p = some (.lst (ns.map V.int)))
      ⟨[], c, _, none, rfl, ⟨rfl, fun x hx => by cases hx⟩, same_upd np, upd_same⟩ ?_ ?_⟩
    · rintro i σ H' hi ⟨ns, rest, mixed, v, rfl, hns, sm, hp⟩
      have small : (List.map V.int ns).length < sizeLine := len_big (by rw [List.length_map, hns.1]; omega)
      have next : ∀ y, 0 ≤ y → y < 997 → Nums (i + 1) (ns ++ [y]) := fun y h0 h1 => by
        refine ⟨by rw [List.length_append, hns.1]; rfl, fun x hx => ?_⟩
        rcases List.mem_append.mp hx with hx | hx
        · exact hns.2 x hx
        · rw [List.mem_singleton.mp hx]
          exact ⟨h0, h1⟩
      have ty : tyV K "list" (.ref p) H' := .inl ⟨rfl, _, SqL.of hp⟩
      walk_at "rd"
      refine ⟨.inr (by decide), .inl (by decide), by decide, ⟨by decide, by decide, by decide⟩, ite2 (fun _ => ?_) (fun _ => ?_)⟩
      · refine ⟨ty, by decide, _, hp, small, ⟨by decide, by decide⟩, ns ++ [rest % 997], next _ (Int.emod_nonneg _ (by decide)) (Int.emod_lt_of_pos _ (by decide)), same_ch sm np, ?_⟩
        rw [upd_same, List.map_append]
        rfl
      · refine ⟨ty, ⟨by decide, by decide⟩, by decide, _, hp, small, ns ++ [(mixed * 48271 + 7919 * (0 + (i : Int)) + 12345) % 2147483647 / 1009 % 997], next _ (Int.emod_nonneg _ (by decide)) (Int.emod_lt_of_pos _ (by decide)), same_ch sm np, ?_⟩
        rw [upd_same, List.map_append]
        rfl
    · rintro σ H' ⟨ns, rest, mixed, v, rfl, hns, sm, hp⟩
      walk_at "rd"
      exact q ns p H' (by simpa using hns) sm np hp
end

/-! ### pairs of ints in the heap -/
abbrev Pr := Int × Int
/-- v is a tuple of the two ints -/
def IsP (H : Hp) (v : V) (d : Pr) : Prop := ∃ t, v = .ref t ∧ H t = some (.tup [.int d.1, .int d.2])
def PL (H : Hp) (vs : List V) (D : List Pr) : Prop := Paired (IsP H) vs D
def kH (H : Hp) (v : V) : Pr := match v with
  | .ref t => match H t with
    | some (.tup [.int x, .int y]) => (x, y)
    | _ => (0, 0)
  | _ => (0, 0)
theorem IsP.k {H : Hp} {v : V} {d : Pr} (h : IsP H v d) : kH H v = d := by
  obtain ⟨t, rfl, e⟩ := h
  unfold kH
  simp only [e]
/-- tuples stand -/
def KT (H H' : Hp) : Prop := ∀ t xs, H t = some (.tup xs) → H' t = some (.tup xs)
theorem KT.refl (H : Hp) : KT H H := fun _ _ h => h
theorem KT.trans {H H1 H2 : Hp} (a : KT H H1) (b : KT H1 H2) : KT H H2 := fun t xs h => b t xs (a t xs h)
theorem KT.same {H H' : Hp} (s : Same H H') : KT H H' := fun t xs h => s t _ h
theorem KT.new {H : Hp} {p : Addr} {o : HO} (n : H p = none) : KT H (upd H p o) := KT.same (same_upd n)
theorem KT.ch {H : Hp} {p : Addr} {o o' : HO} (n : H p = some o') (ho : ∀ xs, o' ≠ .tup xs) : KT H (upd H p o) := fun t xs h => by
  rw [upd_ne]
  · exact h
  · rintro rfl
    rw [h] at n
    exact ho xs (Option.some.inj n).symm
theorem KT.lst {H : Hp} {p : Addr} {o : HO} {vs : List V} (n : H p = some (.lst vs)) : KT H (upd H p o) := KT.ch n (fun _ h => by cases h)
theorem IsP.kt {H H' : Hp} {v : V} {d : Pr} (h : IsP H v d) (k : KT H H') : IsP H' v d := by
  obtain ⟨t, e, h⟩ := h
  exact ⟨t, e, k _ _ h⟩
theorem PL.kt {H H' : Hp} {vs : List V} {D : List Pr} (h : PL H vs D) (k : KT H H') : PL H' vs D := Paired.mapP h fun _ _ q => q.kt k
theorem PL.len {H : Hp} {vs : List V} {D : List Pr} (h : PL H vs D) : vs.length = D.length := Paired.length h
theorem PL.nil0 (H : Hp) : PL H [] [] := Paired.nil
theorem PL.snoc {H : Hp} {vs : List V} {D : List Pr} {v : V} {d : Pr} (h : PL H vs D) (q : IsP H v d) : PL H (vs ++ [v]) (D ++ [d]) := Paired.snoc h q
theorem PL.get : ∀ {H : Hp} {vs : List V} {D : List Pr} {i : Nat} {v : V}, PL H vs D → vs[i]? = some v → ∃ d, D[i]? = some d ∧ IsP H v d
  | _, _, _, _, _, Paired.nil, e => by simp at e
  | _, _, _, 0, v, .cons r _, e => by
    have e2 := Option.some.inj e
    subst e2
    exact ⟨_, rfl, r⟩
  | _, _, _, i + 1, v, .cons _ t, e => PL.get (i := i) t e
theorem PL.get2 : ∀ {H : Hp} {vs : List V} {D : List Pr} {i : Nat} {d : Pr}, PL H vs D → D[i]? = some d → ∃ v, vs[i]? = some v ∧ IsP H v d
  | _, _, _, _, _, Paired.nil, e => by simp at e
  | _, _, _, 0, v, .cons r _, e => by
    have e2 := Option.some.inj e
    subst e2
    exact ⟨_, rfl, r⟩
  | _, _, _, i + 1, v, .cons _ t, e => PL.get2 (i := i) t e
theorem PL.toK : ∀ {H : Hp} {vs : List V} {D : List Pr}, PL H vs D → D = vs.map (kH H) ∧ ∀ v ∈ vs, IsP H v (kH H v)
  | _, _, _, Paired.nil => ⟨rfl, fun v hv => by cases hv⟩
  | H, _, _, .cons r t => by
    obtain ⟨e, h⟩ := PL.toK t
    have q := r.k
    refine ⟨by rw [List.map_cons, ← e, q], fun v hv => ?_⟩
    rcases List.mem_cons.mp hv with rfl | hv
    · rw [q]
      exact r
    · exact h v hv
theorem PL.ofK {H : Hp} : ∀ {vs : List V}, (∀ v ∈ vs, IsP H v (kH H v)) → PL H vs (vs.map (kH H))
  | [], _ => Paired.nil
  | v :: vs, h => .cons (h v List.mem_cons_self) (PL.ofK fun u hu => h u (List.mem_cons_of_mem _ hu))
/-! ### sorted lists of pairs -/
def lt2 (p q : Pr) : Prop := p.1 < q.1 ∨ (p.1 = q.1 ∧ p.2 < q.2)
def Asc (D : List Pr) : Prop := D.Pairwise lt2
theorem lt2_irr (p : Pr) : ¬ lt2 p p := by
  unfold lt2
  omega
theorem lt2_ne {p q : Pr} (h : lt2 p q) : p ≠ q := by
  rintro rfl
  exact lt2_irr p h
theorem Asc.nodup {D : List Pr} (h : Asc D) : D.Nodup := List.Pairwise.imp lt2_ne h
theorem asc_of {D : List Pr} (nd : D.Nodup) (h : D.Pairwise fun x y => ¬ lt2 y x) : Asc D := by
  induction D with
  | nil => exact List.Pairwise.nil
  | cons p D ih =>
    obtain ⟨h1, h2⟩ := List.pairwise_cons.mp h
    obtain ⟨n1, n2⟩ := List.nodup_cons.mp nd
    refine List.pairwise_cons.mpr ⟨fun q hq => ?_, ih n2 h2⟩
    have a := h1 q hq
    have b : p ≠ q := fun e => n1 (by rw [e]; exact hq)
    unfold lt2 at a ⊢
    obtain ⟨p1, p2⟩ := p
    obtain ⟨q1, q2⟩ := q
    have c : ¬ (p1 = q1 ∧ p2 = q2) := fun ⟨e1, e2⟩ => b (by rw [e1, e2])
    simp only at a ⊢
    omega
/-- two ascending lists with the same pairs are one -/
theorem asc_uniq : ∀ {D E : List Pr}, Asc D → Asc E → (∀ p, p ∈ D ↔ p ∈ E) → D = E
  | [], [], _, _, _ => rfl
  | [], q :: E, _, _, h => by
    have := (h q).mpr List.mem_cons_self
    cases this
  | p :: D, [], _, _, h => by
    have := (h p).mp List.mem_cons_self
    cases this
  | p :: D, q :: E, hD, hE, h => by
    obtain ⟨a1, a2⟩ := List.pairwise_cons.mp hD
    obtain ⟨b1, b2⟩ := List.pairwise_cons.mp hE
    have e : p = q := by
      rcases List.mem_cons.mp ((h p).mp List.mem_cons_self) with e | hp
      · exact e
      · rcases List.mem_cons.mp ((h q).mpr List.mem_cons_self) with e | hq
        · exact e.symm
        · have c1 := b1 p hp
          have c2 := a1 q hq
          unfold lt2 at c1 c2
          omega
    subst e
    rw [asc_uniq a2 b2 fun z => ?_]
    constructor
    · intro hz
      rcases List.mem_cons.mp ((h z).mp (List.mem_cons_of_mem _ hz)) with e | hz2
      · subst e
        exact absurd (a1 z hz) (lt2_irr z)
      · exact hz2
    · intro hz
      rcases List.mem_cons.mp ((h z).mpr (List.mem_cons_of_mem _ hz)) with e | hz2
      · subst e
        exact absurd (b1 z hz) (lt2_irr z)
      · exact hz2
theorem srtd_asc {H : Hp} {ys : List V} (nd : (ys.map (kH H)).Nodup) (h : SrtO.Srtd (ltP (kH H)) ys) : Asc (ys.map (kH H)) := by
  refine asc_of nd (List.pairwise_map.mpr (List.Pairwise.imp (fun {x y} h => ?_) h))
  exact SrtO.lexB_no.mp h
/-- doors of a house with r rooms -/
structure Drs (r : Nat) (D : List Pr) : Prop where
  asc : Asc D
  ok : ∀ d ∈ D, 0 ≤ d.1 ∧ d.1 < d.2 ∧ d.2 < r
def cd (d : Pr) : Nat := (d.1 * 12 + d.2).toNat
theorem drs_len' {r : Nat} {D : List Pr} (hr : r ≤ 12) (nd : D.Nodup) (ok : ∀ d ∈ D, 0 ≤ d.1 ∧ d.1 < d.2 ∧ d.2 < r) : D.length ≤ 66 := by
  have h1 : (D.map cd).Nodup := by
    refine List.pairwise_map.mpr (List.Pairwise.imp_of_mem (fun {x y} hx hy hne e => ?_) nd)
    have a := ok x hx
    have b := ok y hy
    unfold cd at e
    obtain ⟨x1, x2⟩ := x
    obtain ⟨y1, y2⟩ := y
    simp only at a b e
    have : x1 = y1 ∧ x2 = y2 := by omega
    exact hne (by rw [this.1, this.2])
  have h2 : ∀ c ∈ D.map cd, c ∈ (List.range 144).filter fun c => c / 12 < c % 12 := fun c hc => by
    obtain ⟨d, hd, rfl⟩ := List.mem_map.mp hc
    have a := ok d hd
    refine List.mem_filter.mpr ⟨List.mem_range.mpr ?_, ?_⟩
    · unfold cd
      omega
    · rw [decide_eq_true_eq]
      unfold cd
      omega
  have h3 := nat_nodup_len (D.map cd) _ h1 h2
  rw [List.length_map] at h3
  exact Nat.le_trans h3 (by decide)
theorem Drs.len {r : Nat} {D : List Pr} (hr : r ≤ 12) (h : Drs r D) : D.length ≤ 66 := drs_len' hr h.asc.nodup h.ok

abbrev sNam : Stmt := topS 17
abbrev sJnd : Stmt := topS 18
theorem sub_lt_of {i n : Nat} (h : i < n) : (0 : Int) < (n : Int) - (i : Int) := by omega
/-- the ints from 0 on below n -/
def rg (n : Nat) : List Int := (List.range n).map Int.ofNat
theorem rg_len (n : Nat) : (rg n).length = n := by unfold rg; rw [List.length_map, List.length_range]
theorem rgV_rg (n : Nat) : rgV 0 (n : Int) = (rg n).map V.int := by
  unfold rgV rg
  rw [List.map_map]
  show List.map _ (List.range ((n : Int) - 0).toNat) = _
  rw [show ((n : Int) - 0).toNat = n by omega]
  refine List.map_congr_left fun i _ => ?_
  show V.int (0 + (i : Int)) = V.int (i : Int)
  rw [Int.zero_add]
theorem set_map {α β : Type} (f : α → β) (l : List α) (i : Nat) (x : α) : (l.map f).set i (f x) = (l.set i x).map f := by
  rw [List.map_set]
section
variable {P : Program} {w : World} {K : PySem.W.Frag} {mg : Str → Option Value} {base : Heap}
theorem scNam : FnScope ["numbers", "at", "rooms", "names", "k", "j", "kept"] ["numbers", "at", "rooms"] (defScope sNam) := ⟨rfl, rfl, rfl, by decide +kernel, rfl, by decide +kernel, by decide +kernel⟩
def spNam (K : PySem.W.Frag) : Sp := fun vs H Q _ => ∃ (a : Addr) (ns : List Int) (at_ r : Nat), vs = [.ref a, .int at_, .int r] ∧ SqL K H a (ns.map V.int) ∧ at_ + r ≤ ns.length ∧ r ≤ 1000 ∧
  ∀ xs p H', List.Perm xs (rg r) → Same H H' → H p = none → H' p = some (.lst (xs.map V.int)) → Q (.ref p) H'
theorem ok_nam {f : Addr} {fd : FuncData} (F : Fun K "_law_names" "_law_names" sNam f fd) (T : Bi mg) : FnOk P w K mg base CX0 1 f fd ["numbers", "at", "rooms"] (spNam K) := by
  refine F.ok scNam (fun vs H Q E h => ?_) (fun cdv A outer s H vs Q E hr h => ?_)
  · obtain ⟨a, ns, at_, r, rfl, _⟩ := h
    rfl
  · obtain ⟨a, ns, at_, r, rfl, hS, hat, hr1, q⟩ := h
    refine ⟨_, (pss_cons (ps_set (i := 3) scNam.nd rfl (Or.inl rfl) (pe_listRg rfl (by rfl) T.list (prg_1 (by rfl) T.range (pv 2))))
      (pss_cons (ps_for PassesOwn.never rfl (pi_range1 (by rfl) T.range (pa_cons (pv 2) pa_nil)) (pg_name (i := 4) scNam.nd rfl (Or.inl rfl))
      (pss_cons (ps_set (i := 5) scNam.nd rfl (Or.inl rfl) (pe_op op_add (pv 4) (pe_op op_mod (pe_callTy cr_intI (by rfl) T.int (by decide +kernel) (pa_cons (pe_ix ix_list (pv 0) (pe_op op_add (pv 1) (pv 4)) (fun _ _ => rfl)) pa_nil)) (pe_op op_sub (pv 2) (pv 4)))))
        (pss_cons (ps_set (i := 6) scNam.nd rfl (Or.inl rfl) (pe_ix ix_list (pv 3) (pv 4) (fun _ _ => rfl)))
        (pss_cons (ps_asg (pe_ix ix_list (pv 3) (pv 5) (fun _ _ => rfl)) (pg_sub (pv 3) (pv 4) set_list))
        (pss_one (ps_asg (pv 6) (pg_sub (pv 3) (pv 5) set_list)))))))
      (pss_one (ps_ret (pv 3))))), ?_⟩
    walk_at "rd"
    refine ⟨RgOk.of_le (by omega) (by omega) (by omega) (by omega), fun p np => ?_⟩
    refine ⟨_, rfl, r, rfl, by omega, by omega, for_range (lo := 0) (n := (r : Int).toNat) (fun i σ H' => ∃ (xs : List Int) (v1 v2 v3 : Option V), σ = [some (.ref a), some (.int at_), some (.int r), some (.ref p), v1, v2, v3] ∧ List.Perm xs (rg r) ∧ Same H H' ∧ H' p = some (.lst (xs.map V.int)))
      ⟨rg r, none, none, none, rfl, List.Perm.refl _, same_upd np, by rw [upd_same, rgV_rg]⟩ ?_ ?_⟩
    · rintro i σ H' hi ⟨xs, v1, v2, v3, rfl, pm, sm, hp⟩
      have hi2 : i < r := by omega
      have hl : xs.length = r := by rw [pm.length_eq, rg_len]
      have hS' := sm.seq hS
      have hn : at_ + i < ns.length := by omega
      have hq : SqL K H' p (xs.map V.int) := SqL.of hp
      walk_at "rd"
      have hj0 := Int.emod_nonneg ns[at_ + i] (show ((r : Int) - (0 + (i : Int))) ≠ 0 by omega)
      have hj1 := Int.emod_lt_of_pos ns[at_ + i] (show 0 < ((r : Int) - (0 + (i : Int))) by omega)
      obtain ⟨j, hj⟩ : ∃ j : Nat, (0 + (i : Int)) + ns[at_ + i] % ((r : Int) - (0 + (i : Int))) = j := ⟨((0 + (i : Int)) + ns[at_ + i] % ((r : Int) - (0 + (i : Int)))).toNat, by omega⟩
      have hjr : j < r := by omega
      have gi : (xs.map V.int)[i]? = some (.int xs[i]) := by rw [List.getElem?_map, List.getElem?_eq_getElem (by omega)]; rfl
      have gj : (xs.map V.int)[j]? = some (.int xs[j]) := by rw [List.getElem?_map, List.getElem?_eq_getElem (by omega)]; rfl
      refine ⟨_, hS', .int ns[at_ + i], at_of (j := at_ + i) (by omega) (by rw [List.getElem?_map, List.getElem?_eq_getElem hn]; rfl), _, rfl, by omega, _, hq, .int xs[i], at_of (by omega) gi, _, hq, .int xs[j], at_of hj gj, _, hp, i, ixn (by omega) (by rw [List.length_map]; omega), _, upd_same, j, ixn hj (by rw [List.length_set, List.length_map]; omega), (xs.set i xs[j]).set j xs[i], (List.set_set_perm (by omega) (by omega)).trans pm, same_ch (same_ch sm np) np, ?_⟩
      rw [upd_same, set_map, set_map]
    · rintro σ H' ⟨xs, v1, v2, v3, rfl, pm, sm, hp⟩
      walk_at "rd"
      exact q xs p H' pm sm np hp
theorem scJnd : FnScope ["kind", "a", "b", "rooms", "number", "parent"] ["kind", "a", "b", "rooms", "number", "parent"] (defScope sJnd) := ⟨rfl, rfl, rfl, by decide +kernel, rfl, by decide +kernel, by decide +kernel⟩
def spJnd : Sp := fun vs H Q _ => ∃ (kd a b r n p : Int), vs = [.int kd, .int a, .int b, .int r, .int n, .int p] ∧ 0 < b ∧ ∀ c, Q (.bl c) H
theorem ok_jnd {f : Addr} {fd : FuncData} (F : Fun K "_law_joined" "_law_joined" sJnd f fd) (T : Bi mg) : FnOk P w K mg base CX0 1 f fd ["kind", "a", "b", "rooms", "number", "parent"] spJnd := by
  refine F.ok scJnd (fun vs H Q E h => ?_) (fun cdv A outer s H vs Q E hr h => ?_)
  · obtain ⟨kd, a, b, r, n, p, rfl, _⟩ := h
    rfl
  · obtain ⟨kd, a, b, r, n, p, rfl, hb, q⟩ := h
    refine ⟨_, (pss_cons (ps_if (pt_cmpR op_eqI (pv 0) pe_int (nomark _))
      (pss_one (ps_ret (pe_cmpR op_eqI (pv 1) pe_int (nomark _))))
      pss_nil)
      (pss_cons (ps_if (pt_cmpR op_eqI (pv 0) pe_int (nomark _))
      (pss_one (ps_ret (pe_or (pe_cmpR op_eqI (pv 2) (pe_op op_add (pv 1) pe_int) (nomark _)) (pe_one (pe_and (pe_cmpR op_eqI (pv 1) pe_int (nomark _)) (pe_one (pe_cmpR op_eqI (pv 2) (pe_op op_sub (pv 3) pe_int) (nomark _))))))))
      pss_nil)
      (pss_cons (ps_if (pt_cmpR op_eqI (pv 0) pe_int (nomark _))
      (pss_one (ps_ret pe_bl))
      pss_nil)
      (pss_cons (ps_if (pt_cmpR op_eqI (pv 0) pe_int (nomark _))
      (pss_one (ps_ret (pe_cmpR op_eqI (pv 1) (pe_op op_mod (pe_callTy cr_intI (by rfl) T.int (by decide +kernel) (pa_cons (pv 5) pa_nil)) (pv 2)) (nomark _))))
      pss_nil)
      (pss_cons (ps_if (pt_cmpR op_eqI (pv 0) pe_int (nomark _))
      (pss_one (ps_ret (pe_cmpR op_eqI (pe_op op_mod (pe_callTy cr_intI (by rfl) T.int (by decide +kernel) (pa_cons (pv 4) pa_nil)) pe_int) pe_int (nomark _))))
      pss_nil)
      (pss_cons (ps_if (pt_cmpR op_eqI (pv 0) pe_int (nomark _))
      (pss_one (ps_ret (pe_cmpR op_eqI (pe_op op_mod (pe_callTy cr_intI (by rfl) T.int (by decide +kernel) (pa_cons (pv 4) pa_nil)) pe_int) pe_int (nomark _))))
      pss_nil)
      (pss_cons (ps_if (pt_cmpR op_eqI (pv 0) pe_int (nomark _))
      (pss_one (ps_ret (pe_cmpR op_neI (pe_op op_mod (pe_callTy cr_intI (by rfl) T.int (by decide +kernel) (pa_cons (pv 4) pa_nil)) pe_int) pe_int (nomark _))))
      pss_nil)
      (pss_one (ps_ret (pe_cmpR op_eqI (pv 2) (pe_op op_add (pv 1) pe_int) (nomark _))))))))))), ?_⟩
    walk_at "rd"
    repeat (first | exact q _ | exact hb | decide | refine ⟨?_, ?_⟩ | refine ite2 (fun _ => ?_) (fun _ => ?_) | split)
end

abbrev sDrs : Stmt := topS 19
/-- min and max of the two names -/
def mm (xs : List Int) (p : Nat × Nat) : Pr := (if xs.getD p.2 0 < xs.getD p.1 0 then xs.getD p.2 0 else xs.getD p.1 0, if xs.getD p.2 0 > xs.getD p.1 0 then xs.getD p.2 0 else xs.getD p.1 0)
/-- pairs that have been met when the outer loop stands at b, the inner at a -/
structure Vis (r b a : Nat) (L : List (Nat × Nat)) : Prop where
  ok : ∀ p ∈ L, p.1 < p.2 ∧ p.2 < r ∧ (p.2 < b ∨ (p.2 = b ∧ p.1 < a))
  nd : L.Nodup
theorem Vis.zero (r : Nat) : Vis r 1 0 [] := ⟨fun p h => (by cases h), List.nodup_nil⟩
theorem Vis.skip {r b a : Nat} {L : List (Nat × Nat)} (h : Vis r b a L) : Vis r b (a + 1) L := by
  refine ⟨fun p hp => ?_, h.nd⟩
  have := h.ok p hp
  omega
theorem Vis.row {r b : Nat} {L : List (Nat × Nat)} (h : Vis r b b L) : Vis r (b + 1) 0 L := by
  refine ⟨fun p hp => ?_, h.nd⟩
  have := h.ok p hp
  omega
theorem Vis.more {r b a : Nat} {L : List (Nat × Nat)} (h : Vis r b a L) (hb : b < r) (ha : a < b) : Vis r b (a + 1) (L ++ [(a, b)]) := by
  refine ⟨fun p hp => ?_, ?_⟩
  · rcases List.mem_append.mp hp with hp | hp
    · have := h.ok p hp
      omega
    · rw [List.mem_singleton.mp hp]
      exact ⟨ha, hb, .inr ⟨rfl, Nat.lt_succ_self a⟩⟩
  · refine List.nodup_append.mpr ⟨h.nd, by simp, fun p hp q hq => ?_⟩
    rw [List.mem_singleton.mp hq]
    rintro rfl
    have := h.ok _ hp
    simp only at this
    omega
theorem rg_nodup (n : Nat) : (rg n).Nodup := by
  unfold rg
  exact List.pairwise_map.mpr (List.Pairwise.imp (fun {x y} h e => h (Int.ofNat.inj e)) List.nodup_range)
theorem rg_mem {n : Nat} {x : Int} (h : x ∈ rg n) : 0 ≤ x ∧ x < n := by
  obtain ⟨i, hi, rfl⟩ := List.mem_map.mp h
  have := List.mem_range.mp hi
  show 0 ≤ (i : Int) ∧ (i : Int) < n
  omega
/-- names: each room once -/
structure Nms (r : Nat) (xs : List Int) : Prop where
  pm : xs.Perm (rg r)
theorem Nms.len {r : Nat} {xs : List Int} (h : Nms r xs) : xs.length = r := by rw [h.pm.length_eq, rg_len]
theorem Nms.nd {r : Nat} {xs : List Int} (h : Nms r xs) : xs.Nodup := h.pm.nodup_iff.mpr (rg_nodup r)
theorem Nms.bd {r : Nat} {xs : List Int} (h : Nms r xs) {i : Nat} (hi : i < r) : 0 ≤ xs.getD i 0 ∧ xs.getD i 0 < r := by
  have hl := h.len
  have e : xs.getD i 0 = xs[i] := by rw [List.getD_eq_getElem?_getD, List.getElem?_eq_getElem (by omega)]; rfl
  rw [e]
  exact rg_mem (h.pm.mem_iff.mp (List.getElem_mem _))
theorem Nms.inj {r : Nat} {xs : List Int} (h : Nms r xs) {i j : Nat} (hi : i < r) (hj : j < r) (e : xs.getD i 0 = xs.getD j 0) : i = j := by
  have hl := h.len
  have e1 : xs.getD i 0 = xs[i] := by rw [List.getD_eq_getElem?_getD, List.getElem?_eq_getElem (by omega)]; rfl
  have e2 : xs.getD j 0 = xs[j] := by rw [List.getD_eq_getElem?_getD, List.getElem?_eq_getElem (by omega)]; rfl
  rw [e1, e2] at e
  refine nd_ix h.nd (List.getElem?_eq_getElem (by omega)) ?_
  rw [e]
  exact List.getElem?_eq_getElem (by omega)
theorem mm_ok {r : Nat} {xs : List Int} (h : Nms r xs) {p : Nat × Nat} (h1 : p.1 < p.2) (h2 : p.2 < r) : 0 ≤ (mm xs p).1 ∧ (mm xs p).1 < (mm xs p).2 ∧ (mm xs p).2 < r := by
  have a := h.bd (i := p.1) (by omega)
  have b := h.bd (i := p.2) h2
  have ne : xs.getD p.1 0 ≠ xs.getD p.2 0 := fun e => by
    have := h.inj (i := p.1) (j := p.2) (by omega) h2 e
    omega
  unfold mm
  simp only
  split <;> split <;> omega
theorem mm_inj {r : Nat} {xs : List Int} (h : Nms r xs) {p q : Nat × Nat} (p1 : p.1 < p.2) (p2 : p.2 < r) (q1 : q.1 < q.2) (q2 : q.2 < r) (e : mm xs p = mm xs q) : p = q := by
  have e1 := congrArg Prod.fst e
  have e2 := congrArg Prod.snd e
  unfold mm at e1 e2
  simp only at e1 e2
  have k : (xs.getD p.1 0 = xs.getD q.1 0 ∧ xs.getD p.2 0 = xs.getD q.2 0) ∨ (xs.getD p.1 0 = xs.getD q.2 0 ∧ xs.getD p.2 0 = xs.getD q.1 0) := by
    split at e1 <;> split at e1 <;> split at e2 <;> split at e2 <;> omega
  rcases k with ⟨k1, k2⟩ | ⟨k1, k2⟩
  · have a := h.inj (by omega) (by omega) k1
    have b := h.inj (by omega) (by omega) k2
    exact Prod.ext a b
  · have a := h.inj (by omega) (by omega) k1
    have b := h.inj (by omega) (by omega) k2
    omega
theorem vis_nd {r b a : Nat} {xs : List Int} {L : List (Nat × Nat)} (h : Nms r xs) (v : Vis r b a L) : (L.map (mm xs)).Nodup := by
  refine List.pairwise_map.mpr (List.Pairwise.imp_of_mem (fun {p q} hp hq hne e => ?_) v.nd)
  have a := v.ok p hp
  have b := v.ok q hq
  exact hne (mm_inj h a.1 a.2.1 b.1 b.2.1 e)
theorem vis_ok {r b a : Nat} {xs : List Int} {L : List (Nat × Nat)} (h : Nms r xs) (v : Vis r b a L) : ∀ d ∈ L.map (mm xs), 0 ≤ d.1 ∧ d.1 < d.2 ∧ d.2 < r := fun d hd => by
  obtain ⟨p, hp, rfl⟩ := List.mem_map.mp hd
  have a := v.ok p hp
  exact mm_ok h a.1 a.2.1
theorem tri {b : Nat} (h : b ≤ 11) : (b : Int) * ((b : Int) - 1) / 2 ≤ 55 ∧ 0 ≤ (b : Int) * ((b : Int) - 1) / 2 := by
  have : b = 0 ∨ b = 1 ∨ b = 2 ∨ b = 3 ∨ b = 4 ∨ b = 5 ∨ b = 6 ∨ b = 7 ∨ b = 8 ∨ b = 9 ∨ b = 10 ∨ b = 11 := by omega
  rcases this with rfl | rfl | rfl | rfl | rfl | rfl | rfl | rfl | rfl | rfl | rfl | rfl <;> decide
section
variable {P : Program} {w : World} {K : PySem.W.Frag} {mg : Str → Option Value} {base : Heap}
theorem scDrs : FnScope ["numbers", "rooms", "kind", "names", "doors", "b", "first", "a"] ["numbers", "rooms"] (defScope sDrs) := ⟨rfl, rfl, rfl, by decide +kernel, rfl, by decide +kernel, by decide +kernel⟩
def spDrs (K : PySem.W.Frag) : Sp := fun vs H Q _ => ∃ (a : Addr) (ns : List Int) (r : Nat), vs = [.ref a, .int r] ∧ SqL K H a (ns.map V.int) ∧ 79 ≤ ns.length ∧ 1 ≤ r ∧ r ≤ 12 ∧
  ∀ D vs p H', Drs r D → Same H H' → H p = none → H' p = some (.lst vs) → PL H' vs D → Q (.ref p) H'
theorem ok_drs {f fN fJ : Addr} {fd fdN fdJ : FuncData} (F : Fun K "_law_doors" "_law_doors" sDrs f fd) (T : Bi mg) (d__law_names : Df P w K mg base "_law_names" ["numbers", "at", "rooms"] 1 (spNam K) fN fdN)
    (d__law_joined : Df P w K mg base "_law_joined" ["kind", "a", "b", "rooms", "number", "parent"] 1 spJnd fJ fdJ) : FnOk P w K mg base CX0 2 f fd ["numbers", "rooms"] (spDrs K) := by
  refine F.ok scDrs (fun vs H Q E h => ?_) (fun cdv A outer s H vs Q E hr h => ?_)
  · obtain ⟨a, ns, r, rfl, _⟩ := h
    rfl
  · obtain ⟨a, ns, r, rfl, hS, hn, hr1, hr12, q⟩ := h
    refine ⟨_, (pss_cons (ps_set (i := 2) scDrs.nd rfl (Or.inl rfl) (pe_op op_mod (pe_callTy cr_intI (by rfl) T.int (by decide +kernel) (pa_cons (pe_ix ix_list (pv 0) pe_int (fun _ _ => rfl)) pa_nil)) pe_int))
      (pss_cons (ps_set (i := 3) scDrs.nd rfl (Or.inl rfl) (pe_call d__law_names.ok (hr.mono (by decide)) (by rfl) d__law_names.at_ d__law_names.kp d__law_names.b .nil pass0 (pa_cons (pv 0) (pa_cons pe_int (pa_cons (pv 1) pa_nil)))))
      (pss_cons (ps_set (i := 4) scDrs.nd rfl (Or.inl rfl) (pe_lst pa_nil))
      (pss_cons (ps_for PassesOwn.never rfl (pi_range2 (by rfl) T.range (pa_cons pe_int (pa_cons (pv 1) pa_nil))) (pg_name (i := 5) scDrs.nd rfl (Or.inl rfl))
      (pss_cons (ps_set (i := 6) scDrs.nd rfl (Or.inl rfl) (pe_op op_add (pe_op op_add pe_int (pv 1)) (pe_op op_fdiv (pe_op op_mul (pv 5) (pe_op op_sub (pv 5) pe_int)) pe_int)))
        (pss_one (ps_for PassesOwn.never rfl (pi_range1 (by rfl) T.range (pa_cons (pv 5) pa_nil)) (pg_name (i := 7) scDrs.nd rfl (Or.inl rfl))
        (pss_one (ps_if (pt_truth (pe_call d__law_joined.ok (hr.mono (by decide)) (by rfl) d__law_joined.at_ d__law_joined.kp d__law_joined.b .nil pass0 (pa_cons (pv 2) (pa_cons (pv 7) (pa_cons (pv 5) (pa_cons (pv 1) (pa_cons (pe_ix ix_list (pv 0) (pe_op op_add (pv 6) (pv 7)) (fun _ _ => rfl)) (pa_cons (pe_ix ix_list (pv 0) (pv 6) (fun _ _ => rfl)) pa_nil))))))) (by intro _; rfl))
          (pss_one (ps_expr (pe_bm PySem.F.plainAttrs_list PySem.F.slot_list_append PySem.F.type_list_append mt_append (pv 4) (pa_cons (pe_tup (pa_cons (pe_callB (call_min2 rfl) (by rfl) T.min (by decide +kernel) (pa_cons (pe_ix ix_list (pv 3) (pv 7) (fun _ _ => rfl)) (pa_cons (pe_ix ix_list (pv 3) (pv 5) (fun _ _ => rfl)) pa_nil))) (pa_cons (pe_callB (call_max2 rfl) (by rfl) T.max (by decide +kernel) (pa_cons (pe_ix ix_list (pv 3) (pv 7) (fun _ _ => rfl)) (pa_cons (pe_ix ix_list (pv 3) (pv 5) (fun _ _ => rfl)) pa_nil))) pa_nil))) pa_nil))))
          pss_nil))))))
      (pss_one (ps_ret (pe_callB cr_sortedPO (by rfl) T.sorted (by decide +kernel) (pa_cons (pv 4) pa_nil)))))))), ?_⟩
    have at_n : ∀ (k : Nat) (hk : k < ns.length), (ns.map V.int)[k]? = some (.int ns[k]) := fun k hk => by
      rw [List.getElem?_map, List.getElem?_eq_getElem hk]
      rfl
    walk_at "rd"
    refine ⟨_, hS, .int ns[0], at_of (j := 0) rfl (at_n 0 (by omega)), _, rfl, by decide, a, ns, 1, r, rfl, hS, by omega, by omega, fun xs pn H1 pm s1 nn hN => ?_⟩
    have N : Nms r xs := ⟨pm⟩
    have hl := N.len
    walk_at "rd"
    refine ⟨Nat.zero_le _, fun p np => ?_⟩
    obtain ⟨Pv, hPv⟩ : ∃ Pv : Nat → L2.St → Hp → Prop, Pv = (fun i σ H' => ∃ (L : List (Nat × Nat)) (vs : List V) (v5 v6 v7 : Option V), σ = [some (.ref a), some (.int r), some (.int (ns[0] % 8)), some (.ref pn), some (.ref p), v5, v6, v7] ∧ Vis r (i + 1) 0 L ∧ Same H1 H' ∧ H' p = some (.lst vs) ∧ PL H' vs (L.map (mm xs))) := ⟨_, rfl⟩
    refine ⟨_, rfl, 1, (r : Int), rfl, ⟨by omega, by omega, by omega, by omega⟩, for_range (lo := 1) (n := ((r : Int) - 1).toNat) Pv (by rw [hPv]; exact ⟨[], [], none, none, none, rfl, Vis.zero r, same_upd np, upd_same, PL.nil0 _⟩) ?_ ?_⟩
    · rintro i σ H' hi pv
      have nxt : ∀ L vs v5 v6 v7 H', Vis r (i + 1 + 1) 0 L → Same H1 H' → H' p = some (.lst vs) → PL H' vs (L.map (mm xs)) → Pv (i + 1) [some (.ref a), some (.int r), some (.int (ns[0] % 8)), some (.ref pn), some (.ref p), v5, v6, v7] H' := fun L vs v5 v6 v7 H' h1 h2 h3 h4 => by
        rw [hPv]
        exact ⟨L, vs, v5, v6, v7, rfl, h1, h2, h3, h4⟩
      rw [hPv] at pv
      obtain ⟨L, vs, v5, v6, v7, rfl, vis, s2, hp, pl⟩ := pv
      have hb : i + 1 ≤ 11 := by omega
      have tr := tri hb
      have eb : (1 : Int) + (i : Int) = ((i + 1 : Nat) : Int) := by omega
      obtain ⟨fi, hfi⟩ : ∃ fi : Nat, (1 : Int) + (r : Int) + (1 + (i : Int)) * (1 + (i : Int) - 1) / 2 = fi ∧ fi ≤ 68 := by
        rw [eb]
        exact ⟨(1 + (r : Int) + ((i + 1 : Nat) : Int) * (((i + 1 : Nat) : Int) - 1) / 2).toNat, by omega, by omega⟩
      walk_at "rd"
      refine ⟨.inl (by omega), ⟨by decide, by decide⟩, ?_⟩
      rw [hfi.1]
      obtain ⟨Pw, hPw⟩ : ∃ Pw : Nat → L2.St → Hp → Prop, Pw = (fun j σ H' => ∃ (L : List (Nat × Nat)) (vs : List V) (v7 : Option V), σ = [some (.ref a), some (.int r), some (.int (ns[0] % 8)), some (.ref pn), some (.ref p), some (.int (1 + (i : Int))), some (.int fi), v7] ∧ Vis r (i + 1) j L ∧ Same H1 H' ∧ H' p = some (.lst vs) ∧ PL H' vs (L.map (mm xs))) := ⟨_, rfl⟩
      refine ⟨_, rfl, 1 + (i : Int), rfl, by omega, by omega, for_range (lo := 0) (n := (1 + (i : Int)).toNat) Pw (by rw [hPw]; exact ⟨L, vs, v7, rfl, vis, s2, hp, pl⟩) ?_ ?_⟩
      · clear hp pl s2 vis vs L v7
        rintro j σ H' hj pv
        have nxw : ∀ L vs v7 H', Vis r (i + 1) (j + 1) L → Same H1 H' → H' p = some (.lst vs) → PL H' vs (L.map (mm xs)) → Pw (j + 1) [some (.ref a), some (.int r), some (.int (ns[0] % 8)), some (.ref pn), some (.ref p), some (.int (1 + (i : Int))), some (.int fi), v7] H' := fun L vs v7 H' h1 h2 h3 h4 => by
          rw [hPw]
          exact ⟨L, vs, v7, rfl, h1, h2, h3, h4⟩
        rw [hPw] at pv
        obtain ⟨L, vs, v7, rfl, vis, s2, hp, pl⟩ := pv
        have hjb : j < i + 1 := by omega
        have hS' : SqL K H' a (ns.map V.int) := s2.seq (s1.seq hS)
        have hN' : SqL K H' pn (xs.map V.int) := s2.seq (SqL.of hN)
        have gj : (xs.map V.int)[j]? = some (.int (xs.getD j 0)) := by rw [List.getElem?_map, List.getElem?_eq_getElem (by omega), List.getD_eq_getElem?_getD, List.getElem?_eq_getElem (by omega)]; rfl
        have gi : (xs.map V.int)[i + 1]? = some (.int (xs.getD (i + 1) 0)) := by rw [List.getElem?_map, List.getElem?_eq_getElem (by omega), List.getD_eq_getElem?_getD, List.getElem?_eq_getElem (by omega)]; rfl
        have small : vs.length ≤ 66 := by
          rw [pl.len]
          exact drs_len' hr12 (vis_nd N vis) (vis_ok N vis)
        walk_at "rd"
        refine ⟨_, hS', .int ns[fi + j], at_of (j := fi + j) (by omega) (at_n _ (by omega)), _, hS', .int ns[fi], at_of (j := fi) rfl (at_n _ (by omega)), ?_⟩
        refine ⟨_, _, _, _, _, _, rfl, by omega, fun c => ?_⟩
        refine ⟨_, rfl, ite2 (fun _ => ?_) (fun _ => nxw L vs _ _ vis.skip s2 hp pl)⟩
        refine ⟨.inl ⟨rfl, _, SqL.of hp⟩, _, hN', .int (xs.getD j 0), at_of (j := j) (by omega) gj, _, hN', .int (xs.getD (i + 1) 0), at_of (j := i + 1) (by omega) gi, ?_⟩
        refine ⟨_, rfl, _, rfl, _, hN', .int (xs.getD j 0), at_of (j := j) (by omega) gj, _, hN', .int (xs.getD (i + 1) 0), at_of (j := i + 1) (by omega) gi, _, rfl, _, rfl, ?_⟩
        refine ⟨by decide, fun t nt => ⟨vs, ?_, len_big (by omega), ?_⟩⟩
        · rw [upd_ne (ne_of_none hp nt)]
          exact hp
        · have np' : p ≠ t := ne_of_none hp nt
          refine nxw (L ++ [(j, i + 1)]) (vs ++ [.ref t]) _ _ (vis.more (by omega) hjb) (same_ch (s2.trans (same_upd nt)) np) upd_same ?_
          rw [List.map_append]
          refine PL.snoc ((pl.kt (KT.new nt)).kt (KT.lst (by rw [upd_ne np']; exact hp))) ⟨t, rfl, ?_⟩
          rw [upd_ne np'.symm, upd_same]
          rfl
      · clear hp pl s2 vis vs L v7
        rintro σ H' pv
        rw [hPw] at pv
        obtain ⟨L, vs, v7, rfl, vis, s2, hp, pl⟩ := pv
        have e : (1 + (i : Int)).toNat = i + 1 := by omega
        rw [e] at vis
        exact nxt L vs _ _ _ _ vis.row s2 hp pl
    · rintro σ H' pv
      rw [hPv] at pv
      obtain ⟨L, vs, v5, v6, v7, rfl, vis, s2, hp, pl⟩ := pv
      walk_at "rd"
      obtain ⟨k1, k2⟩ := pl.toK
      refine ⟨p, vs, kH H', rfl, SqL.of hp, k2, fun ys t so st nt => ?_⟩
      have pmy := st.perm
      have hy : ∀ v ∈ ys, IsP H' v (kH H' v) := fun v hv => k2 v (pmy.mem_iff.mp hv)
      have nd : (ys.map (kH H')).Nodup := by
        refine (pmy.map _).nodup_iff.mpr ?_
        rw [← k1]
        exact vis_nd N vis
      refine q (ys.map (kH H')) ys t _ ⟨srtd_asc nd so, fun d hd => ?_⟩ ?_ ?_ upd_same ((PL.ofK hy).kt (KT.new nt))
      · refine vis_ok N vis d ?_
        rw [k1]
        exact (pmy.map _).mem_iff.mp hd
      · exact ((s1.trans s2).trans (same_upd nt))
      · exact (s1.trans s2).free nt
end

abbrev sSame : Stmt := topS 21
/-- isinstance of built-in kinds -/
def isTy (m n : String) : Bool := m == n || (m == "bool" && n == "int")
theorem kit5 {K : PySem.W.Frag} {m n : String} (hm : m = "bool" ∨ m = "int" ∨ m = "str" ∨ m = "list" ∨ m = "tuple") (hn : n = "bool" ∨ n = "int" ∨ n = "str" ∨ n = "list" ∨ n = "tuple") : PySem.W.kitOne K (.type m) (.type n) = some (isTy m n) := by
  rcases hm with rfl | rfl | rfl | rfl | rfl <;> rcases hn with rfl | rfl | rfl | rfl | rfl <;> exact kit_ty (by decide +kernel)
def rIs5 (K : PySem.W.Frag) : List V → Hp → VK → Prop := fun xs H Q => ∃ (x : V) (n m : String), xs = [x, .ty n] ∧ TyX K H x (.type m) ∧ (m = "bool" ∨ m = "int" ∨ m = "str" ∨ m = "list" ∨ m = "tuple") ∧ (n = "bool" ∨ n = "int" ∨ n = "str" ∨ n = "list" ∨ n = "tuple") ∧ Q (.bl (isTy m n)) H
theorem cr_is5 {X : Cx} : CallR X (.builtin "isinstance") (rIs5 X.K) := fun pins s σ H xs us Q I r h => by
  obtain ⟨x, n, m, rfl, ty, hm, hn, q⟩ := h
  exact call_isi pins s σ H _ us Q I r ⟨x, .ty n, _, _, _, rfl, .ty n, ty, kit5 hm hn, q⟩
theorem is5_of {K : PySem.W.Frag} {H : Hp} {x : V} {n m : String} {Q : VK} (ty : TyX K H x (.type m)) (hm : m = "bool" ∨ m = "int" ∨ m = "str" ∨ m = "list" ∨ m = "tuple") (hn : n = "bool" ∨ n = "int" ∨ n = "str" ∨ n = "list" ∨ n = "tuple") (q : Q (.bl (isTy m n)) H) : rIs5 K [x, .ty n] H Q :=
  ⟨x, n, m, rfl, ty, hm, hn, q⟩
theorem eqS_of {H : Hp} {x : V} {Q : VK} (h : scal x x = true) (q : Q (.bl true) H) : rEq x x H Q := ⟨h, by rw [decide_eq_true rfl]; exact q⟩
local macro_rules | `(tactic| walk_at "i5") => `(tactic| ((first | refine is5_of (.base (.int _)) (by decide) (by decide) ?_ | refine is5_of (.base (.str _)) (by decide) (by decide) ?_ | refine is5_of (.base (.bl _)) (by decide) (by decide) ?_ | refine is5_of (.base (.lst (by assumption))) (by decide) (by decide) ?_ | refine is5_of (.base (.tup (by assumption))) (by decide) (by decide) ?_)))
local macro_rules | `(tactic| walk_at "i6") => `(tactic| (simp only [rIsT, isTy, String.reduceBEq, Bool.or_false, Bool.or_true, Bool.and_false, Bool.and_true, Bool.true_or, Bool.false_or, Bool.true_and, Bool.false_and, reduceCtorEq, decide_false, decide_true, V.bl.injEq, exists_eq_left', if_true, if_false, Bool.false_eq_true, ↓reduceIte, Bool.not_true, Bool.not_false, ite_self]))
def flat4 : V → Bool
  | .non => true
  | .bl _ => true
  | .int _ => true
  | .str _ => true
  | _ => false
/-- the same data, of at most this depth, the lists and tuples tracked -/
def Sm (H : Hp) : Nat → V → V → Prop
  | 0, x, y => x = y ∧ flat4 x = true
  | n + 1, x, y => (x = y ∧ flat4 x = true) ∨ ∃ a b xs ys, x = .ref a ∧ y = .ref b ∧ ((H a = some (.lst xs) ∧ H b = some (.lst ys)) ∨ (H a = some (.tup xs) ∧ H b = some (.tup ys))) ∧ Paired (Sm H n) xs ys ∧ xs.length ≤ 100000
theorem Sm.flat {H : Hp} {n : Nat} {x : V} (h : flat4 x = true) : Sm H n x x := by
  cases n with
  | zero => exact ⟨rfl, h⟩
  | succ n => exact .inl ⟨rfl, h⟩
theorem paired_get {α β : Type} {F : α → β → Prop} : ∀ {xs : List α} {ys : List β} {i : Nat}, Paired F xs ys → i < xs.length → ∃ x y, xs[i]? = some x ∧ ys[i]? = some y ∧ F x y
  | _, _, _, .nil, h => by cases h
  | _, _, 0, .cons r _, _ => ⟨_, _, rfl, rfl, r⟩
  | _, _, i + 1, .cons _ t, h => paired_get (i := i) t (Nat.lt_of_succ_lt_succ h)
section
variable {P : Program} {w : World} {K : PySem.W.Frag} {mg : Str → Option Value} {base : Heap}
theorem scSame : FnScope ["got", "due", "k"] ["got", "due"] (defScope sSame) := ⟨rfl, rfl, rfl, by decide +kernel, rfl, by decide +kernel, by decide +kernel⟩
def spSame (n : Nat) : Sp := fun vs H Q _ => ∃ x y, vs = [x, y] ∧ Sm H n x y ∧ Q (.bl true) H
theorem ok_same {f : Addr} {fd : FuncData} (F : Fun K "_law_same" "_law_same" sSame f fd) (T : Bi mg) (bd : Binds K fd ["got", "due"] []) (hmg : mg "_law_same" = some (.ref f)) : ∀ n, FnOk P w K mg base CX0 (n + 1) f fd ["got", "due"] (spSame n) := by
  intro n
  induction n with
  | zero =>
    refine F.ok scSame (fun vs H Q E h => ?_) (fun cdv A outer s H vs Q E hr h => ?_)
    · obtain ⟨x, y, rfl, _⟩ := h
      rfl
    · obtain ⟨x, y, rfl, ⟨rfl, hf⟩, q⟩ := h
      refine ⟨_, (pss_cons (ps_if (pt_cmpR op_isN (pv 1) pe_non (nomark _))
      (pss_one (ps_ret (pe_cmpR op_isN (pv 0) pe_non (nomark _))))
      pss_nil)
      (pss_cons (ps_if (pt_cmpR op_isT (pv 1) pe_bl (nomark _))
      (pss_one (ps_ret (pe_cmpR op_isT (pv 0) pe_bl (nomark _))))
      pss_nil)
      (pss_cons (ps_if (pt_cmpR op_isT (pv 1) pe_bl (nomark _))
      (pss_one (ps_ret (pe_cmpR op_isT (pv 0) pe_bl (nomark _))))
      pss_nil)
      (pss_cons (ps_if (pt_val (pe_callB cr_is5 (by rfl) T.isinstance (by decide +kernel) (pa_cons (pv 1) (pa_cons (pe_bltn (v := .ty "int") (by rfl) T.int (by decide +kernel) rfl) pa_nil))))
      (pss_one (ps_ret (pe_and (pe_callB cr_is5 (by rfl) T.isinstance (by decide +kernel) (pa_cons (pv 0) (pa_cons (pe_bltn (v := .ty "int") (by rfl) T.int (by decide +kernel) rfl) pa_nil))) (pe_and (pe_not (pe_callB cr_is5 (by rfl) T.isinstance (by decide +kernel) (pa_cons (pv 0) (pa_cons (pe_bltn (v := .ty "bool") (by rfl) T.bool (by decide +kernel) rfl) pa_nil)))) (pe_one (pe_cmpR op_eq (pv 0) (pv 1) (nomark _)))))))
      pss_nil)
      (pss_cons (ps_if (pt_val (pe_callB cr_is5 (by rfl) T.isinstance (by decide +kernel) (pa_cons (pv 1) (pa_cons (pe_bltn (v := .ty "str") (by rfl) T.str (by decide +kernel) rfl) pa_nil))))
      (pss_one (ps_ret (pe_and (pe_callB cr_is5 (by rfl) T.isinstance (by decide +kernel) (pa_cons (pv 0) (pa_cons (pe_bltn (v := .ty "str") (by rfl) T.str (by decide +kernel) rfl) pa_nil))) (pe_one (pe_cmpR op_eq (pv 0) (pv 1) (nomark _))))))
      pss_nil)
      (pss_cons (ps_if (PW.pt (pw_and (pt_val (pe_callB cr_is5 (by rfl) T.isinstance (by decide +kernel) (pa_cons (pv 1) (pa_cons (pe_bltn (v := .ty "list") (by rfl) T.list (by decide +kernel) rfl) pa_nil)))) (pw_and1 (pt_not (pt_val (pe_callB cr_is5 (by rfl) T.isinstance (by decide +kernel) (pa_cons (pv 0) (pa_cons (pe_bltn (v := .ty "list") (by rfl) T.list (by decide +kernel) rfl) pa_nil))))))))
      (pss_one (ps_ret pe_bl))
      pss_nil)
      (pss_cons (ps_if (PW.pt (pw_and (pt_val (pe_callB cr_is5 (by rfl) T.isinstance (by decide +kernel) (pa_cons (pv 1) (pa_cons (pe_bltn (v := .ty "tuple") (by rfl) T.tuple (by decide +kernel) rfl) pa_nil)))) (pw_and1 (pt_not (pt_val (pe_callB cr_is5 (by rfl) T.isinstance (by decide +kernel) (pa_cons (pv 0) (pa_cons (pe_bltn (v := .ty "tuple") (by rfl) T.tuple (by decide +kernel) rfl) pa_nil))))))))
      (pss_one (ps_ret pe_bl))
      pss_nil)
      (pss_cons (ps_if (pt_cmpR op_neI (pe_callB call_len_seq (by rfl) T.len (by decide +kernel) (pa_cons (pv 0) pa_nil)) (pe_callB call_len_seq (by rfl) T.len (by decide +kernel) (pa_cons (pv 1) pa_nil)) (nomark _))
      (pss_one (ps_ret pe_bl))
      pss_nil)
      (pss_cons (ps_never)
      (pss_one (ps_ret pe_bl))))))))))), ?_⟩
      walk_at "rd"
      cases x with
      | non => walk_at "i6"; exact q
      | bl b =>
        cases b with
        | true => walk_at "i6"; exact q
        | false => walk_at "i6"; exact q
      | int i =>
        walk_at "i6"
        repeat (walk_at "i5"; walk_at "i6")
        exact eqS_of rfl q
      | str z =>
        walk_at "i6"
        repeat (walk_at "i5"; walk_at "i6")
        exact eqS_of rfl q
      | _ => cases hf
  | succ n ih =>
    refine F.ok scSame (fun vs H Q E h => ?_) (fun cdv A outer s H vs Q E hr h => ?_)
    · obtain ⟨x, y, rfl, _⟩ := h
      rfl
    · obtain ⟨x, y, rfl, hs, q⟩ := h
      refine ⟨_, (pss_cons (ps_if (pt_cmpR op_isN (pv 1) pe_non (nomark _))
      (pss_one (ps_ret (pe_cmpR op_isN (pv 0) pe_non (nomark _))))
      pss_nil)
      (pss_cons (ps_if (pt_cmpR op_isT (pv 1) pe_bl (nomark _))
      (pss_one (ps_ret (pe_cmpR op_isT (pv 0) pe_bl (nomark _))))
      pss_nil)
      (pss_cons (ps_if (pt_cmpR op_isT (pv 1) pe_bl (nomark _))
      (pss_one (ps_ret (pe_cmpR op_isT (pv 0) pe_bl (nomark _))))
      pss_nil)
      (pss_cons (ps_if (pt_val (pe_callB cr_is5 (by rfl) T.isinstance (by decide +kernel) (pa_cons (pv 1) (pa_cons (pe_bltn (v := .ty "int") (by rfl) T.int (by decide +kernel) rfl) pa_nil))))
      (pss_one (ps_ret (pe_and (pe_callB cr_is5 (by rfl) T.isinstance (by decide +kernel) (pa_cons (pv 0) (pa_cons (pe_bltn (v := .ty "int") (by rfl) T.int (by decide +kernel) rfl) pa_nil))) (pe_and (pe_not (pe_callB cr_is5 (by rfl) T.isinstance (by decide +kernel) (pa_cons (pv 0) (pa_cons (pe_bltn (v := .ty "bool") (by rfl) T.bool (by decide +kernel) rfl) pa_nil)))) (pe_one (pe_cmpR op_eq (pv 0) (pv 1) (nomark _)))))))
      pss_nil)
      (pss_cons (ps_if (pt_val (pe_callB cr_is5 (by rfl) T.isinstance (by decide +kernel) (pa_cons (pv 1) (pa_cons (pe_bltn (v := .ty "str") (by rfl) T.str (by decide +kernel) rfl) pa_nil))))
      (pss_one (ps_ret (pe_and (pe_callB cr_is5 (by rfl) T.isinstance (by decide +kernel) (pa_cons (pv 0) (pa_cons (pe_bltn (v := .ty "str") (by rfl) T.str (by decide +kernel) rfl) pa_nil))) (pe_one (pe_cmpR op_eq (pv 0) (pv 1) (nomark _))))))
      pss_nil)
      (pss_cons (ps_if (PW.pt (pw_and (pt_val (pe_callB cr_is5 (by rfl) T.isinstance (by decide +kernel) (pa_cons (pv 1) (pa_cons (pe_bltn (v := .ty "list") (by rfl) T.list (by decide +kernel) rfl) pa_nil)))) (pw_and1 (pt_not (pt_val (pe_callB cr_is5 (by rfl) T.isinstance (by decide +kernel) (pa_cons (pv 0) (pa_cons (pe_bltn (v := .ty "list") (by rfl) T.list (by decide +kernel) rfl) pa_nil))))))))
      (pss_one (ps_ret pe_bl))
      pss_nil)
      (pss_cons (ps_if (PW.pt (pw_and (pt_val (pe_callB cr_is5 (by rfl) T.isinstance (by decide +kernel) (pa_cons (pv 1) (pa_cons (pe_bltn (v := .ty "tuple") (by rfl) T.tuple (by decide +kernel) rfl) pa_nil)))) (pw_and1 (pt_not (pt_val (pe_callB cr_is5 (by rfl) T.isinstance (by decide +kernel) (pa_cons (pv 0) (pa_cons (pe_bltn (v := .ty "tuple") (by rfl) T.tuple (by decide +kernel) rfl) pa_nil))))))))
      (pss_one (ps_ret pe_bl))
      pss_nil)
      (pss_cons (ps_if (pt_cmpR op_neI (pe_callB call_len_seq (by rfl) T.len (by decide +kernel) (pa_cons (pv 0) pa_nil)) (pe_callB call_len_seq (by rfl) T.len (by decide +kernel) (pa_cons (pv 1) pa_nil)) (nomark _))
      (pss_one (ps_ret pe_bl))
      pss_nil)
      (pss_cons (ps_for PassesOwn.never rfl (pi_range1 (by rfl) T.range (pa_cons (pe_callB call_len_seq (by rfl) T.len (by decide +kernel) (pa_cons (pv 1) pa_nil)) pa_nil)) (pg_name (i := 2) scSame.nd rfl (Or.inl rfl))
      (pss_one (ps_if (pt_not (pt_val (pe_call ih hr (by rfl) hmg F.kp bd .nil pass0 (pa_cons (pe_ix ix_seq (pv 0) (pv 2) (fun _ _ => rfl)) (pa_cons (pe_ix ix_seq (pv 1) (pv 2) (fun _ _ => rfl)) pa_nil)))))
        (pss_one (ps_ret pe_bl))
        pss_nil)))
      (pss_one (ps_ret pe_bl))))))))))), ?_⟩
      walk_at "rd"
      rcases hs with ⟨rfl, hf⟩ | ⟨a, b, xs, ys, rfl, rfl, hk, pr, hl⟩
      · skip
        cases x with
        | non => walk_at "i6"; exact q
        | bl b =>
          cases b with
          | true => walk_at "i6"; exact q
          | false => walk_at "i6"; exact q
        | int i =>
          walk_at "i6"
          repeat (walk_at "i5"; walk_at "i6")
          exact eqS_of rfl q
        | str z =>
          walk_at "i6"
          repeat (walk_at "i5"; walk_at "i6")
          exact eqS_of rfl q
        | _ => cases hf
      · have el : xs.length = ys.length := pr.length
        have hx : SqL K H a xs ∨ SqT K H a xs := by
          rcases hk with ⟨ha, _⟩ | ⟨ha, _⟩
          · exact .inl (SqL.of ha)
          · exact .inr (SqT.of ha)
        have hy : SqL K H b ys ∨ SqT K H b ys := by
          rcases hk with ⟨_, ha⟩ | ⟨_, ha⟩
          · exact .inl (SqL.of ha)
          · exact .inr (SqT.of ha)
        have ix : ∀ {zs : List V} {k : Nat} {p : Addr} {v : V} {Q : VK}, (SqL K H p zs ∨ SqT K H p zs) → zs[k]? = some v → Q v H → rIx K (.ref p) (.int k) H Q := fun hz hv hq => by
          rcases hz with hz | hz
          · exact .inl ⟨_, _, _, _, rfl, rfl, hz, atI_nat hv, hq⟩
          · exact .inr (.inl ⟨_, _, _, _, rfl, rfl, hz, atI_nat hv, hq⟩)
        rcases hk with ⟨ha, hb⟩ | ⟨ha, hb⟩
        all_goals
          walk_at "i6"
          repeat (walk_at "i5"; walk_at "i6")
          refine ⟨_, rfl, _, hx, _, rfl, _, hy, ?_⟩
          rw [el, decide_eq_true rfl]
          refine iteF ?_
          obtain ⟨Pv, hPv⟩ : ∃ Pv : Nat → L2.St → Hp → Prop, Pv = (fun i σ H' => ∃ v : Option V, σ = [some (.ref a), some (.ref b), v] ∧ H' = H) := ⟨_, rfl⟩
          refine ⟨_, rfl, b, rfl, ys, hy, ys.length, rfl, by omega, by omega, for_range (lo := 0) (n := ((ys.length : Nat) : Int).toNat) Pv (by rw [hPv]; exact ⟨none, rfl, rfl⟩) ?_ ?_⟩
          · rintro i σ H' hi pv
            have nxt : ∀ v, Pv (i + 1) [some (.ref a), some (.ref b), v] H := fun v => by
              rw [hPv]
              exact ⟨v, rfl, rfl⟩
            rw [hPv] at pv
            obtain ⟨v, rfl, rfl⟩ := pv
            obtain ⟨x1, y1, g1, g2, sm⟩ := paired_get (i := i) pr (by omega)
            walk_at "rd"
            rw [Int.zero_add]
            refine ix hx g1 (ix hy g2 ⟨_, _, rfl, sm, ?_⟩)
            exact ⟨true, rfl, iteF (nxt _)⟩
          · rintro σ H' pv
            rw [hPv] at pv
            obtain ⟨v, rfl, rfl⟩ := pv
            walk_at "rd"
            exact q
end

/-! ### a set of tuples of ints, whatever their number (the table's masks: 7, 31, 127) -/
structure PsR (P : Program) (w : World) (h : Heap) (a : Addr) (L : List (Addr × List Int)) (es : Array (Int × Value)) (ep : Nat) (t : SetTable) : Prop where
  obj : ∃ o, h.get? a = some o ∧ o.ExactSet ∧ o.data = .set es ep t
  rw_ : es.toList = rowsOf P w L
  tb : TabOk t (L.map fun p => thash P w p.2)
  nod : (L.map (·.2)).Nodup
  tps : ∀ p ∈ L, IsT P w h p.2 p.1
  pln : t.plain = true
  ld : w.params.followText "set-order" = true ∨ t.led = true
  rm : L.length * 5 < t.mask * 3
section
variable {P : Program} {w : World} {A : Around} {E : Value → Shared → Prop} {s : Shared}
variable {a : Addr} {L : List (Addr × List Int)} {es : Array (Int × Value)} {ep : Nat} {t : SetTable}
theorem PsR.sz (R : PsR P w s.heap a L es ep t) : es.size = L.length := by
  have e := congrArg List.length R.rw_
  rw [Array.length_toList] at e
  rw [e]
  exact List.length_map _
theorem PsR.psz (R : PsR P w s.heap a L es ep t) : t.place.size = L.length := by
  have e := R.tb.sz
  rw [List.length_map] at e
  exact e
theorem PsR.fts (R : PsR P w s.heap a L es ep t) : t.fits es.size = true := by
  have e1 := R.psz
  have e2 := R.sz
  have e3 := R.rm
  have e4 : t.fill = t.place.size := by
    show t.place.size + t.dummies.size = t.place.size
    rw [R.tb.dm]
    rfl
  show (t.place.size == es.size && decide (t.fill ≤ t.mask)) = true
  rw [e4, e1, e2, beq_self_eq_true, Bool.true_and, decide_eq_true_eq]
  omega
theorem PsR.ent (R : PsR P w s.heap a L es ep t) {i : Nat} {p : Addr × List Int} (g : L[i]? = some p) : es[i]? = some (thash P w p.2, Value.ref p.1) := by
  have e : (rowsOf P w L)[i]? = some (thash P w p.2, Value.ref p.1) := by
    show (L.map _)[i]? = _
    rw [List.getElem?_map, g]
    rfl
  rw [← R.rw_, Array.getElem?_toList] at e
  exact e
theorem PsR.odd (R : PsR P w s.heap a L es ep t) : ¬ t.gaveWay = true := fun z => by
  have m := mask_odd R.tb.mok
  have z2 : (t.mask % 2 == 0) = true := z
  rw [m] at z2
  cases z2
/-- the c-th state of the search for the tuple k -/
abbrev stAt (P : Program) (w : World) (t : SetTable) (k : List Int) (c : Nat) : SetTable.Probe := nth t.mask (t.probeStart (thash P w k)) c
abbrev slAt (P : Program) (w : World) (t : SetTable) (k : List Int) (c : Nat) : Nat := (stAt P w t k c).j
theorem stAt_dm (k : List Int) (c : Nat) : (stAt P w t k c).dummy = none := by
  have all : ∀ (n : Nat) (p : SetTable.Probe), p.dummy = none → (nth t.mask p n).dummy = none := by
    intro n
    induction n with
    | zero => exact fun _ e => e
    | succ n ih =>
      intro p e
      show (nth t.mask (adv t.mask p) n).dummy = none
      exact ih _ (by rw [← adv_eq, advance_dummy]; exact e)
  exact all c _ rfl
theorem stAt_add (k : List Int) (c q : Nat) : nth t.mask (stAt P w t k c) q = stAt P w t k (c + q) := (nth_add t.mask c _ q).symm
theorem psearch (R : PsR P w s.heap a L es ep t) {x : Addr} {k : List Int} (hx : IsT P w s.heap k x) (hu : A.units < cLine) (ad : Bool) {N : Nat} (hN : N < 10 * SetTable.turns t.mask)
    (free : slAt P w t k N ∉ t.place.toList) (full : ∀ c, c < N → slAt P w t k c ∈ t.place.toList) {Q : SetFound → Shared → Prop}
    (yes : ∀ i, k ∈ L.map (·.2) → Q (.there (if ad then none else some i)) s) (no : k ∉ L.map (·.2) → Q (.free (slAt P w t k N) false) s) :
    ∀ (f c : Nat) (st : Option SetTable.Probe), st.getD (t.probeStart (thash P w k)) = stAt P w t k c → c ≤ N → N < f + c →
      (∀ (i : Nat) p, L[i]? = some p → p.2 = k → ∃ c', c ≤ c' ∧ c' < N ∧ t.place.toList[i]? = some (slAt P w t k c')) →
      wpAny (model P w) A (setSearchFrom a (.ref x) (thash P w k) ad f st) Q E s := by
  intro f
  induction f with
  | zero => intro c st _ h1 h2 _; omega
  | succ f ih =>
    intro c st est hc hf ahead
    obtain ⟨o, ho, hex, hd⟩ := R.obj
    rw [setSearchFrom_succ]
    refine wpAny_bind (wpAny_setState_of ho hd R.fts ?_)
    dsimp only
    refine wp_if_neg R.odd ?_
    try refine wpAny_bind (wpAny_pure ?_)
    have hashes : ∀ (i : Nat) p, L[i]? = some p → (es[i]?.map (·.1)).getD 0 = thash P w p.2 := fun i p g => by
      rw [R.ent g]
      rfl
    have spec := go_spec t R.tb.ris R.tb.dm (fun i => (es[i]?.map (·.1)).getD 0) (thash P w k) (10 * SetTable.turns t.mask) (N - c) (stAt P w t k c) (stAt_dm k c) (by omega)
      (fun q hq => by rw [stAt_add]; exact full (c + q) (by omega)) (by rw [stAt_add, Nat.add_sub_cancel' hc]; exact free)
    rw [est]
    simp only [stAt_add] at spec
    rcases spec with ⟨q, i, hq, hi, _, early, pr⟩ | ⟨early, pr⟩
    · -- an entry of this hash stands there
      have pr2 : t.probe (fun i => (es[i]?.map (·.1)).getD 0) (thash P w k) (stAt P w t k c) = _ := pr
      rw [pr2]
      dsimp only
      have il : i < L.length := by
        have e := (List.getElem?_eq_some_iff.mp hi).1
        rw [Array.length_toList, R.psz] at e
        exact e
      obtain ⟨p, gp⟩ : ∃ p, L[i]? = some p := ⟨_, List.getElem?_eq_getElem il⟩
      have mp : p ∈ L := List.mem_of_getElem? gp
      have live : t.slot (slAt P w t k (c + q)) = .live i := slot_live R.tb.ris hi
      have go : wpAny (model P w) A (searchRest a (.ref x) (thash P w k) ad f es t (slAt P w t k (c + q)) i (stAt P w t k (c + (q + 1)))) Q E s := by
        unfold searchRest
        rw [R.ent gp]
        dsimp only
        refine wpAny_bind (wpAny_holding (wpAny_eqBool_tuple hu (R.tps p mp) hx ?_))
        refine wpAny_bind (wpAny_setState_of ho hd R.fts ?_)
        dsimp only
        have later : p.2 ≠ k → wpAny (model P w) A (setSearchFrom a (.ref x) (thash P w k) ad f (some (stAt P w t k (c + (q + 1))))) Q E s := fun ne => by
          refine ih (c + (q + 1)) _ rfl (by omega) (by omega) fun i2 p2 g2 e2 => ?_
          obtain ⟨c2, b1, b2, b3⟩ := ahead i2 p2 g2 e2
          refine ⟨c2, ?_, b2, b3⟩
          refine Classical.byContradiction fun lt => ?_
          by_cases hc2 : c2 < c + q
          · refine early (c2 - c) i2 (by omega) (by rw [Nat.add_sub_cancel' b1]; exact b3) ?_
            rw [hashes i2 p2 g2, e2]
          · have e3 : c2 = c + q := by omega
            rw [e3] at b3
            have l2 := slot_live R.tb.ris b3
            rw [live] at l2
            injection l2 with l2
            rw [← l2, gp] at g2
            rw [Option.some.inj g2] at ne
            exact ne e2
        by_cases hk : p.2 = k
        · have mk : k ∈ L.map (·.2) := List.mem_map.mpr ⟨p, mp, hk⟩
          cases ad with
          | true =>
            refine wp_if_pos (by simp [hk]) ?_
            exact wpAny_pure (yes i mk)
          | false =>
            refine wp_if_neg (by simp) ?_
            try refine wpAny_bind (wpAny_pure ?_)
            rw [sameMem]
            dsimp only
            simp only [if_true, live, R.ent gp]
            refine wpAny_bind (wpAny_isSame_ref_self (wpAny_bind (wpAny_pure ?_)))
            rw [if_pos rfl]
            dsimp only
            rw [if_pos (decide_eq_true hk)]
            exact wpAny_pure (yes i mk)
        · refine wp_if_neg (by simp [hk]) ?_
          try refine wpAny_bind (wpAny_pure ?_)
          rw [sameMem]
          dsimp only
          simp only [if_true, live, R.ent gp]
          refine wpAny_bind (wpAny_isSame_ref_self (wpAny_bind (wpAny_pure ?_)))
          rw [if_pos rfl]
          dsimp only
          rw [if_neg (by rw [decide_eq_true_eq]; exact hk)]
          exact later hk
      by_cases hl : t.led = true
      · refine wp_if_neg (by rw [hl]; decide) ?_
        try refine wpAny_bind (wpAny_pure ?_)
        exact go
      · refine wp_if_pos (by simp [hl]) ?_
        refine wpAny_bind (seen_tup hx (fun y hy => ?_) ?_)
        · obtain ⟨e, he, rfl⟩ := List.mem_map.mp hy
          have he2 : e ∈ es.toList := by
            have := (Array.mem_filter.mp (Array.mem_toList_iff.mp he)).1
            exact Array.mem_toList_iff.mpr this
          rw [R.rw_] at he2
          obtain ⟨p2, m2, rfl⟩ := List.mem_map.mp he2
          exact ⟨p2.2, p2.1, rfl, R.tps p2 m2⟩
        · refine wp_if_neg Bool.false_ne_true ?_
          try refine wpAny_bind (wpAny_pure ?_)
          exact go
    · -- the empty slot
      have pr2 : t.probe (fun i => (es[i]?.map (·.1)).getD 0) (thash P w k) (stAt P w t k c) = _ := pr
      rw [pr2, Nat.add_sub_cancel' hc]
      dsimp only
      refine wpAny_pure (no fun hm => ?_)
      obtain ⟨p, mp, e⟩ := List.mem_map.mp hm
      obtain ⟨i, gp⟩ := List.getElem?_of_mem mp
      obtain ⟨c2, b1, b2, b3⟩ := ahead i p gp e
      refine early (c2 - c) i (by omega) (by rw [Nat.add_sub_cancel' b1]; exact b3) ?_
      rw [hashes i p gp, e]
/-- the search as it is asked for -/
theorem psearch0 (R : PsR P w s.heap a L es ep t) {x : Addr} {k : List Int} (hx : IsT P w s.heap k x) (hu : A.units < cLine) (ad : Bool) {Q : SetFound → Shared → Prop}
    (yes : ∀ i, k ∈ L.map (·.2) → Q (.there (if ad then none else some i)) s)
    (no : ∀ N, k ∉ L.map (·.2) → slAt P w t k N ∉ t.place.toList → (∀ c, c < N → slAt P w t k c ∈ t.place.toList) → Q (.free (slAt P w t k N) false) s) :
    wpAny (model P w) A (setSearch a (.ref x) (thash P w k) ad) Q E s := by
  have few := R.rm
  obtain ⟨N, n1, n2, n3⟩ := R.tb.first (by rw [List.length_map]; omega) (thash P w k)
  have n4 : N < 100000 := by
    have e : 10 * SetTable.turns t.mask ≤ 1420 := by
      unfold SetTable.turns
      rcases R.tb.mok with e | e | e <;> omega
    omega
  unfold setSearch
  refine psearch R hx hu ad n1 n2 n3 yes (fun z => no N z n2 n3) 100000 0 none rfl (Nat.zero_le _) (by omega) fun i p gp e => ?_
  have g1 : (L.map fun p => thash P w p.2)[i]? = some (thash P w k) := by
    rw [List.getElem?_map, gp, ← e]
    rfl
  have g2 : i < t.place.toList.length := by
    rw [Array.length_toList, R.psz]
    exact (List.getElem?_eq_some_iff.mp gp).1
  obtain ⟨c, c1, c2⟩ := R.tb.before n2 g1 (List.getElem?_eq_getElem g2)
  refine ⟨c, Nat.zero_le _, c1, ?_⟩
  rw [List.getElem?_eq_getElem g2]
  exact congrArg some c2.symm
end

section
variable {P : Program} {w : World} {A : Around} {E : Value → Shared → Prop} {s : Shared}
variable {a : Addr} {L : List (Addr × List Int)} {es : Array (Int × Value)} {ep : Nat} {t : SetTable}
theorem PsR.ty (R : PsR P w s.heap a L es ep t) : s.TypeIs (.ref a) "set" := by
  obtain ⟨o, ho, hx, _⟩ := R.obj
  exact ⟨o, ho, hx.1⟩
theorem PsR.nodict (R : PsR P w s.heap a L es ep t) : ∀ b, Value.ref a = .ref b → ∃ ob, s.heap.get? b = some ob ∧ ob.dict = none := fun b e => by
  injection e with e
  subst e
  obtain ⟨o, ho, hx, _⟩ := R.obj
  exact ⟨o, ho, hx.2.1⟩
/-- who is sought among tuples -/
theorem pfind (R : PsR P w s.heap a L es ep t) {x : Addr} {k : List Int} (hx : IsT P w s.heap k x) (hu : A.units < cLine) {Q : Option Nat → Shared → Prop}
    (h : ∀ r : Option Nat, r.isSome = decide (k ∈ L.map (·.2)) → Q r s) : wpAny (model P w) A (setFind a (.ref x) (thash P w k)) Q E s := by
  obtain ⟨o, ho, hex, hd⟩ := R.obj
  show wpAny (model P w) A (setFindIn a (.ref x) (thash P w k) (99999 + 1)) Q E s
  unfold setFindIn
  refine wpAny_bind (wpAny_setState_of ho hd R.fts ?_)
  dsimp only
  refine wp_if_neg (by simp [byScan, Value.scannable]) ?_
  try refine wpAny_bind (wpAny_pure ?_)
  refine wpAny_bind (psearch0 R hx hu false (fun i m => ?_) fun N m _ _ => ?_)
  · dsimp only
    exact wpAny_pure (h (some i) (by rw [decide_eq_true m]; rfl))
  · dsimp only
    exact wpAny_pure (h none (by rw [decide_eq_false m]; rfl))
theorem pis_in (R : PsR P w s.heap a L es ep t) {x : Addr} {k : List Int} (hx : IsT P w s.heap k x) (hu : A.units + 4 < cLine) {Q : Value → Shared → Prop}
    (h : Q (.bool (decide (k ∈ L.map (·.2)))) { s with toks := s.toks + (k.length + 1) }) : wpAny (model P w) A (compareOp .In (.ref x) (.ref a)) Q E s := by
  have ty := R.ty
  have ask : wpAny (model P w) A.in1 (Builtin.«frozenset.__contains__» ⟨[.ref a, .ref x], []⟩) (fun fin s' => ∃ v, fin = .done (.ret v) ∧ wpAny (model P w) A (truthy v) (fun c s' => wpAny (model P w) A (pure (Value.bool c)) Q E s') E s') E s := by
    simp only [Builtin.«frozenset.__contains__», Builtin.Frozenset.oneOther, Builtin.Frozenset.addrOf, Builtin.Frozenset.withSetAsKey, setContains, List.isEmpty_nil, bind_assoc]
    refine wpAny_bind (wpAny_pure ?_); try dsimp only
    refine wpAny_bind (wpAny_pure ?_); try dsimp only
    refine wpAny_bind (wpAny_tryCatch (wpAny_holding (wpAny_bind (wpAny_pyHash_tuple (by show A.units + 1 < cLine; omega) hx ?_))))
    refine wpAny_bind (pfind (s := { s with toks := s.toks + (k.length + 1) }) R hx (by show A.units + 1 < cLine; omega) fun r er => wpAny_pure ?_)
    show wpAny _ _ (ret (Value.bool r.isSome)) _ _ _
    rw [er]
    exact wpAny_pure ⟨_, rfl, wpAny_truthy_bool (wpAny_pure h)⟩
  show wpAny _ _ (contains (.ref a) (.ref x) >>= fun b => pure (Value.bool b)) Q E s
  refine wpAny_bind ?_
  unfold contains
  try with_reducible refine wpAny_holding ?_
  refine wpAny_bind (wpAny_specialOf ty F.slot_set_contains.lookup ?_)
  refine wp_if_neg (by rw [beq_builtin_none]; decide) (wpAny_bind (wpAny_callSpecialUnlessNone?_slot (name := Str.ofString "__contains__") ty F.slot_set_contains (wpAny_call_entry F.slot_set_contains ty entry_set_contains ask (F.args_set_contains_2 _ _))))
end

section
variable {P : Program} {w : World} {A : Around} {E : Value → Shared → Prop} {s : Shared}
variable {a : Addr} {L : List (Addr × List Int)} {es : Array (Int × Value)} {ep : Nat} {t : SetTable}
theorem PsR.small {h : Heap} (R : PsR P w h a L es ep t) (few : L.length < 64) : SetTR P w h a L es ep t := ⟨R.obj, R.rw_, R.tb, R.nod, R.tps, R.pln, R.ld, R.rm, few⟩
theorem PsR.of {h : Heap} (R : SetTR P w h a L es ep t) : PsR P w h a L es ep t := ⟨R.ob, R.rows, R.tab, R.nd, R.tup, R.plain, R.led, R.room⟩
/-- one more tuple -/
theorem padd (R : PsR P w s.heap a L es ep t) {x : Addr} {k : List Int} (hx : IsT P w s.heap k x) (hu : A.units < cLine) (bnd : L.length + 1 ≤ 76) {Q : Bool → Shared → Prop}
    (h : ∀ b h' L' es' ep' t', Heap.SameBut a s.heap h' → PsR P w h' a L' es' ep' t' → (k ∈ L.map (·.2) → L' = L) → (k ∉ L.map (·.2) → L'.Perm ((x, k) :: L)) → Q b { s with heap := h' }) :
    wpAny (model P w) A (setAddHashed a (.ref x) (thash P w k)) Q E s := by
  by_cases few : L.length + 1 < 64
  · exact add_at (R.small (by omega)) hx hu few fun b h' L' es' ep' t' sb R' c1 c2 => h b h' L' es' ep' t' sb (PsR.of R') c1 c2
  · obtain ⟨o, ho, hex, hd⟩ := R.obj
    have m127 : t.mask = 127 := by
      have := R.rm
      rcases R.tb.mok with e | e | e <;> omega
    unfold setAddHashed
    refine wpAny_holding ?_
    show wpAny (model P w) A (setAddHashedIn a (.ref x) (thash P w k) (99999 + 1)) Q E s
    rw [setAddHashedIn_succ]
    refine wpAny_bind (wpAny_setState_of ho hd R.fts ?_)
    dsimp only
    refine wp_if_neg (by simp [byScan, Value.scannable]) ?_
    try refine wpAny_bind (wpAny_pure ?_)
    refine wpAny_bind (psearch0 R hx hu true (fun i m => ?_) fun N m n1 n2 => ?_)
    · dsimp only
      exact wpAny_pure (h false s.heap L es ep t (Heap.SameBut.refl a s.heap) R (fun _ => rfl) fun z => absurd m z)
    · dsimp only
      refine wpAny_bind (wpAny_setState_of ho hd R.fts ?_)
      dsimp only
      obtain ⟨q1, q2, q3, q4, q5, q6, q7, q8, q9⟩ := R.tb.put n1 n2
      have e0 : way t.mask (thash P w k) N = slAt P w t k N := rfl
      rw [e0] at q1 q2 q3 q4 q5 q6 q7 q8 q9
      generalize slAt P w t k N = sl at q1 q2 q3 q4 q5 q6 q7 q8 q9 ⊢
      rw [q1]
      generalize (t.put sl).1 = t1 at q3 q4 q5 q6 q7 q8 q9 ⊢
      generalize SetTable.below t.place sl = b at q2 q3 ⊢
      have plain1 : t1.plain = true := by rw [q6]; exact R.pln
      refine wp_if_pos plain1 (wpAny_bind (hashBy_tup hx ?_))
      simp only [if_true, Bool.not_false, Bool.true_and]
      have pm : (L.take b ++ (x, k) :: L.drop b).Perm ((x, k) :: L) := put_perm L b (x, k)
      have rows : (SetTable.insertAt es b (thash P w k, Value.ref x)).toList = rowsOf P w (L.take b ++ (x, k) :: L.drop b) := by
        rw [rows_put, ← R.rw_]
        exact SetTable.toList_insertAt _ _ _
      have tabs : TabOk t1 ((L.take b ++ (x, k) :: L.drop b).map fun p => thash P w p.2) := by
        rw [List.map_append, List.map_cons, List.map_take, List.map_drop]
        exact q3
      generalize SetTable.insertAt es b (thash P w k, Value.ref x) = es1 at rows ⊢
      generalize L.take b ++ (x, k) :: L.drop b = L1 at pm rows tabs
      have len1 : L1.length = L.length + 1 := pm.length_eq
      have size1 : es1.size = L.length + 1 := by
        have e := congrArg List.length rows
        rw [Array.length_toList] at e
        rw [e, ← len1]
        exact List.length_map _
      have notFull : ¬ t1.tooFull = true := fun z => by
        have z2 : decide (t1.fill * 5 ≥ t1.mask * 3) = true := z
        rw [decide_eq_true_eq, q9, List.length_map, q4, m127] at z2
        omega
      refine wpAny_bind (wpAny_storeSet_of ho hd ?_ (by rw [size1, sizeLine_eq]; omega))
      refine wp_if_neg notFull ?_
      have sb : Heap.SameBut a s.heap (s.heap.update a (Obj.putSet es1 t1)) := Heap.SameBut.update ..
      refine wpAny_pure (h true _ L1 es1 (ep + 1) t1 sb ⟨⟨_, store_at ho hd, ⟨hex.1, hex.2.1, hex.2.2⟩, rfl⟩, rows, tabs, ?_, fun p hp => ?_, plain1, by rw [q5]; exact R.ld, by rw [len1, q4, m127]; omega⟩ (fun z => absurd z m) fun _ => pm)
      · refine (pm.map (·.2)).nodup_iff.mpr ?_
        rw [List.map_cons]
        exact List.nodup_cons.mpr ⟨m, R.nod⟩
      · rcases List.mem_cons.mp (pm.mem_iff.mp hp) with e | hp2
        · rw [e]
          exact isT_same hx ho hd sb
        · exact isT_same (R.tps p hp2) ho hd sb
end

/-! ### as rules of the layer: a set of pairs of ints -/
theorem perm_map {α β : Type} {f : α → β} {l m : List β} (h : l.Perm m) : ∀ L : List α, m = L.map f → ∃ L' : List α, List.Perm L' L ∧ l = List.map f L' := by
  induction h with
  | nil => intro L e; exact ⟨[], by rw [List.map_eq_nil_iff.mp e.symm], rfl⟩
  | cons x _ ih =>
    intro L e
    cases L with
    | nil => cases e
    | cons y L =>
      obtain ⟨e1, e2⟩ := List.cons.inj e
      obtain ⟨L', p, e3⟩ := ih L e2
      exact ⟨y :: L', p.cons y, by rw [List.map_cons, e1, e3]⟩
  | swap x y l =>
    intro L e
    match L, e with
    | y' :: x' :: L, e =>
      obtain ⟨e1, e2⟩ := List.cons.inj e
      obtain ⟨e3, e4⟩ := List.cons.inj e2
      exact ⟨x' :: y' :: L, List.Perm.swap y' x' L, by rw [List.map_cons, List.map_cons, ← e1, ← e3, ← e4]⟩
  | trans _ _ ih1 ih2 =>
    intro L e
    obtain ⟨L1, p1, e1⟩ := ih2 L e
    obtain ⟨L2, p2, e2⟩ := ih1 L1 e1
    exact ⟨L2, p2.trans p1, e2⟩
def pr2 : List Int → Pr
  | [x, y] => (x, y)
  | _ => (0, 0)
section
variable {P : Program} {w : World} {A : Around} {E : Value → Shared → Prop} {s : Shared}
variable {a : Addr} {L : List (Addr × List Int)} {es : Array (Int × Value)} {ep : Nat} {t : SetTable}
theorem IsT.pair {h : Heap} {b : Addr} {x y : Int} (q : IsT P w h [x, y] b) : Srt.IsPair h (.ref b) x y := by
  obtain ⟨o, items, n, ho, hc, hd, hi⟩ := q
  obtain ⟨its⟩ := items
  cases hi with
  | cons h1 h2 =>
    cases h2 with
    | cons h3 h4 =>
      cases h4
      obtain ⟨t1, rfl⟩ := Value.isInt_shape h1
      obtain ⟨t2, rfl⟩ := Value.isInt_shape h3
      exact ⟨b, o, t1, t2, n, rfl, ho, hc, hd⟩
/-- the pair that stands at a value -/
def kL (L : List (Addr × List Int)) (v : Value) : Pr := match v with
  | .ref b => pr2 ((L.lookup b).getD [])
  | _ => (0, 0)
theorem kL_of {h : Heap} (tps : ∀ p ∈ L, IsT P w h p.2 p.1) {q : Addr × List Int} (m : q ∈ L) : kL L (.ref q.1) = pr2 q.2 := by
  have key : ∀ L : List (Addr × List Int), (∀ p ∈ L, IsT P w h p.2 p.1) → q ∈ L → L.lookup q.1 = some q.2 := by
    intro L
    induction L with
    | nil => intro _ z; cases z
    | cons p L ih =>
      intro tps m
      obtain ⟨b, k⟩ := p
      by_cases e : q.1 = b
      · have t1 := tps _ m
        have t2 := tps (b, k) List.mem_cons_self
        rw [e] at t1
        have e2 : q.2 = k := t1.inj t2
        rw [List.lookup_cons, e, beq_self_eq_true, e2]
      · have m2 : q ∈ L := by
          rcases List.mem_cons.mp m with z | z
          · rw [z] at e
            exact absurd rfl e
          · exact z
        rw [List.lookup_cons, beq_eq_false_iff_ne.mpr e]
        exact ih (fun p hp => tps p (List.mem_cons_of_mem _ hp)) m2
  show pr2 ((L.lookup q.1).getD []) = _
  rw [key L tps m]
  rfl
/-- sorted(set) -/
theorem psorted (R : PsR P w s.heap a L es ep t) (hh : A.handled = none) (two : ∀ p ∈ L, ∃ x y, p.2 = [x, y]) (few : L.length ≤ 1000) {Q : Value → Shared → Prop}
    (h : ∀ s' p c (L' : List (Addr × List Int)), (∀ b o, s.heap.get? b = some o → s'.heap.get? b = some o) → s'.gens = s.gens → s'.os = s.os → s.heap.objs.size ≤ p → s'.heap.get? p = some (seqObj "list" (L'.map fun q => Value.ref q.1).toArray c) → L'.Perm L →
      L'.Pairwise (fun q r => ¬ lt2 (pr2 r.2) (pr2 q.2)) → Q (.ref p) s') : wpAny (model P w) A (call (.builtin "sorted") [.ref a]) Q E s := by
  obtain ⟨o, ho, hex, hd⟩ := R.obj
  have sz := R.sz
  refine Calls.call_function_entry kind_sorted plain_sorted entry_sorted (args_sorted1 _) ?_
  unfold Builtin.«sorted»; refine wpAny_bind (m := checkCount "sorted" 1 1 _) (wpAny_pure ?_)
  refine wpAny_bind (collect_set (A := A.in1) hh ⟨o, ho, hex.1, hd⟩ R.fts (by rw [sz]; unfold scanBound; omega) R.tb.ris R.ld fun s1 vs keep grow g1 o1 pm => ?_)
  have e1 : es.toList.map (·.2) = L.map fun q => Value.ref q.1 := by
    rw [R.rw_]
    show List.map _ (L.map _) = _
    rw [List.map_map]
    rfl
  rw [e1] at pm
  have lv : vs.length ≤ sizeLine := by
    rw [pm.length_eq, List.length_map, sizeLine_eq]
    omega
  refine wpAny_bind (wpAny_newList ?_ lv)
  have new : (s1.heap.push (seqObj "list" vs.toArray 0)).get? s1.heap.objs.size = some (seqObj "list" vs.toArray 0) := Heap.get?_push_size _ rfl
  have pairs : ∀ v ∈ vs, Srt.IsPair (s1.heap.push (seqObj "list" vs.toArray 0)) v (kL L v).1 (kL L v).2 := fun v hv => by
    obtain ⟨q, hq, rfl⟩ := List.mem_map.mp (pm.mem_iff.mp hv)
    rw [kL_of R.tps hq]
    obtain ⟨x, y, e2⟩ := two q hq
    have t1 := R.tps q hq
    rw [e2] at t1 ⊢
    exact Srt.IsPair.keeps (IsT.pair t1) fun b u e _ => Heap.get?_push_of_some _ (keep b u e)
  refine wpAny_bind (wpAny_holding (wpAny_call_entry slot_list_sort ⟨_, new, rfl⟩ entry_list_sort (SrtO.list_sort_ord (s := { s1 with heap := s1.heap.push (seqObj "list" vs.toArray 0) }) (SrtO.swo_lex (kL L)) new lv (fun h2 => SrtO.pairs_sortableO (by omega) pairs fun o e c => ?_) fun out so st => ⟨_, rfl, ?_⟩) (args_list_sort _)))
  · have e3 : some o = some (seqObj "list" vs.toArray 0) := e.symm.trans new
    cases e3
    exact absurd (Value.type.inj c) (by decide)
  · obtain ⟨L', p1, p2⟩ := perm_map (st.perm.trans pm) L rfl
    obtain ⟨c, hc⟩ := sortedHeap_at (vs := vs) (out := out.toArray) new
    refine wpAny_pure ⟨_, rfl, h _ s1.heap.objs.size c L' (fun b u e => ?_) g1 o1 grow ?_ p1 ?_⟩
    · have e4 := keep b u e
      have lt := Heap.lt_size e4
      show (sortedHeap (s1.heap.push (seqObj "list" vs.toArray 0)) s1.heap.objs.size vs out.toArray).get? b = some u
      rw [sortedHeap_old (Nat.ne_of_lt lt) (by rw [size_push']; exact Nat.lt_succ_of_lt lt)]
      exact Heap.get?_push_of_some _ e4
    · rw [← p2]
      exact hc
    · rw [p2] at so
      refine List.Pairwise.imp_of_mem (fun {q r} hq hr z => ?_) (List.pairwise_map.mp so)
      have z2 : SrtO.lexB (kL L (Value.ref r.1)) (kL L (Value.ref q.1)) = false := z
      rw [kL_of R.tps (p1.mem_iff.mp hq), kL_of R.tps (p1.mem_iff.mp hr)] at z2
      exact SrtO.lexB_no.mp z2
end
/-- the set at a without its tuples -/
structure Ps0 (P : Program) (w : World) (h : Heap) (a : Addr) (L : List (Addr × List Int)) : Prop where
  ex : ∃ (es : Array (Int × Value)) (ep : Nat) (t : SetTable), (∃ o, h.get? a = some o ∧ o.ExactSet ∧ o.data = .set es ep t) ∧ es.toList = rowsOf P w L ∧ TabOk t (L.map fun p => thash P w p.2) ∧ (L.map (·.2)).Nodup ∧ t.plain = true ∧ (w.params.followText "set-order" = true ∨ t.led = true) ∧ L.length * 5 < t.mask * 3
def PsO (P : Program) (w : World) (a : Addr) (L : List (Addr × List Int)) : HO := .ext fun h => Ps0 P w h a L
theorem PsR.p0 {P : Program} {w : World} {h : Heap} {a : Addr} {L : List (Addr × List Int)} {es : Array (Int × Value)} {ep : Nat} {t : SetTable} (R : PsR P w h a L es ep t) : Ps0 P w h a L := ⟨es, ep, t, R.obj, R.rw_, R.tb, R.nod, R.pln, R.ld, R.rm⟩
theorem Ps0.full {P : Program} {w : World} {h : Heap} {a : Addr} {L : List (Addr × List Int)} (R : Ps0 P w h a L) (tp : ∀ p ∈ L, IsT P w h p.2 p.1) : ∃ es ep t, PsR P w h a L es ep t := by
  obtain ⟨es, ep, t, h1, h2, h3, h4, h5, h6, h7⟩ := R.ex
  exact ⟨es, ep, t, ⟨h1, h2, h3, h4, tp, h5, h6, h7⟩⟩
theorem psO_new {P : Program} {w : World} {H : Hp} {h : Heap} {a : Addr} {L : List (Addr × List Int)} (R : Ps0 P w h a L) : ObjOk P w H h a (PsO P w a L) := by
  refine ⟨R, ?_, fun h1 h2 p k => ?_⟩
  · obtain ⟨_, _, _, ⟨o, ho, _⟩, _⟩ := R.ex
    exact ⟨o, ho⟩
  · obtain ⟨es, ep, t, ⟨o, ho, r⟩, q⟩ := Ps0.ex p
    exact ⟨es, ep, t, ⟨o, k o ho, r⟩, q⟩
section
variable {X : Cx}
theorem ps_get {pins : List (Addr × Obj)} {σ : L2.St} {H : Hp} {s : Shared} {a : Addr} {L : List (Addr × List Int)} (I : Inv X pins σ H s) (ha : H a = some (PsO X.prog X.w a L)) (tp : ∀ p ∈ L, SqT X.K H p.1 (p.2.map V.int)) : ∃ es ep t, PsR X.prog X.w s.heap a L es ep t :=
  Ps0.full (I.hok a _ ha).1 fun p hp => I.isT (tp p hp)
/-- set(), to be filled with pairs -/
def rPs0 (P : Program) (w : World) : List V → Hp → VK → Prop := fun xs H Q => xs = [] ∧ ∀ p, H p = none → Q (.ref p) (upd H p (PsO P w p []))
theorem cr_ps0 : CallR X (.type "set") (rPs0 X.prog X.w) := by
  intro pins s σ H xs us Q I r h
  obtain ⟨rfl, q⟩ := h
  cases r
  refine setR_new fun _ => ?_
  exact ⟨.ref _, upd H s.heap.objs.size (PsO X.prog X.w s.heap.objs.size []), I.laid (t' := s.toks) (fun b u e => Heap.get?_push_of_some _ e) (Nat.le_refl _) (psO_new (PsR.of (setTR_fresh (Heap.get?_push_size _ rfl))).p0), rfl, q _ (I.hok.fresh (Nat.le_refl _))⟩
/-- (a, b) in seen -/
def rPsIn (K : PySem.W.Frag) (P : Program) (w : World) : V → V → Hp → VK → Prop := fun x y H Q => ∃ b k a L, x = V.ref b ∧ y = V.ref a ∧ H a = some (PsO P w a L) ∧ (∀ p ∈ L, SqT K H p.1 (p.2.map V.int)) ∧ SqT K H b (k.map V.int) ∧ Q (.bl (decide (k ∈ L.map (·.2)))) H
theorem op_psIn (hu : X.A.units + 64 < cLine) : OpR X (compareOp .In) (rPsIn X.K X.prog X.w) := by
  intro pins s σ H x y v u Q I rx ry h
  obtain ⟨b, k, a, L, rfl, rfl, ha, tp, hb, q⟩ := h
  cases (show v = Value.ref b from rx)
  cases (show u = Value.ref a from ry)
  obtain ⟨es, ep, t, R⟩ := ps_get I ha tp
  exact pis_in R (I.isT hb) (by omega) ⟨.bl _, H, I.tok _, rfl, q⟩
/-- seen.add((a, b)) -/
def rPsAdd (K : PySem.W.Frag) (P : Program) (w : World) : V → List V → Hp → VK → Prop := fun x xs H Q => ∃ b k a L, x = V.ref a ∧ xs = [V.ref b] ∧ H a = some (PsO P w a L) ∧ (∀ p ∈ L, SqT K H p.1 (p.2.map V.int)) ∧ SqT K H b (k.map V.int) ∧ L.length + 1 ≤ 76 ∧
  ∀ L', (k ∈ L.map (·.2) → L' = L) → (k ∉ L.map (·.2) → L'.Perm ((b, k) :: L)) → Q .non (upd H a (PsO P w a L'))
theorem mt_psAdd (hu : X.A.units + 64 < cLine) : MtR X "set.add" (rPsAdd X.K X.prog X.w) := by
  intro pins s σ H x xs v us Q I rx rxs h
  obtain ⟨b, k, a, L, rfl, rfl, ha, tp, hb, bnd, q⟩ := h
  cases rx
  cases rxs with
  | cons ry rt =>
    cases rt
    cases (show _ = Value.ref b from ry)
    obtain ⟨es, ep, t, R⟩ := ps_get I ha tp
    have hx := I.isT hb
    refine wpAny_call_entry F.slot_set_add R.ty F.entry_set_add ?_ (F.args_set_add_2 _ _)
    simp only [Builtin.«set.add», Builtin.Frozenset.oneOther, Builtin.Frozenset.addrOf, setAdd, List.isEmpty_nil, bind_assoc]
    refine wpAny_bind (wpAny_pure ?_); try dsimp only
    refine wpAny_bind (wpAny_pure ?_); try dsimp only
    refine wpAny_bind (wpAny_holding (wpAny_bind (wpAny_pyHash_tuple (by show X.A.units + 1 < cLine; omega) hx ?_)))
    refine padd (s := { s with toks := s.toks + (k.length + 1) }) R hx (by show X.A.units + 1 < cLine; omega) bnd fun c h' L' es' ep' t' sb R' c1 c2 => ?_
    show wpAny _ _ (ret Value.none) _ _ _
    have he : ∃ u, h'.get? a = some u := by
      obtain ⟨o, ho, _⟩ := R'.obj
      exact ⟨o, ho⟩
    exact wpAny_pure ⟨_, rfl, .non, upd H a (PsO X.prog X.w a L'), I.write (e := a) (t' := s.toks + (k.length + 1)) (by rw [ha]; trivial) (.inl rfl) (fun b u hb hu => (sb.2 b hb).trans hu) he (psO_new R'.p0), rfl, q L' c1 c2⟩
/-- sorted(seen) -/
def rPsSort (K : PySem.W.Frag) (P : Program) (w : World) : List V → Hp → VK → Prop := fun vs H Q => ∃ a L, vs = [V.ref a] ∧ H a = some (PsO P w a L) ∧ (∀ p ∈ L, SqT K H p.1 (p.2.map V.int)) ∧ (∀ p ∈ L, ∃ x y, p.2 = [x, y]) ∧ L.length ≤ 1000 ∧
  ∀ (L' : List (Addr × List Int)) (p : Addr), L'.Perm L → (L'.map (·.2)).Nodup → L'.Pairwise (fun q r => ¬ lt2 (pr2 r.2) (pr2 q.2)) → H p = none → Q (.ref p) (upd H p (.lst (L'.map fun q => V.ref q.1)))
theorem cr_psSort (hc : X.calm = true) : CallR X (.builtin "sorted") (rPsSort X.K X.prog X.w) := by
  intro pins s σ H vs us Q I r h
  obtain ⟨a, L, rfl, ha, tp, two, few, q⟩ := h
  obtain ⟨es, ep, t, R⟩ := ps_get I ha tp
  rw [Vals.ref1 r]
  refine psorted R (I.ok.hd hc) two few fun s' p c L' keep g o hp hg pm pw => ?_
  have hn : H p = none := I.hok.fresh hp
  have ll : (L'.map fun q => V.ref q.1).length ≤ sizeLine := by
    rw [List.length_map, pm.length_eq, sizeLine_eq]
    omega
  have J : Inv X pins σ (upd H p (.lst (L'.map fun q => V.ref q.1))) { s with heap := s'.heap, gens := s'.gens, drawn := s'.drawn, toks := s'.toks } :=
    I.call (ch := []) (Un.laid keep hp hn) (I.hok.laid keep hp ⟨ll, _, c, vals_of_refs L', hg⟩) (by rw [g]; exact I.bare) (fun _ z => nomatch z)
  have e : s' = { s with heap := s'.heap, gens := s'.gens, drawn := s'.drawn, toks := s'.toks } := by
    cases s'
    cases s
    cases o
    rfl
  rw [e]
  exact ⟨.ref p, _, J, rfl, q L' p pm ((pm.map (·.2)).nodup_iff.mpr R.nod) pw hn⟩
/-- the call of the method -/
def tPsAdd (K : PySem.W.Frag) (P : Program) (w : World) (to : TE) (t : TA) : TE := fun σ H Q => to σ H fun x H1 => (∃ a L, x = V.ref a ∧ H1 a = some (PsO P w a L)) ∧ t σ H1 fun xs H2 => rPsAdd K P w x xs H2 Q
theorem ps_look {pins : List (Addr × Obj)} {σ : L2.St} {H : Hp} {s : Shared} {a : Addr} {L : List (Addr × List Int)} (I : Inv X pins σ H s) (ha : H a = some (PsO X.prog X.w a L)) : s.TypeIs (.ref a) "set" ∧ ∀ b, Value.ref a = .ref b → ∃ ob, s.heap.get? b = some ob ∧ ob.dict = none := by
  obtain ⟨_, _, _, ⟨o, ho, hx, _⟩, _⟩ := Ps0.ex (I.hok a _ ha).1
  refine ⟨⟨o, ho, hx.1⟩, fun b e => ?_⟩
  injection e with e
  subst e
  exact ⟨o, ho, hx.2.1⟩
theorem pe_psAdd {o e : Expr} {es : List Expr} {to : TE} {t : TA} {apos cpos : Pos} (hu : X.A.units + 64 < cLine) (ho : PE X o to) (ha : PA X (e :: es) t)
    (b1 : attributeBase o "add" X.env (eval o X.env) = eval o X.env := by rfl)
    (b2 : ((backTo cpos (starEach (e :: es) X.env)).all (fun x => !x.1) && (backToKw cpos (keywordEach [] X.env)).all (fun x => x.1.isSome) && decide ((e :: es).length + ([] : List Keyword).length + (if ([] : List Keyword).isEmpty then 0 else 1) < 30)) = true := by rfl)
    (b3 : (apos.endLine == cpos.line) = true := by rfl) (b4 : starEach (e :: es) X.env = (false, eval e X.env) :: starEach es X.env := by rfl) (b5 : (backTo cpos (starEach es X.env)).any (·.1) = false := by rfl) :
    PE X (.Call (.Attribute o "add" apos) (e :: es) [] cpos) (tPsAdd X.K X.prog X.w to t) := by
  refine ⟨fun pins s σ H Q I h => wpAny_Call_method_late b1 b2 b3 rfl (thn (ho.run pins s σ H _ I h) ?_)⟩
  rintro v s1 ⟨x, H1, I1, r1, ⟨a, L, rfl, hka⟩, q1⟩
  cases r1
  obtain ⟨k1, k2⟩ := ps_look I1 hka
  refine ⟨"set", "set.add", F.plainAttrs_set, F.slot_set_add, F.type_set_add, k1, k2, ?_⟩
  have run := ha.run cpos pins s1 σ H1 _ I1 q1
  rw [b4] at run ⊢
  refine Calls.callWith_builtin ?_ (Calls.evalArgs_plain (thn run ?_))
  · show (false || (backTo cpos (starEach es X.env)).any (·.1)) = false
    rw [b5]
    rfl
  · rintro us s2 ⟨vs, H2, I2, r2, q2⟩
    exact mt_psAdd hu pins s2 σ H2 (.ref a) vs (.ref a) us Q I2 rfl r2 q2
end

abbrev sHouse : Stmt := topS 7
abbrev sHinit : Stmt := inClass sHouse 2
abbrev sHcount : Stmt := inClass sHouse 3
abbrev sHdoors : Stmt := inClass sHouse 4
abbrev sHnear : Stmt := inClass sHouse 5
abbrev sHhas : Stmt := inClass sHouse 6
abbrev sRoom : Stmt := topS 8
abbrev sChk : Stmt := topS 9
/-- what the walk asks of the class House -/
structure Hs (K : PySem.W.Frag) (mg : Str → Option Value) (C : Addr) : Prop where
  cl : Cls K C
  nR : NoAttr K C "rooms"
  nD : NoAttr K C "_doors"
  nN : NoAttr K C "_near"
  mgC : mg "House" = some (.ref C)
  rd : ∃ mc u, ClX.CRead K C mc ∧ ClX.CVal K C mc "MOST_ROOMS" (.int 12) u
theorem for_enum {K : PySem.W.Frag} {a : Addr} {xs : List V} {g : TG} {tb : TS} {D : Ends} {σ : L2.St} {H : Hp} (Pv : Nat → L2.St → Hp → Prop) (h0 : Pv 0 σ H) (hl : ∀ i σ H, Pv i σ H → SqL K H a xs)
    (hs : ∀ (i : Nat) (x : V) (t : Addr) (σ : L2.St) (H : Hp), xs[i]? = some x → Pv i σ H → H t = none → g (.ref t) σ (upd H t (.tup [.int (i : Nat), x])) fun σ2 H2 => tb { D with nx := Pv (i + 1), ct := Pv (i + 1), bk := D.nx } σ2 H2) (hd : ∀ σ H, Pv xs.length σ H → D.nx σ H) :
    tFor (fun _ H R => R (Ite K a) H) g tb D σ H := by
  refine ⟨fun i m σ H => m = xs.length - i ∧ i ≤ xs.length ∧ Pv i σ H, ⟨xs.length, rfl, Nat.zero_le _, h0⟩, ?_⟩
  rintro i m σ H ⟨rfl, hi, p⟩
  have q := hl i σ H p
  by_cases lt : i < xs.length
  · refine .inr ⟨⟨xs, xs[i], q, List.getElem?_eq_getElem lt⟩, Pv (i + 1), fun σ' H' p' => ⟨xs.length - (i + 1), by omega, rfl, lt, p'⟩, ?_⟩
    rintro v H' ⟨t, x, rfl, nt, rfl, f⟩
    exact hs i x t σ H (f xs q) p nt
  · have e : i = xs.length := by omega
    subst e
    exact .inl ⟨⟨xs, q, Nat.le_refl _⟩, hd σ H p⟩
section
variable {P : Program} {w : World} {K : PySem.W.Frag} {mg : Str → Option Value} {base : Heap}
theorem scRoom : FnScope ["rooms"] ["rooms"] (defScope sRoom) := ⟨rfl, rfl, rfl, by decide +kernel, rfl, by decide +kernel, by decide +kernel⟩
def spRoom : Sp := fun vs H Q _ => ∃ r : Int, vs = [.int r] ∧ 1 ≤ r ∧ r ≤ 12 ∧ Q .non H
theorem ok_room {f C : Addr} {fd : FuncData} (F : Fun K "check_room_count" "check_room_count" sRoom f fd) (T : Hs K mg C) : FnOk P w K mg base CX0 1 f fd ["rooms"] spRoom := by
  refine F.ok scRoom (fun vs H Q E h => ?_) (fun cdv A outer s H vs Q E hr h => ?_)
  · obtain ⟨r, rfl, _⟩ := h
    rfl
  · obtain ⟨r, rfl, h1, h2, q⟩ := h
    refine ⟨_, (pss_one (ps_if (pt_not (pt_chain op_le op_le pe_int (pv 0) (ClX.pe_cval (pe_glob (v := .ref C) (by rfl) T.mgC rfl))))
      (pss_one (ps_never))
      pss_nil)), ?_⟩
    obtain ⟨mc, u, c1, c2⟩ := T.rd
    walk_at "rd"
    rw [if_pos h1]
    refine ⟨C, mc, .int 12, u, rfl, c1, c2, 12, rfl, ?_⟩
    rw [decide_eq_true h2]
    exact iteF q
theorem scChk : FnScope ["rooms", "doors", "seen", "place", "a", "b"] ["rooms", "doors"] (defScope sChk) := ⟨rfl, rfl, rfl, by decide +kernel, rfl, by decide +kernel, by decide +kernel⟩
def two (d : Pr) : List Int := [d.1, d.2]
theorem psO_ne {P : Program} {w : World} {a : Addr} {L : List (Addr × List Int)} {xs : List V} : PsO P w a L ≠ .tup xs := fun h => by
  unfold PsO at h
  cases h
theorem two_inj {d e : Pr} (h : two d = two e) : d = e := by
  unfold two at h
  obtain ⟨h1, h2⟩ := List.cons.inj h
  exact Prod.ext h1 (List.cons.inj h2).1
theorem not_taken {D : List Pr} (nd : D.Nodup) {i : Nat} {d : Pr} (g : D[i]? = some d) : d ∉ D.take i := fun z => by
  obtain ⟨j, gj⟩ := List.getElem?_of_mem z
  have lt : j < (D.take i).length := (List.getElem?_eq_some_iff.mp gj).1
  rw [List.length_take] at lt
  rw [List.getElem?_take_of_lt (by omega)] at gj
  have := nd_ix nd gj g
  omega
def spChk : Sp := fun vs H Q _ => ∃ (r : Nat) (l : Addr) (us : List V) (D : List Pr), vs = [.int r, .ref l] ∧ H l = some (.lst us) ∧ PL H us D ∧ D.Nodup ∧ (∀ d ∈ D, 0 ≤ d.1 ∧ d.1 < d.2 ∧ d.2 < r) ∧ r ≤ 12 ∧
  ∀ D' ws p H', Asc D' → (∀ d, d ∈ D' ↔ d ∈ D) → Same H H' → H p = none → H' p = some (.lst ws) → PL H' ws D' → Q (.ref p) H'
theorem ok_chk {f : Addr} {fd : FuncData} (F : Fun K "checked_doors" "checked_doors" sChk f fd) (T : Bi mg) : FnOk P w K mg base CX0 1 f fd ["rooms", "doors"] spChk := by
  refine F.ok scChk (fun vs H Q E h => ?_) (fun cdv A outer s H vs Q E hr h => ?_)
  · obtain ⟨r, l, us, D, rfl, _⟩ := h
    rfl
  · obtain ⟨r, l, us, D, rfl, hl, pl, nd, ok, hr12, q⟩ := h
    refine ⟨_, (pss_cons (ps_set (i := 2) scChk.nd rfl (Or.inl rfl) (pe_callTy0 cr_ps0 (by rfl) T.set (by decide +kernel)))
      (pss_cons (ps_for PassesOwn.never rfl (pi_enum (by rfl) T.enumerate (pa_cons (pv 1) pa_nil)) (pg_tup rfl (pgs_cons (pg_name (i := 3) scChk.nd rfl (Or.inl rfl)) (pgs_cons (pg_tup rfl (pgs_cons (pg_name (i := 4) scChk.nd rfl (Or.inl rfl)) (pgs_cons (pg_name (i := 5) scChk.nd rfl (Or.inl rfl)) pgs_nil))) pgs_nil)))
      (pss_cons (ps_if (PW.pt (pw_or (pt_not (PW.pt (pw_and (pt_chain op_le op_lt pe_int (pv 4) (pv 0)) (pw_and1 (pt_chain op_le op_lt pe_int (pv 5) (pv 0)))))) (pw_or (pt_cmpR op_eqI (pv 4) (pv 5) (nomark _)) (pw_or1 (pt_cmpR (op_psIn hr.units) (pe_tup (pa_cons (pv 4) (pa_cons (pv 5) pa_nil))) (pv 2) (by rfl))))))
        (pss_one (ps_never))
        pss_nil)
        (pss_one (ps_expr (pe_psAdd hr.units (pv 2) (pa_cons (pe_tup (pa_cons (pv 4) (pa_cons (pv 5) pa_nil))) pa_nil))))))
      (pss_one (ps_ret (pe_callB (cr_psSort rfl) (by rfl) T.sorted (by decide +kernel) (pa_cons (pv 2) pa_nil)))))), ?_⟩
    walk_at "rd"
    refine ⟨rfl, fun p np => ?_⟩
    obtain ⟨Pv, hPv⟩ : ∃ Pv : Nat → L2.St → Hp → Prop, Pv = (fun i σ H' => ∃ (L : List (Addr × List Int)) (v3 v4 v5 : Option V), σ = [some (.int r), some (.ref l), some (.ref p), v3, v4, v5] ∧ Same H H' ∧ H' p = some (PsO P w p L) ∧ (∀ q ∈ L, H' q.1 = some (.tup (q.2.map V.int))) ∧ List.Perm (L.map (·.2)) ((D.take i).map two)) := ⟨_, rfl⟩
    have hul : us.length = D.length := pl.len
    have dlen := drs_len' hr12 nd ok
    refine ⟨_, rfl, l, us, rfl, SqL.of (same_upd np l _ hl), for_enum (xs := us) Pv (by rw [hPv]; exact ⟨[], none, none, none, rfl, same_upd np, upd_same, fun q hq => (by cases hq), List.Perm.refl _⟩) (fun i σ H' pv => ?_) ?_ ?_⟩
    · rw [hPv] at pv
      obtain ⟨L, v3, v4, v5, _, sm, _⟩ := pv
      exact SqL.of (sm l _ hl)
    · rintro i v t σ H' gv pv nt
      have nxt : ∀ (L : List (Addr × List Int)) (v3 v4 v5 : Option V) (H' : Hp), Same H H' → H' p = some (PsO P w p L) → (∀ q ∈ L, H' q.1 = some (.tup (q.2.map V.int))) → List.Perm (L.map (·.2)) ((D.take (i + 1)).map two) → Pv (i + 1) [some (.int r), some (.ref l), some (.ref p), v3, v4, v5] H' := fun L v3 v4 v5 H' h1 h2 h3 h4 => by
        rw [hPv]
        exact ⟨L, v3, v4, v5, rfl, h1, h2, h3, h4⟩
      rw [hPv] at pv
      obtain ⟨L, v3, v4, v5, rfl, sm, hp, tp, pm⟩ := pv
      obtain ⟨d, gd, td, rfl, htd⟩ := pl.get gv
      have hid : i < D.length := (List.getElem?_eq_some_iff.mp gd).1
      have md : d ∈ D := List.mem_of_getElem? gd
      have okd := ok d md
      have hl1 := sm l _ hl
      have htd1 := sm td _ htd
      have ntd : td ≠ t := ne_of_none htd1 nt
      have htd2 : upd H' t (HO.tup [V.int i, V.ref td]) td = some (.tup [.int d.1, .int d.2]) := by rw [upd_ne ntd]; exact htd1
      walk_at "rd"
      refine ⟨[.int i, .ref td], SqT.of upd_same, rfl, .int i, [.ref td], rfl, .ref td, [], rfl, td, rfl, [.int d.1, .int d.2], SqT.of htd2, rfl, .int d.1, [.int d.2], rfl, .int d.2, [], rfl, rfl, rfl, d.1, rfl, ?_⟩
      rw [if_pos okd.1]
      refine ⟨d.1, rfl, ?_⟩
      rw [if_pos (show d.1 < (r : Int) by omega)]
      refine ⟨d.2, rfl, ?_⟩
      rw [if_pos (show 0 ≤ d.2 by omega)]
      refine ⟨d.2, rfl, ?_⟩
      rw [decide_eq_true okd.2.2]
      refine iteF ?_
      refine ⟨d.1, rfl, d.2, rfl, ?_⟩
      rw [if_neg (show ¬ d.1 = d.2 by omega)]
      refine ⟨by decide, fun t1 nt1 => ?_⟩
      have ne1 : t1 ≠ p := fun e => by
        rw [e, upd_ne (show p ≠ t from ne_of_none hp nt), hp] at nt1
        cases nt1
      have s1 : Same H' (upd (upd H' t (HO.tup [V.int i, V.ref td])) t1 (HO.tup [V.int d.1, V.int d.2])) := (same_upd nt).trans (same_upd nt1)
      have out : two d ∉ L.map (·.2) := fun z => by
        obtain ⟨e, he, ee⟩ := List.mem_map.mp (pm.mem_iff.mp z)
        rw [two_inj ee] at he
        exact not_taken nd gd he
      have lenL : L.length ≤ 66 := by
        have e := pm.length_eq
        rw [List.length_map, List.length_map, List.length_take] at e
        omega
      refine ⟨t1, two d, p, L, rfl, rfl, s1 p _ hp, fun q hq => SqT.of (s1 _ _ (tp q hq)), SqT.of upd_same, ?_⟩
      rw [decide_eq_false out]
      refine ⟨false, rfl, iteF ?_⟩
      generalize upd (upd H' t (HO.tup [V.int i, V.ref td])) t1 (HO.tup [V.int d.1, V.int d.2]) = H1 at s1
      have hp1 := s1 p _ hp
      refine ⟨_, rfl, ⟨p, L, rfl, hp1⟩, _, rfl, _, rfl, (by show 2 ≤ sizeLine; decide), fun t2 nt2 => ?_⟩
      have s2 : Same H1 (upd H1 t2 (HO.tup [V.int d.1, V.int d.2])) := same_upd nt2
      have hp2 := s2 p _ hp1
      refine ⟨t2, two d, p, L, rfl, rfl, hp2, fun q hq => SqT.of (s2 _ _ (s1 _ _ (tp q hq))), SqT.of upd_same, by omega, fun L' _ c2 => ?_⟩
      have pm2 := c2 out
      have keep : ∀ b xs, upd H1 t2 (HO.tup [V.int d.1, V.int d.2]) b = some (.tup xs) → upd (upd H1 t2 (HO.tup [V.int d.1, V.int d.2])) p (PsO P w p L') b = some (.tup xs) := fun b xs e => by
        rw [upd_ne]
        · exact e
        · rintro rfl
          rw [hp2] at e
          exact psO_ne (Option.some.inj e)
      refine nxt L' _ _ _ _ (same_ch ((sm.trans s1).trans s2) np) upd_same (fun q hq => ?_) ?_
      · refine keep _ _ ?_
        rcases List.mem_cons.mp (pm2.mem_iff.mp hq) with e | hq2
        · rw [e]
          exact upd_same
        · exact s2 _ _ (s1 _ _ (tp q hq2))
      · refine (pm2.map (·.2)).trans ?_
        rw [List.map_cons, List.take_add_one, gd, List.map_append]
        exact (List.Perm.cons _ pm).trans (List.perm_append_singleton _ _).symm
    · intro σ H' pv
      rw [hPv] at pv
      obtain ⟨L, v3, v4, v5, rfl, sm, hp, tp, pm⟩ := pv
      rw [hul, List.take_length] at pm
      have shape : ∀ q ∈ L, ∃ d ∈ D, q.2 = two d := fun q hq => by
        obtain ⟨d, hd, e⟩ := List.mem_map.mp (pm.mem_iff.mp (List.mem_map.mpr ⟨q, hq, rfl⟩))
        exact ⟨d, hd, e.symm⟩
      have lenL : L.length = D.length := by
        have e := pm.length_eq
        rw [List.length_map, List.length_map] at e
        exact e
      walk_at "rd"
      refine ⟨p, L, rfl, hp, fun q hq => SqT.of (tp q hq), fun q hq => ?_, by omega, fun L' t p1 n1 w1 nt => ?_⟩
      · obtain ⟨d, _, e⟩ := shape q hq
        exact ⟨d.1, d.2, e⟩
      · have hl' : ∀ q ∈ L', pr2 q.2 ∈ D ∧ H' q.1 = some (.tup [.int (pr2 q.2).1, .int (pr2 q.2).2]) := fun q hq => by
          have hq2 := p1.mem_iff.mp hq
          obtain ⟨d, hd, e⟩ := shape q hq2
          have e2 := tp q hq2
          rw [e] at e2 ⊢
          exact ⟨hd, e2⟩
        have back : ∀ q ∈ L', two (pr2 q.2) = q.2 := fun q hq => by
          obtain ⟨d, hd, e⟩ := shape q (p1.mem_iff.mp hq)
          rw [e]
          rfl
        refine q (L'.map fun q => pr2 q.2) (L'.map fun q => V.ref q.1) t _ (asc_of ?_ ?_) (fun d => ?_) (sm.trans (same_upd nt)) (sm.free nt) upd_same ?_
        · refine List.pairwise_map.mpr (List.Pairwise.imp_of_mem (fun {x y} hx hy hne e => hne ?_) (List.pairwise_map.mp n1))
          rw [← back x hx, ← back y hy, e]
        · exact List.pairwise_map.mpr w1
        · constructor
          · intro hd
            obtain ⟨q, hq, rfl⟩ := List.mem_map.mp hd
            exact (hl' q hq).1
          · intro hd
            have m1 : two d ∈ L.map (·.2) := pm.mem_iff.mpr (List.mem_map.mpr ⟨d, hd, rfl⟩)
            obtain ⟨q, hq, e⟩ := List.mem_map.mp m1
            refine List.mem_map.mpr ⟨q, p1.mem_iff.mpr hq, ?_⟩
            rw [e]
            rfl
        · have all : ∀ M : List (Addr × List Int), (∀ q ∈ M, H' q.1 = some (.tup [.int (pr2 q.2).1, .int (pr2 q.2).2])) → PL H' (M.map fun q => V.ref q.1) (M.map fun q => pr2 q.2) := by
            intro M
            induction M with
            | nil => intro _; exact Paired.nil
            | cons q M ih => intro h; exact Paired.cons ⟨q.1, rfl, h q List.mem_cons_self⟩ (ih fun z hz => h z (List.mem_cons_of_mem _ hz))
          exact (all L' fun q hq => (hl' q hq).2).kt (KT.new nt)
end

/-! ### the house as an object -/
def hf (r : Int) (l m : Addr) : List (Str × V) := putF "_near" (.ref m) (putF "_doors" (.ref l) (putF "rooms" (.int r) []))
theorem hn1 : ¬ (("rooms" : Str) = "_doors") := by decide +kernel
theorem hn2 : ¬ (("rooms" : Str) = "_near") := by decide +kernel
theorem hn3 : ¬ (("_doors" : Str) = "_near") := by decide +kernel
theorem hf_rooms (r : Int) (l m : Addr) : (hf r l m).lookup ("rooms" : Str) = some (.int r) := by
  unfold hf
  rw [lookup_putF, if_neg hn2, lookup_putF, if_neg hn1, lookup_putF, if_pos rfl]
theorem hf_doors (r : Int) (l m : Addr) : (hf r l m).lookup ("_doors" : Str) = some (.ref l) := by
  unfold hf
  rw [lookup_putF, if_neg hn3, lookup_putF, if_pos rfl]
theorem hf_near (r : Int) (l m : Addr) : (hf r l m).lookup ("_near" : Str) = some (.ref m) := by
  unfold hf
  rw [lookup_putF, if_pos rfl]
theorem hf_no (r : Int) (l m : Addr) {x : Str} (h1 : ¬ x = "_near") (h2 : ¬ x = "_doors") (h3 : ¬ x = "rooms") : (hf r l m).lookup x = none := by
  unfold hf
  rw [lookup_putF, if_neg h1, lookup_putF, if_neg h2, lookup_putF, if_neg h3]
  rfl
/-- the neighbours of room i by the doors D, in the order in which they are met -/
def nearF (i : Int) (D : List Pr) : List Int := D.filterMap fun d => if d.1 = i then some d.2 else if d.2 = i then some d.1 else none
/-- a house with these rooms and doors stands at p -/
structure HouseAt (C : Addr) (H : Hp) (p : Addr) (r : Nat) (D : List Pr) (own : List Addr) : Prop where
  ex : ∃ (dx l m : Addr) (ls : List V) (ns : List Addr), H p = some (.ins C dx (hf r l m)) ∧ H l = some (.lst ls) ∧ PL H ls D ∧ H m = some (.lst (ns.map V.ref)) ∧ ns.length = r ∧ (∀ i n, ns[i]? = some n → H n = some (.lst ((nearF (i : Nat) D).map V.int))) ∧ own = p :: l :: m :: ns
  ok : Drs r D
  r1 : 1 ≤ r
  r12 : r ≤ 12
theorem nearF_snoc (j : Int) (D : List Pr) (d : Pr) : nearF j (D ++ [d]) = nearF j D ++ (if d.1 = j then [d.2] else if d.2 = j then [d.1] else []) := by
  unfold nearF
  rw [List.filterMap_append]
  congr 1
  show List.filterMap _ [d] = _
  rw [List.filterMap_cons]
  by_cases h1 : d.1 = j
  · simp [h1]
  · by_cases h2 : d.2 = j
    · simp [h1, h2]
    · simp [h1, h2]
def mm2 (d : Pr) : Pr := (if d.2 < d.1 then d.2 else d.1, if d.2 > d.1 then d.2 else d.1)
section
variable {P : Program} {w : World} {K : PySem.W.Frag} {mg : Str → Option Value} {base : Heap}
theorem scHinit : FnScope ["self", "rooms", "doors", "a", "b", "_"] ["self", "rooms", "doors"] (defScope sHinit) := ⟨rfl, rfl, rfl, by decide +kernel, rfl, by decide +kernel, by decide +kernel⟩
def spHinit (C : Addr) : Sp := fun vs H Q _ => ∃ (p dx l : Addr) (r : Nat) (us : List V) (D E : List Pr), vs = [.ref p, .int r, .ref l] ∧ H p = some (.ins C dx []) ∧ H l = some (.lst us) ∧ PL H us D ∧ D.map mm2 = E ∧ E.Nodup ∧ (∀ d ∈ E, 0 ≤ d.1 ∧ d.1 < d.2 ∧ d.2 < r) ∧ 1 ≤ r ∧ r ≤ 12 ∧
  ∀ D' own H', (∀ d, d ∈ D' ↔ d ∈ E) → HouseAt C H' p r D' own → (∀ b o, H b = some o → b ≠ p → H' b = some o) → (∀ b ∈ own, b ≠ p → H b = none) → Q .non H'
theorem ok_hinit {f C fR fC : Addr} {fd fdR fdC : FuncData} (F : Fun K "__init__" "House.__init__" sHinit f fd) (T : Bi mg) (U : Hs K mg C) (d_check_room_count : Df P w K mg base "check_room_count" ["rooms"] 1 spRoom fR fdR)
    (d_checked_doors : Df P w K mg base "checked_doors" ["rooms", "doors"] 1 spChk fC fdC) : FnOk P w K mg base CX0 2 f fd ["self", "rooms", "doors"] (spHinit C) := by
  refine F.ok scHinit (fun vs H Q E h => ?_) (fun cdv A outer s H vs Q E hr h => ?_)
  · obtain ⟨p, dx, l, r, us, D, E, rfl, _⟩ := h
    rfl
  · obtain ⟨p, dx, l, r, us, D, E, rfl, hp, hl, pl, eE, nd, ok, hr1, hr12, q⟩ := h
    refine ⟨_, (pss_cons (ps_expr (pe_call d_check_room_count.ok (hr.mono (by decide)) (by rfl) d_check_room_count.at_ d_check_room_count.kp d_check_room_count.b .nil pass0 (pa_cons (pv 1) pa_nil)))
      (pss_cons (ps_fld (pv 0) (pv 1) rfl)
      (pss_cons (ps_fld (pv 0) (pe_call d_checked_doors.ok (hr.mono (by decide)) (by rfl) d_checked_doors.at_ d_checked_doors.kp d_checked_doors.b .nil pass0 (pa_cons (pv 1) (pa_cons (pe_lc (own := [("a", 3), ("b", 4)]) (g := gTup K 2 (gCons (gName 3) (gCons (gName 4) gNil))) (by rfl) scHinit.nd (pi_list (pv 2)) (blkOk_by (N := ["self", "rooms", "doors", "a", "b", "_"]) (sc := defScope sHinit) (by decide +kernel)) (fun _ _ _ _ _ => pg_tup rfl (pgs_cons (pg_name (i := 3) scHinit.nd rfl (Or.inl rfl)) (pgs_cons (pg_name (i := 4) scHinit.nd rfl (Or.inl rfl)) pgs_nil))) (fun _ _ _ _ _ => pts_nil) (fun _ _ _ _ _ => (pe_tup (pa_cons (pe_callB (call_min2 rfl) (by rfl) T.min (by decide +kernel) (pa_cons (pv 3) (pa_cons (pv 4) pa_nil))) (pa_cons (pe_callB (call_max2 rfl) (by rfl) T.max (by decide +kernel) (pa_cons (pv 3) (pa_cons (pv 4) pa_nil))) pa_nil))))) pa_nil))) rfl)
      (pss_cons (ps_fld (pv 0) (pe_lc (own := [("_", 5)]) (by rfl) scHinit.nd (pi_range1 (by rfl) T.range (pa_cons (pv 1) pa_nil)) (blkOk_by (N := ["self", "rooms", "doors", "a", "b", "_"]) (sc := defScope sHinit) (by decide +kernel)) (fun _ _ _ _ _ => pg_name (i := 5) scHinit.nd rfl (Or.inl rfl)) (fun _ _ _ _ _ => pts_nil) (fun _ _ _ _ _ => (pe_lst pa_nil))) rfl)
      (pss_one (ps_for PassesOwn.never rfl (pi_list (pe_fld (pv 0) rfl)) (pg_tup rfl (pgs_cons (pg_name (i := 3) scHinit.nd rfl (Or.inl rfl)) (pgs_cons (pg_name (i := 4) scHinit.nd rfl (Or.inl rfl)) pgs_nil)))
      (pss_cons (ps_expr (pe_bm PySem.F.plainAttrs_list PySem.F.slot_list_append PySem.F.type_list_append mt_append (pe_ix ix_list (pe_fld (pv 0) rfl) (pv 3) (fun _ _ => rfl)) (pa_cons (pv 4) pa_nil)))
        (pss_one (ps_expr (pe_bm PySem.F.plainAttrs_list PySem.F.slot_list_append PySem.F.type_list_append mt_append (pe_ix ix_list (pe_fld (pv 0) rfl) (pv 4) (fun _ _ => rfl)) (pa_cons (pv 3) pa_nil))))))))))), ?_⟩
    walk_at "rd"
    refine ⟨r, rfl, by omega, by omega, ?_⟩
    have npl : l ≠ p := ne_of hl hp (by intro z; cases z)
    refine ⟨C, dx, [], hp, U.cl, U.nR, (by show 0 < 1000; decide), ?_⟩
    have hl1 : upd H p (HO.ins C dx (putF "rooms" (V.int r) [])) l = some (.lst us) := by rw [upd_ne npl]; exact hl
    have pl1 : PL (upd H p (HO.ins C dx (putF "rooms" (V.int r) []))) us D := pl.kt (KT.ch hp (fun _ z => by cases z))
    have hp1 : upd H p (HO.ins C dx (putF "rooms" (V.int r) [])) p = some (HO.ins C dx (putF "rooms" (V.int r) [])) := upd_same
    have old1 : ∀ b o, H b = some o → b ≠ p → upd H p (HO.ins C dx (putF "rooms" (V.int r) [])) b = some o := fun b o e h => by rw [upd_ne h]; exact e
    have free1 : ∀ b, upd H p (HO.ins C dx (putF "rooms" (V.int r) [])) b = none → H b = none ∧ b ≠ p := fun b e => by
      have h : b ≠ p := fun z => by
        rw [z, upd_same] at e
        cases e
      rw [upd_ne h] at e
      exact ⟨e, h⟩
    generalize upd H p (HO.ins C dx (putF "rooms" (V.int r) [])) = H1 at hl1 pl1 hp1 old1 free1
    have dlen : D.length ≤ 66 := by
      have e := drs_len' hr12 nd ok
      rw [← eE, List.length_map] at e
      exact e
    have ul : us.length = D.length := pl.len
    -- [(min(a, b), max(a, b)) for a, b in doors]
    refine ⟨_, rfl, l, rfl, ⟨_, SqL.of hl1⟩, fun c nc => ?_⟩
    obtain ⟨Pv, hPv⟩ : ∃ Pv : Nat → Hp → Prop, Pv = (fun i H' => ∃ ws, Same H1 H' ∧ H' c = some (.lst ws) ∧ PL H' ws ((D.take i).map mm2)) := ⟨_, rfl⟩
    refine lc_list (K := K) (a := l) (xs := us) Pv (by rw [hPv]; exact ⟨[], same_upd nc, upd_same, PL.nil0 _⟩) (fun i H' _ pv => by rw [hPv] at pv; obtain ⟨_, sm, _⟩ := pv; exact SqL.of (sm _ _ hl1)) (fun i v H' gv pv => ?_) (fun H' pv => ?_)
    · have nxt : ∀ ws H', Same H1 H' → H' c = some (.lst ws) → PL H' ws ((D.take (i + 1)).map mm2) → Pv (i + 1) H' := fun ws H' h1 h2 h3 => by
        rw [hPv]
        exact ⟨ws, h1, h2, h3⟩
      rw [hPv] at pv
      obtain ⟨ws, sm, hc, pw⟩ := pv
      obtain ⟨d, gd, td, rfl, htd⟩ := pl1.get gv
      have hid : i < D.length := (List.getElem?_eq_some_iff.mp gd).1
      have htd1 := sm _ _ htd
      have lw : ws.length ≤ 66 := by
        rw [pw.len, List.length_map, List.length_take]
        omega
      simp only [wipe]
      walk_at "rd"
      refine ⟨_, SqT.of htd1, rfl, _, _, rfl, _, _, rfl, rfl, ?_⟩
      walk_at "rd"
      refine ⟨(by show 2 ≤ sizeLine; decide), fun t nt => ?_⟩
      have nct : c ≠ t := ne_of_none hc nt
      refine ⟨ws, by rw [upd_ne nct]; exact hc, len_big (by omega), nxt (ws ++ [.ref t]) _ (same_ch (sm.trans (same_upd nt)) nc) upd_same ?_⟩
      rw [List.take_add_one, gd, List.map_append]
      refine PL.snoc ((pw.kt (KT.new nt)).kt (KT.lst (by rw [upd_ne nct]; exact hc))) ⟨t, rfl, ?_⟩
      rw [upd_ne nct.symm, upd_same]
      rfl
    · rw [hPv] at pv
      obtain ⟨ws, s2, hc, pw⟩ := pv
      rw [ul, List.take_length, eE] at pw
      -- checked_doors
      refine ⟨r, c, ws, E, rfl, hc, pw, nd, ok, hr12, fun D' ls q0 H2 asc mem s3 nq hq pq => ?_⟩
      have s13 : Same H1 H2 := s2.trans s3
      have hp2 := s13 _ _ hp1
      have nqp : q0 ≠ p := ne_of hq hp2 (by intro z; cases z)
      refine ⟨C, dx, _, hp2, U.cl, U.nD, (by show 1 < 1000; decide), ?_⟩
      have hq3 : upd H2 p (HO.ins C dx (putF "_doors" (V.ref q0) (putF "rooms" (V.int r) []))) q0 = some (.lst ls) := by rw [upd_ne nqp]; exact hq
      have hp3 : upd H2 p (HO.ins C dx (putF "_doors" (V.ref q0) (putF "rooms" (V.int r) []))) p = some (HO.ins C dx (putF "_doors" (V.ref q0) (putF "rooms" (V.int r) []))) := upd_same
      have pq3 : PL (upd H2 p (HO.ins C dx (putF "_doors" (V.ref q0) (putF "rooms" (V.int r) [])))) ls D' := pq.kt (KT.ch hp2 (fun _ z => by cases z))
      have old3 : ∀ b o, H b = some o → b ≠ p → upd H2 p (HO.ins C dx (putF "_doors" (V.ref q0) (putF "rooms" (V.int r) []))) b = some o := fun b o e h => by
        rw [upd_ne h]
        exact s13 _ _ (old1 b o e h)
      have free3 : ∀ b, upd H2 p (HO.ins C dx (putF "_doors" (V.ref q0) (putF "rooms" (V.int r) []))) b = none → H b = none ∧ b ≠ p := fun b e => by
        have h : b ≠ p := fun z => by
          rw [z, upd_same] at e
          cases e
        rw [upd_ne h] at e
        exact free1 b (s13.free e)
      have fq : H q0 = none := (free1 q0 (s2.free nq)).1
      generalize upd H2 p (HO.ins C dx (putF "_doors" (V.ref q0) (putF "rooms" (V.int r) []))) = H3 at hq3 hp3 pq3 old3 free3
      -- [[] for _ in range(rooms)]
      refine ⟨_, rfl, r, rfl, by omega, by omega, fun m nm => ?_⟩
      obtain ⟨Pv, hPv⟩ : ∃ Pv : Nat → Hp → Prop, Pv = (fun i H' => ∃ ns : List Addr, Same H3 H' ∧ H' m = some (.lst (ns.map V.ref)) ∧ ns.length = i ∧ ns.Nodup ∧ (∀ n ∈ ns, H' n = some (.lst []) ∧ H3 n = none ∧ n ≠ m)) := ⟨_, rfl⟩
      refine lc_range (lo := 0) (n := ((r : Nat) : Int).toNat) Pv (by rw [hPv]; exact ⟨[], same_upd nm, upd_same, rfl, List.nodup_nil, fun n hn => by cases hn⟩) (fun i H' hi pv => ?_) (fun H' pv => ?_)
      · have nxt : ∀ (ns : List Addr) H', Same H3 H' → H' m = some (.lst (ns.map V.ref)) → ns.length = i + 1 → ns.Nodup → (∀ n ∈ ns, H' n = some (.lst []) ∧ H3 n = none ∧ n ≠ m) → Pv (i + 1) H' := fun ns H' h1 h2 h3 h4 h5 => by
          rw [hPv]
          exact ⟨ns, h1, h2, h3, h4, h5⟩
        rw [hPv] at pv
        obtain ⟨ns, sm, hm, ln, nn, hn⟩ := pv
        simp only [wipe]
        walk_at "rd"
        refine ⟨by decide, fun e ne => ?_⟩
        have nem : m ≠ e := ne_of_none hm ne
        refine ⟨ns.map V.ref, by rw [upd_ne nem]; exact hm, len_big (by rw [List.length_map]; omega), nxt (ns ++ [e]) _ (same_ch (sm.trans (same_upd ne)) nm) (by rw [upd_same, List.map_append]; rfl) (by rw [List.length_append, ln]; rfl) ?_ fun n hn2 => ?_⟩
        · refine List.nodup_append.mpr ⟨nn, by simp, fun a ha b hb => ?_⟩
          rw [List.mem_singleton.mp hb]
          exact ne_of_none (hn a ha).1 ne
        · rcases List.mem_append.mp hn2 with h | h
          · obtain ⟨h1, h2, h3⟩ := hn n h
            refine ⟨?_, h2, h3⟩
            rw [upd_ne h3, upd_ne (ne_of_none h1 ne)]
            exact h1
          · rw [List.mem_singleton.mp h]
            refine ⟨?_, sm.free ne, nem.symm⟩
            rw [upd_ne nem.symm, upd_same]
      · rw [hPv] at pv
        obtain ⟨ns, s4, hm, ln, nn, hn⟩ := pv
        have hp4 := s4 _ _ hp3
        have nmp : m ≠ p := (ne_of_none hp3 nm).symm
        refine ⟨C, dx, _, hp4, U.cl, U.nN, (by show 2 < 1000; decide), ?_⟩
        have ehf : putF "_near" (V.ref m) (putF "_doors" (V.ref q0) (putF "rooms" (V.int r) [])) = hf r q0 m := rfl
        rw [ehf]
        have npn : ∀ n ∈ ns, n ≠ p := fun n h => (ne_of_none hp3 (hn n h).2.1).symm
        have nqn : ∀ n ∈ ns, n ≠ q0 := fun n h => (ne_of_none hq3 (hn n h).2.1).symm
        have hp5 : upd H' p (HO.ins C dx (hf r q0 m)) p = some (HO.ins C dx (hf r q0 m)) := upd_same
        have hq5 : upd H' p (HO.ins C dx (hf r q0 m)) q0 = some (.lst ls) := by rw [upd_ne nqp]; exact s4 _ _ hq3
        have hm5 : upd H' p (HO.ins C dx (hf r q0 m)) m = some (.lst (ns.map V.ref)) := by rw [upd_ne nmp]; exact hm
        have hn5 : ∀ n ∈ ns, upd H' p (HO.ins C dx (hf r q0 m)) n = some (.lst []) := fun n h => by rw [upd_ne (npn n h)]; exact (hn n h).1
        have pq5 : PL (upd H' p (HO.ins C dx (hf r q0 m))) ls D' := (pq3.kt (KT.same s4)).kt (KT.ch hp4 (fun _ z => by cases z))
        have old5 : ∀ b o, H b = some o → b ≠ p → upd H' p (HO.ins C dx (hf r q0 m)) b = some o := fun b o e h => by
          rw [upd_ne h]
          exact s4 _ _ (old3 b o e h)
        have fm : H m = none := (free3 m nm).1
        have fn : ∀ n ∈ ns, H n = none := fun n h => (free3 n (hn n h).2.1).1
        have nmn : ∀ n ∈ ns, n ≠ m := fun n h => (hn n h).2.2
        generalize upd H' p (HO.ins C dx (hf r q0 m)) = H5 at hp5 hq5 hm5 hn5 pq5 old5
        have drs : Drs r D' := ⟨asc, fun d hd => ok d ((mem d).mp hd)⟩
        have dl : D'.length ≤ 66 := drs.len hr12
        have ll : ls.length = D'.length := pq.len
        -- the rooms' neighbours
        obtain ⟨Pw, hPw⟩ : ∃ Pw : Nat → L2.St → Hp → Prop, Pw = (fun i σ H' => ∃ v3 v4 : Option V, σ = [some (.ref p), some (.int r), some (.ref l), v3, v4, none] ∧ (∀ b o, H5 b = some o → b ∉ ns → H' b = some o) ∧ (∀ (j : Nat) n, ns[j]? = some n → H' n = some (.lst ((nearF (j : Nat) (D'.take i)).map V.int)))) := ⟨_, rfl⟩
        refine ⟨_, rfl, p, C, dx, _, .ref q0, rfl, hp5, U.cl, U.nD, hf_doors _ _ _, q0, rfl, ⟨_, SqL.of hq5⟩, for_list (K := K) (a := q0) (xs := ls) Pw (by rw [hPw]; exact ⟨none, none, rfl, fun b o e _ => e, fun j n g => hn5 n (List.mem_of_getElem? g)⟩) (fun i σ H' _ pv => ?_) (fun i v σ H' gv pv => ?_) (fun σ H' pv => ?_)⟩
        · rw [hPw] at pv
          obtain ⟨_, _, _, k1, _⟩ := pv
          exact SqL.of (k1 _ _ hq5 fun z => nqn _ z rfl)
        · have nxt : ∀ v3 v4 H', (∀ b o, H5 b = some o → b ∉ ns → H' b = some o) → (∀ (j : Nat) n, ns[j]? = some n → H' n = some (.lst ((nearF (j : Nat) (D'.take (i + 1))).map V.int))) → Pw (i + 1) [some (.ref p), some (.int r), some (.ref l), v3, v4, none] H' := fun v3 v4 H' h1 h2 => by
            rw [hPw]
            exact ⟨v3, v4, rfl, h1, h2⟩
          rw [hPw] at pv
          obtain ⟨v3, v4, rfl, k1, k2⟩ := pv
          obtain ⟨d, gd, td, rfl, htd⟩ := pq5.get gv
          have okd := drs.ok d (List.mem_of_getElem? gd)
          have htd1 : H' td = some (.tup [.int d.1, .int d.2]) := k1 _ _ htd fun z => by
            have e := hn5 td z
            rw [htd] at e
            cases e
          obtain ⟨ja, eja⟩ : ∃ ja : Nat, d.1 = ja := ⟨d.1.toNat, by omega⟩
          obtain ⟨jb, ejb⟩ : ∃ jb : Nat, d.2 = jb := ⟨d.2.toNat, by omega⟩
          obtain ⟨na, gna⟩ : ∃ n, ns[ja]? = some n := ⟨_, List.getElem?_eq_getElem (by omega)⟩
          obtain ⟨nb, gnb⟩ : ∃ n, ns[jb]? = some n := ⟨_, List.getElem?_eq_getElem (by omega)⟩
          have nab : na ≠ nb := fun z => by
            rw [← z] at gnb
            have := nd_ix nn gna gnb
            omega
          have mna := List.mem_of_getElem? gna
          have mnb := List.mem_of_getElem? gnb
          have hp6 := k1 _ _ hp5 fun z => npn _ z rfl
          have hm6 := k1 _ _ hm5 fun z => nmn _ z rfl
          have short : ∀ j : Int, (nearF j (D'.take i)).length ≤ 66 := fun j => by
            have := List.length_filterMap_le (fun d : Pr => if d.1 = j then some d.2 else if d.2 = j then some d.1 else none) (D'.take i)
            rw [List.length_take] at this
            show (List.filterMap _ _).length ≤ 66
            omega
          have ga := k2 ja na gna
          have gb := k2 jb nb gnb
          walk_at "rd"
          refine ⟨_, SqT.of htd1, rfl, _, _, rfl, _, _, rfl, rfl, ?_⟩
          walk_at "rd"
          have npa : p ≠ na := fun z => npn na mna z.symm
          have nma : m ≠ na := fun z => nmn na mna z.symm
          have big : ∀ j : Int, ((nearF j (D'.take i)).map V.int).length < sizeLine := fun j => len_big (by rw [List.length_map]; have := short j; omega)
          refine ⟨C, dx, _, hp6, U.cl, U.nN, .ref m, hf_near _ _ _, m, rfl, _, SqL.of hm6, .ref na, at_of (j := ja) eja (by rw [List.getElem?_map, gna]; rfl), .inl ⟨rfl, _, SqL.of ga⟩, na, rfl, _, ga, big _, ?_⟩
          refine ⟨C, dx, _, by rw [upd_ne npa]; exact hp6, U.cl, U.nN, .ref m, hf_near _ _ _, m, rfl, _, SqL.of (by rw [upd_ne nma]; exact hm6), .ref nb, at_of (j := jb) ejb (by rw [List.getElem?_map, gnb]; rfl), ?_⟩
          have gb2 : upd H' na (HO.lst ((nearF (ja : Nat) (D'.take i)).map V.int ++ [V.int d.2])) nb = some (.lst ((nearF (jb : Nat) (D'.take i)).map V.int)) := by rw [upd_ne nab.symm]; exact gb
          refine ⟨.inl ⟨rfl, _, SqL.of gb2⟩, nb, rfl, _, gb2, big _, ?_⟩
          refine nxt _ _ _ (fun b o e h => ?_) (fun j n gn => ?_)
          · rw [upd_ne (show b ≠ nb from fun z => h (by rw [z]; exact mnb)), upd_ne (show b ≠ na from fun z => h (by rw [z]; exact mna))]
            exact k1 b o e h
          · rw [List.take_add_one, gd]
            show _ = some (HO.lst ((nearF (j : Nat) (D'.take i ++ [d])).map V.int))
            rw [nearF_snoc]
            by_cases e1 : n = nb
            · subst e1
              have ej := nd_ix nn gn gnb
              subst ej
              rw [upd_same, if_neg (by omega), if_pos ejb, List.map_append, eja]
              rfl
            · rw [upd_ne e1]
              by_cases e2 : n = na
              · subst e2
                have ej := nd_ix nn gn gna
                subst ej
                rw [upd_same, if_pos eja, List.map_append]
                rfl
              · have j1 : ¬ d.1 = (j : Int) := fun z => e2 (by
                  have ej : j = ja := by omega
                  rw [ej, gna] at gn
                  exact (Option.some.inj gn).symm)
                have j2 : ¬ d.2 = (j : Int) := fun z => e1 (by
                  have ej : j = jb := by omega
                  rw [ej, gnb] at gn
                  exact (Option.some.inj gn).symm)
                rw [upd_ne e2, if_neg j1, if_neg j2, List.append_nil]
                exact k2 j n gn
        · rw [hPw] at pv
          obtain ⟨v3, v4, rfl, k1, k2⟩ := pv
          rw [ll, List.take_length] at k2
          refine q D' (p :: q0 :: m :: ns) H' mem ⟨⟨dx, q0, m, ls, ns, k1 _ _ hp5 fun z => npn _ z rfl, k1 _ _ hq5 fun z => nqn _ z rfl, ?_, k1 _ _ hm5 fun z => nmn _ z rfl, by omega, k2, rfl⟩, drs, hr1, hr12⟩ (fun b o e h => ?_) fun b hb h => ?_
          · refine Paired.mapP pq5 fun v d ⟨t, e, ht⟩ => ⟨t, e, k1 _ _ ht fun z => ?_⟩
            have e2 := hn5 t z
            rw [ht] at e2
            cases e2
          · refine k1 _ _ (old5 b o e h) fun z => ?_
            rw [fn b z] at e
            cases e
          · rcases List.mem_cons.mp hb with z | hb
            · exact absurd z h
            · rcases List.mem_cons.mp hb with z | hb
              · rw [z]; exact fq
              · rcases List.mem_cons.mp hb with z | hb
                · rw [z]; exact fm
                · exact fn b hb
end

theorem HouseAt.keep {C : Addr} {H H' : Hp} {p : Addr} {r : Nat} {D : List Pr} {own : List Addr} (h : HouseAt C H p r D own) (k : ∀ b o, b ∈ own → H b = some o → H' b = some o) (kt : KT H H') : HouseAt C H' p r D own := by
  obtain ⟨dx, l, m, ls, ns, h1, h2, h3, h4, h5, h6, rfl⟩ := h.ex
  refine ⟨⟨dx, l, m, ls, ns, k _ _ List.mem_cons_self h1, k _ _ (by simp) h2, h3.kt kt, k _ _ (by simp) h4, h5, fun i n g => k _ _ (by have := List.mem_of_getElem? g; simp [this]) (h6 i n g), rfl⟩, h.ok, h.r1, h.r12⟩
theorem HouseAt.same {C : Addr} {H H' : Hp} {p : Addr} {r : Nat} {D : List Pr} {own : List Addr} (h : HouseAt C H p r D own) (s : Same H H') : HouseAt C H' p r D own := h.keep (fun b o _ e => s b o e) (KT.same s)
theorem HouseAt.stands {C : Addr} {H : Hp} {p : Addr} {r : Nat} {D : List Pr} {own : List Addr} (h : HouseAt C H p r D own) : ∀ b ∈ own, ∃ o, H b = some o := by
  obtain ⟨dx, l, m, ls, ns, h1, h2, h3, h4, h5, h6, rfl⟩ := h.ex
  intro b hb
  rcases List.mem_cons.mp hb with z | hb
  · exact ⟨_, by rw [z]; exact h1⟩
  · rcases List.mem_cons.mp hb with z | hb
    · exact ⟨_, by rw [z]; exact h2⟩
    · rcases List.mem_cons.mp hb with z | hb
      · exact ⟨_, by rw [z]; exact h4⟩
      · obtain ⟨i, g⟩ := List.getElem?_of_mem hb
        exact ⟨_, h6 i b g⟩
section
variable {P : Program} {w : World} {K : PySem.W.Frag} {mg : Str → Option Value} {base : Heap}
theorem scHcount : FnScope ["self"] ["self"] (defScope sHcount) := ⟨rfl, rfl, rfl, by decide +kernel, rfl, by decide +kernel, by decide +kernel⟩
def spHcount (C : Addr) : Sp := fun vs H Q _ => ∃ (p : Addr) (r : Nat) (D : List Pr) (own : List Addr), vs = [.ref p] ∧ HouseAt C H p r D own ∧ Q (.int D.length) H
theorem ok_hcount {f C : Addr} {fd : FuncData} (F : Fun K "door_count" "House.door_count" sHcount f fd) (T : Bi mg) (U : Hs K mg C) : FnOk P w K mg base CX0 1 f fd ["self"] (spHcount C) := by
  refine F.ok scHcount (fun vs H Q E h => ?_) (fun cdv A outer s H vs Q E hr h => ?_)
  · obtain ⟨p, r, D, own, rfl, _⟩ := h
    rfl
  · obtain ⟨p, r, D, own, rfl, hh, q⟩ := h
    obtain ⟨dx, l, m, ls, ns, h1, h2, h3, h4, h5, h6, rfl⟩ := hh.ex
    refine ⟨_, (pss_one (ps_ret (pe_callB call_len_seq (by rfl) T.len (by decide +kernel) (pa_cons (pe_fld (pv 0) rfl) pa_nil)))), ?_⟩
    walk_at "rd"
    refine ⟨C, dx, _, h1, U.cl, U.nD, .ref l, hf_doors _ _ _, l, rfl, _, .inl (SqL.of h2), ?_⟩
    rw [h3.len]
    exact q
theorem scHdoors : FnScope ["self"] ["self"] (defScope sHdoors) := ⟨rfl, rfl, rfl, by decide +kernel, rfl, by decide +kernel, by decide +kernel⟩
def spHdoors (C : Addr) : Sp := fun vs H Q _ => ∃ (p : Addr) (r : Nat) (D : List Pr) (own : List Addr), vs = [.ref p] ∧ HouseAt C H p r D own ∧ ∀ ls q, PL H ls D → H q = none → Q (.ref q) (upd H q (.lst ls))
theorem ok_hdoors {f C : Addr} {fd : FuncData} (F : Fun K "doors" "House.doors" sHdoors f fd) (T : Bi mg) (U : Hs K mg C) : FnOk P w K mg base CX0 1 f fd ["self"] (spHdoors C) := by
  refine F.ok scHdoors (fun vs H Q E h => ?_) (fun cdv A outer s H vs Q E hr h => ?_)
  · obtain ⟨p, r, D, own, rfl, _⟩ := h
    rfl
  · obtain ⟨p, r, D, own, rfl, hh, q⟩ := h
    obtain ⟨dx, l, m, ls, ns, h1, h2, h3, h4, h5, h6, rfl⟩ := hh.ex
    refine ⟨_, (pss_one (ps_ret (pe_callTy call_list_of (by rfl) T.list (by decide +kernel) (pa_cons (pe_fld (pv 0) rfl) pa_nil)))), ?_⟩
    walk_at "rd"
    exact ⟨C, dx, _, h1, U.cl, U.nD, .ref l, hf_doors _ _ _, l, rfl, _, .inl (SqL.of h2), fun t nt => q ls t h3 nt⟩
theorem scHnear : FnScope ["self", "room"] ["self", "room"] (defScope sHnear) := ⟨rfl, rfl, rfl, by decide +kernel, rfl, by decide +kernel, by decide +kernel⟩
def spHnear (C : Addr) : Sp := fun vs H Q _ => ∃ (p : Addr) (r : Nat) (D : List Pr) (own : List Addr) (i : Nat), vs = [.ref p, .int i] ∧ HouseAt C H p r D own ∧ i < r ∧ ∀ q, H q = none → Q (.ref q) (upd H q (.lst ((nearF (i : Nat) D).map V.int)))
theorem ok_hnear {f C : Addr} {fd : FuncData} (F : Fun K "neighbours" "House.neighbours" sHnear f fd) (T : Bi mg) (U : Hs K mg C) : FnOk P w K mg base CX0 1 f fd ["self", "room"] (spHnear C) := by
  refine F.ok scHnear (fun vs H Q E h => ?_) (fun cdv A outer s H vs Q E hr h => ?_)
  · obtain ⟨p, r, D, own, i, rfl, _⟩ := h
    rfl
  · obtain ⟨p, r, D, own, i, rfl, hh, hi, q⟩ := h
    obtain ⟨dx, l, m, ls, ns, h1, h2, h3, h4, h5, h6, rfl⟩ := hh.ex
    obtain ⟨n, gn⟩ : ∃ n, ns[i]? = some n := ⟨_, List.getElem?_eq_getElem (by omega)⟩
    refine ⟨_, (pss_one (ps_ret (pe_callTy call_list_of (by rfl) T.list (by decide +kernel) (pa_cons (pe_ix ix_list (pe_fld (pv 0) rfl) (pv 1) (fun _ _ => rfl)) pa_nil)))), ?_⟩
    walk_at "rd"
    refine ⟨C, dx, _, h1, U.cl, U.nN, .ref m, hf_near _ _ _, m, rfl, _, SqL.of h4, .ref n, atI_nat (by rw [List.getElem?_map, gn]; rfl), n, rfl, _, .inl (SqL.of (h6 i n gn)), fun t nt => q t nt⟩
end

/-! ### a static method, called on its class -/
structure Smt (K : PySem.W.Frag) (C : Addr) (m : Str) (p g : Addr) : Prop where
  rd : PySem.W.readsIn K C (.type "type") = true
  ga : PySem.W.specialIn K (.ref C) "__getattribute__" = some (some (.builtin "type.__getattribute__"))
  at_ : PySem.W.findCls K (.ref C) (.type "type") m = some (.get (.builtin "staticmethod.__get__") (.ref p) .none (.ref C))
  rc : ∃ rest, PySem.W.recIn K p "staticmethod" = some (.ref g :: rest)
  kp : PySem.W.keepIn K (.ref g) = true
def tSmt (C : Addr) (sp : Sp) (E : XK) (ta : TE) (t : TA) : TE := fun σ H Q => ta σ H fun x H1 => x = .ref C ∧ t σ H1 fun vs H2 => sp vs H2 Q E
theorem pe_smt {X : Cx} {CX : CXT} {k : Nat} {C p g : Addr} {m : Str} {fd : FuncData} {ps : List Str} {sp : Sp} {E : XK} {o e : Expr} {es : List Expr} {apos pos : Pos} {ta : TE} {t : TA} {pl : Sem Bool} (he : PE X o ta) (c : Smt X.K C m p g) (F : FnOk X.prog X.w X.K X.mg X.base CX k g fd ps sp) (hr : Room k X.A) (hb : Binds X.K fd ps []) (hx : Passes CX X E) (ha : PA X (e :: es) t)
    (b1 : starEach (e :: es) X.env = (false, eval e X.env) :: starEach es X.env := by rfl) (b2 : (backTo pos (starEach es X.env)).any (·.1) = false := by rfl)
    (b3 : eval (.Call (.Attribute o m apos) (e :: es) [] pos) X.env = (eval o X.env >>= fun ov => standAt apos.atName >>= fun _ => holding [ov] (getMethod ov m pl) >>= fun fp => callWith pos fp.1 fp.2 (backTo pos (starEach (e :: es) X.env)) (backToKw pos (keywordEach [] X.env))) := by rfl) :
    PE X (.Call (.Attribute o m apos) (e :: es) [] pos) (tSmt C sp E ta t) := by
  refine ⟨fun pins s σ H Q I h => PySem.W.methodCall_KW (pl := pl) (thn (he.run pins s σ H _ I h) ?_) b3⟩
  rintro u s1 ⟨x, H1, I1, rx, rfl, q⟩
  cases (show u = Value.ref C from rx)
  obtain ⟨rest, rc⟩ := c.rc
  refine PySem.W.method_cls I1.kIn c.ga (PySem.W.cls_bind I1.kIn c.rd c.at_ (wpAny_call (PySem.W.sm_get (s := { s1 with toks := s1.toks + 1 }) I1.kIn rc (PySem.W.handed_on rfl ?_))))
  refine PySem.W.callWith_K (h₀ := X.base) I1.ok.mod.kin c.kp (thn (ha.run pos pins _ σ H1 _ (I1.tok _) q) ?_) b1 b2
  rintro us s2 ⟨vs, H2, I2, r, q2⟩
  exact ⟨I2.kIn, run_fn F hr hb .nil hx I2 r (by rw [List.append_nil]; exact q2)⟩

abbrev sTooL : Stmt := topS 4
abbrev sTinit : Stmt := inClass sTooL 0
abbrev sAop : Stmt := topS 13
/-- an own class of error with one field -/
structure Err (K : PySem.W.Frag) (mg : Str → Option Value) (x fld : Str) (C fI : Addr) : Prop where
  oex : OexC K C
  gC : mg x = some (.ref C)
  iC : PySem.W.findIn K (.ref C) "__init__" = some (some (.ref fI))
  tI : PySem.W.typeIn K (.ref fI) = some (.type "function")
  noF : PySem.W.findIn K (.ref C) fld = some none
  xf : XfC K C
  ca : PySem.W.findIn K (.ref C) "__class__" = some (some (.builtin "object.__class__"))
  hn : PySem.W.specialIn K (.builtin "object.__class__") "__get__" = some (some (.builtin "getset_descriptor.__get__"))
  ht : PySem.W.takesIn K (.builtin "object.__class__") = some true
  hm : PySem.W.mroIn K C (.type "object") = some true
  te : PySem.W.exmOne K (.ref C) (.ref C) = some true
/-- isinstance(e, c), e the exception that the suite holds, with its dict -/
def rIsX (K : PySem.W.Frag) (a : Addr) (cls : Value) (d : Option Addr) : List V → Hp → VK → Prop := fun xs H Q => ∃ (D dd : Addr) (fs : List (Str × V)) (c : V) (cv : Value) (b : Bool), xs = [.ref a, c] ∧ cls = .ref D ∧ d = some dd ∧ H dd = some (.xd fs) ∧ (∃ x fld mg fI, Err K mg x fld D fI) ∧ (∀ u, RelV c u → u = cv) ∧ PySem.W.kitOne K (.ref D) cv = some b ∧ Q (.bl b) H
theorem err_kit {K : PySem.W.Frag} {mg : Str → Option Value} {x fld : Str} {D fI e : Addr} {oe : Obj} {od : Obj} (T : Err K mg x fld D fI) : PySem.W.KitX K (.ref e) (.ref D) (fun h => PySem.W.InstAt h e oe D (some od)) :=
  PySem.W.kitx_exc (by
    have h := T.xf.hdC
    unfold PySem.W.hasDictIn at h
    cases c : PySem.W.clsIn K D with
    | some _ => rfl
    | none => rw [c] at h; exact absurd h (by decide)) T.xf.ga T.xf.gg T.xf.exC T.ca T.hn T.ht T.hm
theorem call_isX {X : Cx} {a : Addr} {cls : Value} {d : Option Addr} {oe : Obj} {pn : List (Addr × Obj)} (hz : Zc cls d oe) (hf : ∃ vs, oe.data = .fields vs) : CallR (X.suite a ((a, oe) :: pn)) (.builtin "isinstance") (rIsX X.K a cls d) := by
  intro pins s σ H xs us Q I r h
  obtain ⟨D, dd, fs, c, cv, b, rfl, ec, ed, ea, ⟨x, fld, mg, fI, T⟩, hcv, e, q⟩ := h
  subst ec
  subst ed
  cases r with
  | cons rx rr =>
    cases rr with
    | cons rt rr =>
      cases rr
      cases rx
      have ec := hcv _ rt
      subst ec
      obtain ⟨hget, _⟩ := I.pin (a, oe) (List.mem_append.mpr (.inl List.mem_cons_self))
      obtain ⟨vs, hv⟩ := hf
      have hx : ObjOk X.prog X.w H s.heap dd (.xd fs) := I.hok dd _ ea
      obtain ⟨mA, hns, hr⟩ := hx
      obtain ⟨od, ho, hl⟩ := lookIn_ns hns
      have J : PySem.W.InstAt s.heap a oe D (some od) := ⟨hget, hz.1, by unfold PySem.W.notCls; rw [hv] <;> rfl, by rw [hz.2]; exact ho⟩
      exact PySem.W.kia_one (err_kit T) I.kIn J e (fun z => nomatch z) fun tk => ⟨.bl b, H, I.kept (t' := tk) fun _ _ z => z, rfl, q⟩
/-- the same with a tuple of two classes -/
def rIsXT (K : PySem.W.Frag) (a : Addr) (cls : Value) (d : Option Addr) : List V → Hp → VK → Prop := fun xs H Q => ∃ (D dd t : Addr) (fs : List (Str × V)) (c1 c2 : Addr) (b : Bool), xs = [.ref a, .ref t] ∧ cls = .ref D ∧ d = some dd ∧ H dd = some (.xd fs) ∧ (∃ x fld mg fI, Err K mg x fld D fI) ∧ H t = some (.tup [.ref c1, .ref c2]) ∧ PySem.W.kitAny K (.ref D) [.ref c1, .ref c2] = some b ∧ Q (.bl b) H
theorem call_isXT {X : Cx} {a : Addr} {cls : Value} {d : Option Addr} {oe : Obj} {pn : List (Addr × Obj)} (hz : Zc cls d oe) (hf : ∃ vs, oe.data = .fields vs) : CallR (X.suite a ((a, oe) :: pn)) (.builtin "isinstance") (rIsXT X.K a cls d) := by
  intro pins s σ H xs us Q I r h
  obtain ⟨D, dd, t, fs, c1, c2, b, rfl, ec, ed, ea, ⟨x, fld, mg, fI, T⟩, ht, e, q⟩ := h
  subst ec
  subst ed
  cases r with
  | cons rx rr =>
    cases rr with
    | cons rt rr =>
      cases rr
      cases rx
      cases rt
      obtain ⟨hget, _⟩ := I.pin (a, oe) (List.mem_append.mpr (.inl List.mem_cons_self))
      obtain ⟨vs, hv⟩ := hf
      have hx : ObjOk X.prog X.w H s.heap dd (.xd fs) := I.hok dd _ ea
      obtain ⟨mA, hns, hr⟩ := hx
      obtain ⟨od, ho, hl⟩ := lookIn_ns hns
      have J : PySem.W.InstAt s.heap a oe D (some od) := ⟨hget, hz.1, by unfold PySem.W.notCls; rw [hv] <;> rfl, by rw [hz.2]; exact ho⟩
      obtain ⟨its, rel, tp, _⟩ := I.tuple (SqT.of (K := X.K) ht)
      have eits : its = [Value.ref c1, Value.ref c2] := by
        cases rel with
        | cons r1 rr =>
          cases rr with
          | cons r2 rr =>
            cases rr
            cases r1
            cases r2
            rfl
      subst eits
      obtain ⟨o, ho2, hc2, n2, hd2⟩ := tp
      obtain ⟨oc, odd, oda, osl⟩ := o
      dsimp only at hc2 hd2
      subst hc2 hd2
      exact PySem.W.kia_tup (err_kit T) I.kIn J ho2 e (fun z => nomatch z) fun tk => ⟨.bl b, H, I.kept (t' := tk) fun _ _ z => z, rfl, q⟩
section
variable {P : Program} {w : World} {K : PySem.W.Frag} {mg : Str → Option Value} {base : Heap}
theorem scTinit : FnScope ["self", "size"] ["self", "size"] (defScope sTinit) := ⟨rfl, rfl, rfl, by decide +kernel, rfl, by decide +kernel, by decide +kernel⟩
def spTinit (CT : Addr) : Sp := fun vs H Q _ => ∃ (a : Addr) (n : Int), vs = [.ref a, .int n] ∧ H a = some (exo a CT none) ∧ ∀ dx, H dx = none → dx ≠ a → Q .non (upd (upd H dx (exd dx [("size", .int n)])) a (exo a CT (some dx)))
theorem ok_tinit {f CT : Addr} {fd : FuncData} (F : Fun K "__init__" "TooLarge.__init__" sTinit f fd) (oex : OexC K CT) (noF : PySem.W.findIn K (.ref CT) "size" = some none) : FnOk P w K mg base CX0 1 f fd ["self", "size"] (spTinit CT) := by
  refine F.ok scTinit (fun vs H Q E h => ?_) (fun cdv A outer s H vs Q E hr h => ?_)
  · obtain ⟨a, n, rfl, _⟩ := h
    rfl
  · obtain ⟨a, n, rfl, ha, q⟩ := h
    refine ⟨_, (pss_one (ps_ost (pv 0) (pv 1))), ?_⟩
    walk_at "rd"
    exact ⟨_, rfl, _, rfl, a, CT, rfl, oex, noF, .inl ⟨ha, fun dx ndx ne => q dx ndx ne⟩⟩
end

/-! ### all openings -/
def opsL (D : List Pr) : List (List Pr) := D.foldl (fun os d => os.flatMap fun o => [o, o ++ [d]]) [[]]
def opR : List Pr → Nat → List Pr
  | [], _ => []
  | d :: r, k => opR r (k / 2) ++ (if k % 2 = 1 then [d] else [])
def opAt (D : List Pr) (k : Nat) : List Pr := opR D.reverse k
theorem opsL_snoc (D : List Pr) (d : Pr) : opsL (D ++ [d]) = (opsL D).flatMap fun o => [o, o ++ [d]] := by
  unfold opsL
  rw [List.foldl_append]
  rfl
theorem flat2 {α β : Type} (f g : α → β) : ∀ (l : List α) (k : Nat), (l.flatMap fun o => [f o, g o])[k]? = l[k / 2]?.map fun o => if k % 2 = 0 then f o else g o
  | [], k => by simp
  | a :: l, 0 => rfl
  | a :: l, 1 => rfl
  | a :: l, k + 2 => by
    have ih := flat2 f g l k
    rw [List.flatMap_cons]
    show (f a :: g a :: (l.flatMap fun o => [f o, g o]))[k + 2]? = _
    rw [List.getElem?_cons_succ, List.getElem?_cons_succ, ih, show (k + 2) / 2 = k / 2 + 1 by omega, List.getElem?_cons_succ, show (k + 2) % 2 = k % 2 by omega]
theorem opsL_len (D : List Pr) : (opsL D).length = 2 ^ D.length := by
  have key : ∀ (D : List Pr) (os : List (List Pr)), (D.foldl (fun os d => os.flatMap fun o => [o, o ++ [d]]) os).length = os.length * 2 ^ D.length := by
    intro D
    induction D with
    | nil => intro os; exact (Nat.mul_one _).symm
    | cons d D ih =>
      intro os
      show (D.foldl _ (os.flatMap fun o => [o, o ++ [d]])).length = _
      rw [ih]
      have e : (os.flatMap fun o => [o, o ++ [d]]).length = os.length * 2 := by
        induction os with
        | nil => rfl
        | cons o os ih2 =>
          rw [List.flatMap_cons, List.length_append, ih2, List.length_cons (as := os)]
          show 2 + _ = _
          omega
      rw [e, List.length_cons, Nat.pow_succ, Nat.mul_assoc, Nat.mul_comm 2]
  have := key D [[]]
  rw [show ([[]] : List (List Pr)).length = 1 from rfl, Nat.one_mul] at this
  exact this
theorem opsL_at : ∀ (R : List Pr) (k : Nat), k < 2 ^ R.length → (opsL R.reverse)[k]? = some (opR R k)
  | [], k, h => by
    have : k = 0 := by
      have : k < 1 := h
      omega
    subst this
    rfl
  | d :: R, k, h => by
    have h2 : k / 2 < 2 ^ R.length := by
      rw [List.length_cons, Nat.pow_succ] at h
      omega
    rw [List.reverse_cons, opsL_snoc, flat2 (fun o => o) (fun o => o ++ [d]), opsL_at R (k / 2) h2]
    show some (if k % 2 = 0 then opR R (k / 2) else opR R (k / 2) ++ [d]) = some (opR R (k / 2) ++ (if k % 2 = 1 then [d] else []))
    congr 1
    by_cases c : k % 2 = 1
    · rw [if_pos c, if_neg (by omega)]
    · rw [if_neg c, if_pos (by omega), List.append_nil]
theorem opAt_get {D : List Pr} {k : Nat} (h : k < 2 ^ D.length) : (opsL D)[k]? = some (opAt D k) := by
  have := opsL_at D.reverse k (by rw [List.length_reverse]; exact h)
  rw [List.reverse_reverse] at this
  exact this
theorem opR_snoc : ∀ (R : List Pr) (x : Pr) (k : Nat), opR (R ++ [x]) k = (if k / 2 ^ R.length % 2 = 1 then [x] else []) ++ opR R k
  | [], x, k => by
    show [] ++ _ = _
    rw [List.length_nil, Nat.pow_zero, Nat.div_one]
    show [] ++ _ = _ ++ []
    rw [List.append_nil, List.nil_append]
  | d :: R, x, k => by
    show opR (R ++ [x]) (k / 2) ++ _ = _ ++ (opR R (k / 2) ++ _)
    rw [opR_snoc R x (k / 2), List.append_assoc, Nat.div_div_eq_div_mul, List.length_cons, Nat.pow_succ, Nat.mul_comm 2]
theorem opR_len : ∀ (R : List Pr) (k : Nat), (opR R k).length ≤ R.length
  | [], _ => Nat.le_refl _
  | d :: R, k => by
    have ih := opR_len R (k / 2)
    show (opR R (k / 2) ++ _).length ≤ _
    rw [List.length_append, List.length_cons]
    by_cases c : k % 2 = 1
    · rw [if_pos c]; exact Nat.add_le_add_right ih 1
    · rw [if_neg c]; exact Nat.le_succ_of_le ih
/-- a method of the class at C that keeps a promise -/
structure Md (P : Program) (w : World) (K : PySem.W.Frag) (mg : Str → Option Value) (base : Heap) (C : Addr) (x : Str) (ps : List Str) (k : Nat) (sp : Sp) (f : Addr) (fd : FuncData) : Prop where
  m : Meth K C x f
  b : Binds K fd ps []
  ok : FnOk P w K mg base CX0 k f fd ps sp
theorem lget2' {α β : Type} {F : α → β → Prop} : ∀ {vs : List α} {D : List β} {i : Nat} {v : α}, Paired F vs D → vs[i]? = some v → ∃ d, D[i]? = some d ∧ F v d
  | _, _, _, _, Paired.nil, e => by simp at e
  | _, _, 0, v, .cons r _, e => by
    have e2 := Option.some.inj e
    subst e2
    exact ⟨_, rfl, r⟩
  | _, _, i + 1, v, .cons _ t, e => lget2' (i := i) t e
theorem for_iterW {wi : TI} {g : TG} {tb : TS} {D : Ends} {σ : L2.St} {H : Hp} (h : wi σ H fun J H1 => tFor (fun _ H R => R J H) g tb D σ H1) : tFor wi g tb D σ H := h
theorem paired_app {α β : Type} {F : α → β → Prop} : ∀ {a : List α} {b : List β} {c : List α} {d : List β}, Paired F a b → Paired F c d → Paired F (a ++ c) (b ++ d)
  | _, _, _, _, .nil, k => k
  | _, _, _, _, .cons h t, k => .cons h (paired_app t k)
/-- lists of doors in the heap -/
def IsL (H : Hp) (v : V) (o : List Pr) : Prop := ∃ t us, v = .ref t ∧ H t = some (.lst us) ∧ PL H us o
theorem IsL.same {H H' : Hp} {v : V} {o : List Pr} (h : IsL H v o) (s : Same H H') : IsL H' v o := by
  obtain ⟨t, us, e, h1, h2⟩ := h
  exact ⟨t, us, e, s _ _ h1, h2.kt (KT.same s)⟩
section
variable {P : Program} {w : World} {K : PySem.W.Frag} {mg : Str → Option Value} {base : Heap}
theorem scAop : FnScope ["house", "openings", "door", "opening", "longer"] ["house"] (defScope sAop) := ⟨rfl, rfl, rfl, by decide +kernel, rfl, by decide +kernel, by decide +kernel⟩
def spAop (C CT : Addr) : Sp := fun vs H Q E => ∃ (p : Addr) (r : Nat) (D : List Pr) (own : List Addr), vs = [.ref p] ∧ HouseAt C H p r D own ∧
  (10 < D.length → ∀ (d : Addr) (H' : Hp), Same H H' → H' d = some (.xd [("size", .int D.length)]) → E (.ref CT) (some d) H') ∧
  (D.length ≤ 10 → ∀ (q : Addr) (vs : List V) (H' : Hp), Same H H' → H q = none → H' q = some (.lst vs) → Paired (fun v o => IsL H' v o ∧ ∃ t, v = V.ref t ∧ H t = none ∧ t ≠ q) vs (opsL D) → Q (.ref q) H')
theorem ok_aop {f C CT fI pc fc fD : Addr} {fd fdI fdc fdD : FuncData} (F : Fun K "all_openings" "all_openings" sAop f fd) (T : Bi mg) (U : Hs K mg C) (mD : ∃ u, mg "MOST_DOORS" = some u ∧ RelV (.int 10) u) (e : Err K mg "TooLarge" "size" CT fI) (bI : Binds K fdI ["self", "size"] []) (GI : FnOk P w K mg base CX0 1 fI fdI ["self", "size"] (spTinit CT))
    (pp : PropOf K C "door_count" pc fc) (bc : Binds K fdc ["self"] []) (Gc : FnOk P w K mg base CX0 1 fc fdc ["self"] (spHcount C)) (m_doors : Md P w K mg base C "doors" ["self"] 1 (spHdoors C) fD fdD) : FnOk P w K mg base (L2.CX P w) 3 f fd ["house"] (spAop C CT) := by
  refine F.okX scAop (fun vs H Q E h => ?_) (fun cdv A outer s H vs Q E hr h => ?_)
  · obtain ⟨p, r, D, own, rfl, _⟩ := h
    rfl
  · obtain ⟨p, r, D, own, rfl, hh, hbad, hgood⟩ := h
    obtain ⟨uD, mD1, mD2⟩ := mD
    refine ⟨_, (pss_cons (ps_if (pt_cmpR op_gt (pe_prop (pv 0) U.cl pp Gc (hr.mono (by decide)) bc .nil pass0 (by rfl)) (pe_glob (v := .int 10) (by rfl) mD1 mD2) (nomark _))
      (pss_one (ps_raise rfl (takes_of rfl rfl rfl rfl) (pmk_oex e.oex e.iC e.tI GI (hr.mono (by decide)) bI .nil pass0 (by rfl) e.gC (pa_cons (pe_prop (pv 0) U.cl pp Gc (hr.mono (by decide)) bc .nil pass0 (by rfl)) pa_nil))))
      pss_nil)
      (pss_cons (ps_set (i := 1) scAop.nd rfl (Or.inl rfl) (pe_lst (pa_cons (pe_lst pa_nil) pa_nil)))
      (pss_cons (ps_for (passes_of rfl) rfl (pi_list (pe_meth0 (pv 0) U.cl m_doors.m m_doors.ok (hr.mono (by decide)) m_doors.b .nil pass0)) (pg_name (i := 2) scAop.nd rfl (Or.inr rfl))
      (pss_one (ps_setLc2 (i := 1) (own := [("opening", 3), ("longer", 4)]) (vs1 := [4]) (wi1 := iTup K (tTup (tCons (tVar 3) (tCons (tOp rCat (tVar 3) (tLst (tCons (tVar 2) tNil))) tNil)))) (te := tVar 4) (by rfl) scAop.nd rfl rfl (sw_true rfl rfl rfl (by decide +kernel)) (pi_list (pv 1)) (blkOk_by (N := ["house", "openings", "door", "opening", "longer"]) (sc := defScope sAop) (by decide +kernel)) (by decide) (fun _ _ _ _ _ => pg_name (i := 3) scAop.nd rfl (Or.inl rfl)) (fun _ _ _ _ _ => pts_nil) (fun _ _ _ _ _ => pi_tup (pe_tup (pa_cons (pv 3) (pa_cons (pe_op op_cat (pv 3) (pe_lst (pa_cons (pv 2) pa_nil))) pa_nil)))) (fun _ _ _ _ _ => pg_name (i := 4) scAop.nd rfl (Or.inl rfl)) (fun _ _ _ _ _ => pts_nil) (fun _ _ _ _ _ => pv 4))))
      (pss_one (ps_ret (pv 1)))))), ?_⟩
    obtain ⟨dx, l, m, ls, ns, h1, h2, h3, h4, h5, h6, rfl⟩ := hh.ex
    walk_at "rd"
    refine ⟨_, rfl, p, dx, _, rfl, h1, p, r, D, _, rfl, hh, ?_⟩
    refine ⟨_, rfl, ?_⟩
    by_cases c10 : (10 : Int) < (D.length : Int)
    · rw [if_pos c10]
      refine ⟨_, rfl, p, dx, _, rfl, h1, p, r, D, _, rfl, hh, (by show 1 ≤ 1000; decide), fun a na => ?_⟩
      refine ⟨a, D.length, rfl, upd_same, fun d nd ne => ⟨rfl, d, [("size", .int D.length)], upd_same, by rw [upd_ne ne]; exact upd_same, by rw [upd_ne ne] at nd; exact nd, ?_⟩⟩
      have nd0 : H d = none := by rw [upd_ne ne] at nd; exact nd
      refine hbad (by omega) d _ (fun b o hb => ?_) upd_same
      have bd : b ≠ d := ne_of_none hb nd0
      have ba : b ≠ a := ne_of_none hb na
      rw [upd_ne bd, del_ne ba, upd_ne ba, upd_ne bd, upd_ne ba]
      exact hb
    · rw [if_neg c10]
      have d10 : D.length ≤ 10 := by omega
      refine ⟨Nat.zero_le _, fun e0 ne0 => ⟨(by decide), fun q0 nq0 => ?_⟩⟩
      have s1 := same_upd (o := HO.lst []) ne0
      have s2 := s1.trans (same_upd (o := HO.lst [V.ref e0]) nq0)
      have q00 : H q0 = none := s1.free nq0
      have eq0 : e0 ≠ q0 := ne_of_none upd_same nq0
      have he0 : upd (upd H e0 (HO.lst [])) q0 (HO.lst [V.ref e0]) e0 = some (.lst []) := by rw [upd_ne eq0]; exact upd_same
      have hq0 : upd (upd H e0 (HO.lst [])) q0 (HO.lst [V.ref e0]) q0 = some (.lst [V.ref e0]) := upd_same
      generalize upd (upd H e0 (HO.lst [])) q0 (HO.lst [V.ref e0]) = H1 at s2 he0 hq0 ⊢
      clear s1 nq0
      refine for_iterW ?_
      walk_at "rd"
      refine ⟨dx, _, s2 _ _ h1, hf_no _ _ _ (by decide +kernel) (by decide +kernel) (by decide +kernel), p, r, D, _, rfl, hh.same s2, fun ws dq pw ndq => ?_⟩
      have s3 := s2.trans (same_upd (o := HO.lst ws) ndq)
      have sd : Same H1 (upd H1 dq (HO.lst ws)) := same_upd ndq
      have hdq : upd H1 dq (HO.lst ws) dq = some (.lst ws) := upd_same
      have pw1 := pw.kt (KT.same sd)
      have dq0 : H dq = none := s2.free ndq
      generalize upd H1 dq (HO.lst ws) = H2 at s3 sd hdq pw1 ⊢
      have wl : ws.length = D.length := pw.len
      obtain ⟨Gd, hGd⟩ : ∃ Gd : Hp → Addr → V → List Pr → Prop, Gd = (fun H' q v o => IsL H' v o ∧ ∃ t, v = V.ref t ∧ H t = none ∧ t ≠ q) := ⟨_, rfl⟩
      obtain ⟨Pv, hPv⟩ : ∃ Pv : Nat → L2.St → Hp → Prop, Pv = (fun i σ H' => ∃ (q : Addr) (vs : List V) (v2 : Option V), σ = [some (.ref p), some (.ref q), v2, none, none] ∧ Same H2 H' ∧ H q = none ∧ H' q = some (.lst vs) ∧ Paired (Gd H' q) vs (opsL (D.take i))) := ⟨_, rfl⟩
      refine ⟨dq, rfl, ⟨_, SqL.of hdq⟩, for_list (K := K) (a := dq) (xs := ws) Pv (by rw [hPv]; exact ⟨q0, _, none, rfl, Same.refl _, q00, sd _ _ hq0, by rw [hGd]; exact .cons ⟨⟨e0, [], rfl, sd _ _ he0, PL.nil0 _⟩, e0, rfl, ne0, eq0⟩ .nil⟩) (fun i σ H' _ pv => by rw [hPv] at pv; obtain ⟨_, _, _, _, sm, _⟩ := pv; exact SqL.of (sm _ _ hdq)) (fun i v σ H3 gv pv => ?_) (fun σ H3 pv => ?_)⟩
      · have nxt : ∀ (q : Addr) (vs : List V) (v2 : Option V) (H' : Hp), Same H2 H' → H q = none → H' q = some (.lst vs) → Paired (Gd H' q) vs (opsL (D.take (i + 1))) → Pv (i + 1) [some (.ref p), some (.ref q), v2, none, none] H' := fun q vs v2 H' h1 h2 h3 h4 => by
          rw [hPv]
          exact ⟨q, vs, v2, rfl, h1, h2, h3, h4⟩
        rw [hPv] at pv
        obtain ⟨q, vs, v2, rfl, sm, nq, hq, pr⟩ := pv
        obtain ⟨d, gd, td, rfl, htd⟩ := pw1.get gv
        have htd3 := sm _ _ htd
        have id_ : i < D.length := (List.getElem?_eq_some_iff.mp gd).1
        rw [List.take_add_one, gd] at nxt
        have nxt : ∀ (q : Addr) (vs : List V) (v2 : Option V) (H' : Hp), Same H2 H' → H q = none → H' q = some (.lst vs) → Paired (Gd H' q) vs (opsL (D.take i ++ [d])) → Pv (i + 1) [some (.ref p), some (.ref q), v2, none, none] H' := nxt
        rw [opsL_snoc] at nxt
        have vl : vs.length = (opsL (D.take i)).length := Paired.length pr
        have ol : (opsL (D.take i)).length ≤ 1024 := by
          rw [opsL_len, List.length_take]
          exact Nat.le_trans (Nat.pow_le_pow_right (by decide) (show min i D.length ≤ 10 by omega)) (by decide)
        have hOS : ∀ o ∈ opsL (D.take i), o.length ≤ 100 := fun o ho => by
          obtain ⟨k, hk⟩ := List.getElem?_of_mem ho
          have k2 := (List.getElem?_eq_some_iff.mp hk).1
          rw [opsL_len] at k2
          rw [opAt_get k2] at hk
          rw [← Option.some.inj hk]
          have := opR_len (D.take i).reverse k
          rw [List.length_reverse, List.length_take] at this
          unfold opAt
          omega
        generalize opsL (D.take i) = OS at pr nxt vl ol hOS
        walk_at "rd"
        refine ⟨_, rfl, q, rfl, ⟨_, SqL.of hq⟩, fun c nc => ?_⟩
        have c0 : H c = none := (s3.trans sm).free nc
        obtain ⟨Pw, hPw⟩ : ∃ Pw : Nat → Hp → Prop, Pw = (fun j Hx => Same H3 Hx ∧ ∃ us, Hx c = some (.lst us) ∧ Paired (Gd Hx c) us ((OS.take j).flatMap fun o => [o, o ++ [d]])) := ⟨_, rfl⟩
        refine ⟨fun j m Hx => m = vs.length - j ∧ j ≤ vs.length ∧ Pw j Hx, ⟨_, rfl, Nat.zero_le _, by rw [hPw]; exact ⟨same_upd nc, [], upd_same, .nil⟩⟩, ?_⟩
        rintro j mm Hx ⟨rfl, hj, pv⟩
        have sx : Same H3 Hx := by
          rw [hPw] at pv
          exact pv.1
        by_cases lt : j < vs.length
        · refine .inr ⟨⟨vs, vs[j], SqL.of (sx _ _ hq), by simp [lt]⟩, Pw (j + 1), fun H' q => ⟨_, by omega, rfl, lt, q⟩, ?_⟩
          rintro v H' ⟨rfl, ev⟩
          have gvj := ev vs (SqL.of (sx _ _ hq))
          rw [hPw] at pv
          obtain ⟨_, us, hc, pu⟩ := pv
          obtain ⟨o, go, gdv⟩ := lget2' pr gvj
          refine ⟨rfl, ?_⟩
          simp only [wipe]
          unfold iTup
          walk_at "rd"
          have gx := gdv
          rw [hGd] at gx
          obtain ⟨⟨t, uo, rfl, ht, po⟩, t', et, nt0, ntq⟩ := gx
          cases et
          have tc : t ≠ c := ne_of_none ht nc
          have htx := sx _ _ ht
          have lo : uo.length ≤ 100 := by
            have m1 := List.mem_of_getElem? go
            rw [po.len]
            exact hOS o m1
          rw [if_pos trivial]
          refine ⟨by decide, fun b nb => ⟨t, b, uo, [.ref td], rfl, rfl, same_upd nb _ _ htx, upd_same, Nat.le_of_lt (len_big (by show uo.length + 1 ≤ 100000; omega)), fun l nl => ⟨by decide, fun T nT => ⟨⟨_, SqT.of upd_same⟩, ?_⟩⟩⟩⟩
          have u1 := same_upd (o := HO.lst [V.ref td]) nb
          have u2 := u1.trans (same_upd (o := HO.lst (uo ++ [V.ref td])) nl)
          have u3 := u2.trans (same_upd (o := HO.tup [V.ref t, V.ref l]) nT)
          have hl3 : upd (upd (upd H' b (HO.lst [V.ref td])) l (HO.lst (uo ++ [V.ref td]))) T (HO.tup [V.ref t, V.ref l]) l = some (.lst (uo ++ [V.ref td])) := same_upd nT _ _ upd_same
          have hT3 : upd (upd (upd H' b (HO.lst [V.ref td])) l (HO.lst (uo ++ [V.ref td]))) T (HO.tup [V.ref t, V.ref l]) T = some (.tup [V.ref t, V.ref l]) := upd_same
          have lc : l ≠ c := (ne_of_none (u1 _ _ hc) nl).symm
          have l0 : H l = none := (s3.trans sm).free (sx.free (u1.free nl))
          generalize upd (upd (upd H' b (HO.lst [V.ref td])) l (HO.lst (uo ++ [V.ref td]))) T (HO.tup [V.ref t, V.ref l]) = Hb at u3 hl3 hT3 ⊢
          have sb := sx.trans u3
          obtain ⟨Pz, hPz⟩ : ∃ Pz : Nat → Hp → Prop, Pz = (fun k Hy => Same H3 Hy ∧ Hy T = some (.tup [V.ref t, V.ref l]) ∧ Hy l = some (.lst (uo ++ [V.ref td])) ∧ Hy c = some (.lst (us ++ [V.ref t, V.ref l].take k)) ∧ Paired (Gd Hy c) us ((OS.take j).flatMap fun o => [o, o ++ [d]])) := ⟨_, rfl⟩
          have gkeep : ∀ {Hy Hz : Hp} {us : List V} {os : List (List Pr)}, (∀ a x, Hy a = some x → a ≠ c → Hz a = some x) → KT Hy Hz → Paired (Gd Hy c) us os → Paired (Gd Hz c) us os := fun {Hy Hz us os} k kt pr => Paired.mapP pr fun v o g => by
            rw [hGd] at g ⊢
            obtain ⟨⟨t1, u1, rfl, g1, g2⟩, t2, e2, g3, g4⟩ := g
            cases e2
            exact ⟨⟨t1, u1, rfl, k _ _ g1 g4, g2.kt kt⟩, t1, rfl, g3, g4⟩
          refine ⟨fun k m Hy => m = 2 - k ∧ k ≤ 2 ∧ Pz k Hy, ⟨_, rfl, Nat.zero_le _, by rw [hPz]; exact ⟨sb, hT3, hl3, by rw [List.take_zero, List.append_nil]; exact u3 _ _ hc, gkeep (fun a x e _ => u3 _ _ e) (KT.same u3) pu⟩⟩, ?_⟩
          rintro k m2 Hy ⟨rfl, hk, pz⟩
          rw [hPz] at pz
          obtain ⟨sy, hTy, hly, hcy, puy⟩ := pz
          have ul : us.length ≤ 3000 := by
            rw [Paired.length puy]
            have : ∀ l : List (List Pr), (l.flatMap fun o => [o, o ++ [d]]).length = l.length * 2 := by
              intro l
              induction l with
              | nil => rfl
              | cons x l ih => rw [List.flatMap_cons, List.length_append, ih, List.length_cons (as := l)]; show 2 + _ = _; omega
            rw [this, List.length_take]
            omega
          by_cases lk : k < 2
          · have gk : ∃ x, [V.ref t, V.ref l][k]? = some x := ⟨_, List.getElem?_eq_getElem (by exact lk)⟩
            obtain ⟨x, gk⟩ := gk
            refine .inr ⟨⟨_, x, SqT.of hTy, gk⟩, Pz (k + 1), fun H' q => ⟨_, by omega, rfl, lk, q⟩, ?_⟩
            rintro v H'' ⟨rfl, ev2⟩
            have e2 := Option.some.inj ((ev2 _ (SqT.of hTy)).symm.trans gk)
            subst e2
            rw [if_pos trivial]
            refine ⟨_, hcy, len_big (by rw [List.length_append, List.length_take]; show us.length + min k 2 ≤ _; omega), ?_⟩
            rw [hPz]
            have cT : T ≠ c := ne_of hTy hcy (by intro z; cases z)
            refine ⟨same_ch sy nc, by rw [upd_ne cT]; exact hTy, by rw [upd_ne lc]; exact hly, ?_, gkeep (fun a x e n => by rw [upd_ne n]; exact e) (KT.lst hcy) puy⟩
            rw [upd_same, List.take_add_one, gk, ← List.append_assoc]
            rfl
          · have e : k = 2 := by omega
            subst e
            refine .inl ⟨⟨_, SqT.of hTy, Nat.le_refl _⟩, ?_⟩
            rw [hPw]
            refine ⟨sy, _, hcy, ?_⟩
            show Paired _ (us ++ [V.ref t, V.ref l]) ((OS.take (j + 1)).flatMap _)
            rw [List.take_add_one (l := OS), go, List.flatMap_append]
            refine paired_app puy (.cons ?_ (.cons ?_ .nil))
            · rw [hGd]
              exact ⟨⟨t, uo, rfl, sy _ _ ht, po.kt (KT.same sy)⟩, t, rfl, nt0, tc⟩
            · rw [hGd]
              exact ⟨⟨l, _, rfl, hly, PL.snoc (po.kt (KT.same sy)) ⟨td, rfl, sy _ _ htd3⟩⟩, l, rfl, l0, lc⟩
        · have e : j = vs.length := by omega
          subst e
          rw [hPw] at pv
          obtain ⟨_, us, hc, pu⟩ := pv
          rw [vl, List.take_length] at pu
          exact .inl ⟨⟨vs, SqL.of (sx _ _ hq), Nat.le_refl _⟩, nxt c us _ Hx (sm.trans sx) c0 hc pu⟩
      · rw [hPv] at pv
        obtain ⟨q, vs, v2, rfl, sm, nq, hq, pr⟩ := pv
        rw [wl, List.take_length] at pr
        rw [hGd] at pr
        walk_at "rd"
        exact hgood d10 q vs H3 (s3.trans sm) nq hq pr
end

abbrev sRef : Stmt := topS 23
/-- the classes that the law asks an error for -/
structure Errs (K : PySem.W.Frag) (mg : Str → Option Value) (CT CE CB CR : Addr) : Prop where
  gE : mg "CallsError" = some (.ref CE)
  gB : mg "BadHouse" = some (.ref CB)
  gR : mg "Refused" = some (.ref CR)
  nV : mg "ValueError" = none
  isE : PySem.W.kitOne K (.ref CT) (.ref CE) = some true
  isV : PySem.W.kitOne K (.ref CT) (.type "ValueError") = some true
  noB : PySem.W.kitAny K (.ref CT) [.ref CB, .ref CR] = some false
def tAskE (K : PySem.W.Frag) (CT CE CB CR : Addr) : Addr → Value → Option Addr → TS := fun a cls d =>
  tAsg (tTup (tCons (tXf a cls d CT "size" (tVar 2)) (tCons (tCB (rIsX K a cls d) (tCons (tVar 2) (tCons (tC (.ref CE)) tNil))) (tCons (tCB (rIsX K a cls d) (tCons (tVar 2) (tCons (tC (.ty "ValueError")) tNil))) (tCons (tCB (rIsXT K a cls d) (tCons (tVar 2) (tCons (tTup (tCons (tC (.ref CB)) (tCons (tC (.ref CR)) tNil))) tNil))) tNil))))) (gName 1)
section
variable {P : Program} {w : World} {K : PySem.W.Frag} {mg : Str → Option Value} {base : Heap}
theorem scRef : FnScope ["house", "told", "e"] ["house"] (defScope sRef) := ⟨rfl, rfl, rfl, by decide +kernel, rfl, by decide +kernel, by decide +kernel⟩
def spRef (C : Addr) : Sp := fun vs H Q _ => ∃ (p : Addr) (r : Nat) (D : List Pr) (own : List Addr), vs = [.ref p] ∧ HouseAt C H p r D own ∧ 10 < D.length ∧ ∀ (t : Addr) (H' : Hp), Same H H' → H' t = some (.tup [.int D.length, .bl true, .bl true, .bl false]) → Q (.ref t) H'
theorem ok_ref {f C CT CE CB CR fI fA : Addr} {fd fdA : FuncData} (F : Fun K "_law_refused" "_law_refused" sRef f fd) (T : Bi mg) (e : Err K mg "TooLarge" "size" CT fI) (es : Errs K mg CT CE CB CR) (GA : FnOk P w K mg base (L2.CX P w) 3 fA fdA ["house"] (spAop C CT)) (atA : mg "all_openings" = some (.ref fA)) (kA : PySem.W.keepIn K (.ref fA) = true) (bA : Binds K fdA ["house"] []) : FnOk P w K mg base CX0 5 f fd ["house"] (spRef C) := by
  refine F.ok scRef (fun vs H Q E h => ?_) (fun cdv A outer s H vs Q E hr h => ?_)
  · obtain ⟨p, r, D, own, rfl, _⟩ := h
    rfl
  · obtain ⟨p, r, D, own, rfl, hh, d10, ret⟩ := h
    have hr1 : Room 3 (A.deeper (envOfC (Str.ofString "_law_refused") (defScope sRef) s.heap.objs.size f cdv)) := hr.mono (by decide)
    refine ⟨_, pss_cons (ps_set (i := 1) scRef.nd rfl (Or.inl rfl) pe_non)
      (pss_cons (ps_try_as (i := 2) (c := .ref CT) (tb := fun W => tDrop (tCallS (spAop C CT) (WE W) (tCons (tVar 0) tNil))) (ts := tAskE K CT CE CB CR) (Wout := fun _ _ _ _ => False) rfl rfl scRef.nd rfl rfl ⟨rfl, by decide, Or.inl e.gC⟩ takes0
          (fun W pn xe tk _ => pss_one (ps_expr (by exact (pe_callS GA hr1 rfl atA kA bA (fun σ => passAt tk σ) (by exact (pa_cons (pv 0) pa_nil))))))
          (fun a oe cls d pn hz hf => pss_one (ps_set (i := 1) scRef.nd rfl (Or.inl rfl) (by
            exact (pe_tup (pa_cons (pe_xf e.xf e.noF hz hf (pv 2)) (pa_cons (pe_callB (call_isX hz hf) (by rfl) T.isinstance (by decide +kernel) (pa_cons (pv 2) (pa_cons (pe_glob (v := .ref CE) (by rfl) es.gE rfl) pa_nil))) (pa_cons (pe_callB (call_isX hz hf) (by rfl) T.isinstance (by decide +kernel) (pa_cons (pv 2) (pa_cons (pe_bltn (v := .ty "ValueError") (by rfl) es.nV (by decide +kernel) rfl) pa_nil))) (pa_cons (pe_callB (call_isXT hz hf) (by rfl) T.isinstance (by decide +kernel) (pa_cons (pv 2) (pa_cons (pe_tup (pa_cons (pe_glob (v := .ref CB) (by rfl) es.gB rfl) (pa_cons (pe_glob (v := .ref CR) (by rfl) es.gR rfl) pa_nil))) pa_nil))) pa_nil)))))))))
      (pss_one (ps_ret (pv 1)))), ?_⟩
    walk_at "rd"
    refine ⟨_, rfl, p, r, D, own, rfl, hh, fun _ d H' s1 hd => ?_, fun c => absurd c (by omega)⟩
    refine ⟨true, e.te, fun _ a na => ?_, fun z => nomatch z⟩
    unfold tAskE
    have isx : ∀ {Hx : Hp} {Q' : VK} {c : V} {cv : Value}, Hx d = some (.xd [("size", V.int D.length)]) → (∀ u, RelV c u → u = cv) → PySem.W.kitOne K (.ref CT) cv = some true → Q' (.bl true) Hx → rIsX K a (.ref CT) (some d) [.ref a, c] Hx Q' := fun {Hx Q' c cv} h1 h2 h3 q => ⟨CT, d, _, c, cv, true, rfl, rfl, rfl, h1, ⟨_, _, _, _, e⟩, h2, h3, q⟩
    refine ⟨_, rfl, rfl, rfl, d, _, V.int D.length, rfl, hd, (by simp [List.lookup]), ?_⟩
    walk_at "rd"
    refine isx (c := .ref CE) (cv := .ref CE) hd (fun u h => h) es.isE ?_
    refine isx (c := .ty "ValueError") (cv := .type "ValueError") hd (fun u h => h) es.isV ⟨by decide, fun tp ntp => ?_⟩
    have t1 := same_upd (o := HO.tup [V.ref CB, V.ref CR]) ntp
    refine ⟨CT, d, tp, _, CB, CR, false, rfl, rfl, rfl, t1 _ _ hd, ⟨_, _, _, _, e⟩, upd_same, es.noB, by decide, fun t nt => ?_⟩
    exact ret t _ (s1.trans (t1.trans (same_upd nt))) upd_same
end

abbrev sFew : Stmt := topS 20
abbrev sOat : Stmt := topS 22
abbrev sAlr : Stmt := topS 24
abbrev sCd : Stmt := topS 10
abbrev sHcor : Stmt := inClass sHouse 7
theorem same_ok {n : Nat} {H : Hp} {x y : V} {Q : VK} {E : XK} (h : Sm H n x y) (q : Q (.bl true) H) : spSame n [x, y] H Q E := ⟨x, y, rfl, h, q⟩
theorem PL.sm {H : Hp} {x y : Addr} {us vs : List V} {E : List Pr} (hx : H x = some (.lst us)) (hy : H y = some (.lst vs)) (pu : PL H us E) (pv : PL H vs E) (hl : E.length ≤ 100000) (n : Nat) : Sm H (n + 2) (.ref x) (.ref y) := by
  refine .inr ⟨x, y, _, _, rfl, rfl, .inl ⟨hx, hy⟩, ?_, by rw [pu.len]; exact hl⟩
  clear hx hy hl
  induction pu generalizing vs with
  | nil => cases pv; exact Paired.nil
  | cons r _ ih =>
    cases pv with
    | cons r2 t2 =>
      obtain ⟨t, rfl, e1⟩ := r
      obtain ⟨t', rfl, e2⟩ := r2
      exact Paired.cons (.inr ⟨t, t', _, _, rfl, rfl, .inr ⟨e1, e2⟩, .cons (Sm.flat rfl) (.cons (Sm.flat rfl) .nil), (by show 2 ≤ 100000; decide)⟩) (ih t2)
theorem cut_drop (xs : List V) (k : Nat) : cutV xs (some ((k : Nat) : Int)) none = xs.drop k := by
  unfold cutV
  rw [show HT.sIx xs.length 0 (some ((k : Nat) : Int)) = min k xs.length from HT.sIx_nat xs.length 0 k, HT.sIx_none]
  by_cases h : k ≤ xs.length
  · rw [Nat.min_eq_left h]
    refine List.take_of_length_le ?_
    rw [List.length_drop]
    exact Nat.le_refl _
  · rw [Nat.min_eq_right (by omega), List.drop_length, List.drop_eq_nil_of_le (by omega)]
    exact List.take_nil
theorem cut_take (xs : List V) (k : Nat) : cutV xs none (some ((k : Nat) : Int)) = xs.take k := by
  unfold cutV
  rw [show HT.sIx xs.length xs.length (some ((k : Nat) : Int)) = min k xs.length from HT.sIx_nat xs.length xs.length k, HT.sIx_none, List.drop_zero, Nat.sub_zero]
  by_cases h : k ≤ xs.length
  · rw [Nat.min_eq_left h]
  · rw [Nat.min_eq_right (by omega), List.take_length, List.take_of_length_le (by omega)]
section
variable {P : Program} {w : World} {K : PySem.W.Frag} {mg : Str → Option Value} {base : Heap}
theorem scFew : FnScope ["doors", "most", "number", "turn"] ["doors", "most", "number"] (defScope sFew) := ⟨rfl, rfl, rfl, by decide +kernel, rfl, by decide +kernel, by decide +kernel⟩
def spFew (K : PySem.W.Frag) : Sp := fun vs H Q _ => ∃ (l : Addr) (us : List V) (D : List Pr) (m x : Int) (r : Nat), vs = [.ref l, .int m, .int x] ∧ H l = some (.lst us) ∧ PL H us D ∧ Drs r D ∧ r ≤ 12 ∧ 0 ≤ m ∧ m ≤ 100 ∧
  ∀ (E : List Pr) (ws : List V) (t : Addr) (H' : Hp), Drs r E → Same H H' → H t = none → H' t = some (.lst ws) → PL H' ws E → Q (.ref t) H'
theorem ok_few {f : Addr} {fd : FuncData} (F : Fun K "_law_fewer" "_law_fewer" sFew f fd) (T : Bi mg) : FnOk P w K mg base CX0 1 f fd ["doors", "most", "number"] (spFew K) := by
  refine F.ok scFew (fun vs H Q E h => ?_) (fun cdv A outer s H vs Q E hr h => ?_)
  · obtain ⟨l, us, D, m, x, r, rfl, _⟩ := h
    rfl
  · obtain ⟨l, us, D, m, x, r, rfl, hl, pl, drs, r12, m0, m100, ret⟩ := h
    refine ⟨_, (pss_cons (ps_set (i := 3) scFew.nd rfl (Or.inl rfl) pe_int)
      (pss_cons (ps_if (pt_cmpR op_gt (pe_callB call_len_seq (by rfl) T.len (by decide +kernel) (pa_cons (pv 0) pa_nil)) pe_int (nomark _))
      (pss_one (ps_set (i := 3) scFew.nd rfl (Or.inl rfl) (pe_op op_mod (pe_callTy cr_intI (by rfl) T.int (by decide +kernel) (pa_cons (pv 2) pa_nil)) (pe_callB call_len_seq (by rfl) T.len (by decide +kernel) (pa_cons (pv 0) pa_nil)))))
      pss_nil)
      (pss_one (ps_ret (pe_callB cr_sortedPO (by rfl) T.sorted (by decide +kernel) (pa_cons (pe_slice sl_list (pe_op op_cat (pe_slice sl_list (pv 0) (po_some (pv 3)) po_none) (pe_slice sl_list (pv 0) po_none (po_some (pv 3)))) po_none (po_some (pv 1))) pa_nil)))))), ?_⟩
    walk_at "rd"
    obtain ⟨kD, kI⟩ := pl.toK
    have ul : us.length = D.length := pl.len
    have dl := drs.len r12
    obtain ⟨mm, rfl⟩ : ∃ mm : Nat, m = mm := ⟨m.toNat, (Int.toNat_of_nonneg m0).symm⟩
    have fin : ∀ (tn : Nat) (H' : Hp) (a : Addr), Same H H' → H' a = some (.lst (us.drop tn ++ us.take tn)) → ∀ p, H' p = none → rSortedPO K [V.ref p] (upd H' p (HO.lst ((us.drop tn ++ us.take tn).take mm))) Q := fun tn H' a s1 ha p np => by
      have pmz : (us.drop tn ++ us.take tn).Perm us := by
        have := List.perm_append_comm (l₁ := us.drop tn) (l₂ := us.take tn)
        rw [List.take_append_drop] at this
        exact this
      have sub : ((us.drop tn ++ us.take tn).take mm).Sublist (us.drop tn ++ us.take tn) := List.take_sublist _ _
      have s2 := s1.trans (same_upd (o := HO.lst ((us.drop tn ++ us.take tn).take mm)) np)
      have hz : upd H' p (HO.lst ((us.drop tn ++ us.take tn).take mm)) p = some (.lst ((us.drop tn ++ us.take tn).take mm)) := upd_same
      generalize upd H' p (HO.lst ((us.drop tn ++ us.take tn).take mm)) = H2 at s2 hz ⊢
      have inU : ∀ v ∈ (us.drop tn ++ us.take tn).take mm, v ∈ us := fun v hv => pmz.mem_iff.mp (sub.subset hv)
      have isP : ∀ v ∈ (us.drop tn ++ us.take tn).take mm, IsP H2 v (kH H v) := fun v hv => (kI v (inU v hv)).kt (KT.same s2)
      refine ⟨p, _, kH H, rfl, SqL.of hz, isP, fun ys t so st nt => ?_⟩
      have pmy := st.perm
      have hy : ∀ v ∈ ys, IsP H2 v (kH H v) := fun v hv => isP v (pmy.mem_iff.mp hv)
      have nd : (ys.map (kH H)).Nodup := by
        refine (pmy.map _).nodup_iff.mpr ?_
        refine List.Pairwise.sublist (sub.map _) ?_
        refine (pmz.map (kH H)).nodup_iff.mpr ?_
        rw [← kD]
        exact drs.asc.nodup
      have hyP : PL H2 ys (ys.map (kH H)) := by
        have e : ∀ v ∈ ys, kH H2 v = kH H v := fun v hv => (hy v hv).k
        have := PL.ofK (H := H2) (vs := ys) fun v hv => by rw [e v hv]; exact hy v hv
        rw [List.map_congr_left e] at this
        exact this
      refine ret (ys.map (kH H)) ys t _ ⟨srtd_asc nd so, fun d hd => ?_⟩ (s2.trans (same_upd nt)) (s2.free nt) upd_same (hyP.kt (KT.new nt))
      refine drs.ok d ?_
      rw [kD]
      obtain ⟨v, hv, rfl⟩ := List.mem_map.mp hd
      exact List.mem_map.mpr ⟨v, inU v (pmy.mem_iff.mp hv), rfl⟩
    have cat : ∀ (tn : Nat), ∀ (p : Addr), H p = none → ∀ p1, upd H p (HO.lst (us.drop tn)) p1 = none → rCat (V.ref p) (V.ref p1) (upd (upd H p (HO.lst (us.drop tn))) p1 (HO.lst (us.take tn))) fun x H1 => ∃ a, x = V.ref a ∧ ∃ x, SqL K H1 a x ∧ ∀ (p : Addr), H1 p = none → rSortedPO K [V.ref p] (upd H1 p (HO.lst (cutV x none (some (mm : Int))))) Q := fun tn p np p1 np1 => by
      have s1 := (same_upd (o := HO.lst (us.drop tn)) np).trans (same_upd (o := HO.lst (us.take tn)) np1)
      refine ⟨p, p1, _, _, rfl, rfl, same_upd np1 _ _ upd_same, upd_same, Nat.le_of_lt (len_big (by rw [List.length_drop, List.length_take]; omega)), fun c nc => ⟨c, rfl, _, SqL.of upd_same, fun z nz => ?_⟩⟩
      rw [cut_take]
      exact fin tn _ c (s1.trans (same_upd nc)) upd_same z nz
    refine ⟨us, .inl (SqL.of hl), ?_⟩
    by_cases z : us = []
    · rw [if_neg (show ¬ (0 : Int) < (us.length : Int) by rw [z]; decide)]
      refine ⟨us, SqL.of hl, fun p np => ?_⟩
      rw [show (some (0 : Int)) = some ((0 : Nat) : Int) from rfl, cut_drop]
      refine ⟨us, SqL.of (same_upd np _ _ hl), fun p1 np1 => ?_⟩
      rw [cut_take]
      exact cat 0 p np p1 np1
    · have up := List.length_pos_iff.mpr z
      rw [if_pos (show (0 : Int) < (us.length : Int) by omega)]
      have q0 := Int.emod_nonneg x (show (us.length : Int) ≠ 0 by omega)
      obtain ⟨tn, et⟩ : ∃ tn : Nat, x % (us.length : Int) = tn := ⟨(x % (us.length : Int)).toNat, (Int.toNat_of_nonneg q0).symm⟩
      refine ⟨us, .inl (SqL.of hl), by omega, us, SqL.of hl, fun p np => ?_⟩
      rw [et, cut_drop]
      refine ⟨us, SqL.of (same_upd np _ _ hl), fun p1 np1 => ?_⟩
      rw [cut_take]
      exact cat tn p np p1 np1
theorem scOat : FnScope ["doors", "k", "opening", "rest", "door"] ["doors", "k"] (defScope sOat) := ⟨rfl, rfl, rfl, by decide +kernel, rfl, by decide +kernel, by decide +kernel⟩
def spOat : Sp := fun vs H Q _ => ∃ (l : Addr) (us : List V) (D : List Pr) (k : Nat), vs = [.ref l, .int k] ∧ H l = some (.lst us) ∧ PL H us D ∧ D.length ≤ 100 ∧
  ∀ (ws : List V) (t : Addr) (H' : Hp), Same H H' → H t = none → H' t = some (.lst ws) → PL H' ws (opAt D k) → Q (.ref t) H'
theorem ok_oat {f : Addr} {fd : FuncData} (F : Fun K "_law_opening_at" "_law_opening_at" sOat f fd) (T : Bi mg) : FnOk P w K mg base CX0 1 f fd ["doors", "k"] spOat := by
  refine F.ok scOat (fun vs H Q E h => ?_) (fun cdv A outer s H vs Q E hr h => ?_)
  · obtain ⟨l, us, D, k, rfl, _⟩ := h
    rfl
  · obtain ⟨l, us, D, k, rfl, hl, pl, d100, ret⟩ := h
    refine ⟨_, (pss_cons (ps_set (i := 2) scOat.nd rfl (Or.inl rfl) (pe_lst pa_nil))
      (pss_cons (ps_set (i := 3) scOat.nd rfl (Or.inl rfl) (pe_callTy cr_intI (by rfl) T.int (by decide +kernel) (pa_cons (pv 1) pa_nil)))
      (pss_cons (ps_for PassesOwn.never rfl (pi_list (pe_revL (pv 0))) (pg_name (i := 4) scOat.nd rfl (Or.inl rfl))
      (pss_cons (ps_if (pt_cmpR op_eqI (pe_op op_mod (pe_callTy cr_intI (by rfl) T.int (by decide +kernel) (pa_cons (pv 3) pa_nil)) pe_int) pe_int (nomark _))
        (pss_one (ps_set (i := 2) scOat.nd rfl (Or.inl rfl) (pe_op op_cat (pe_lst (pa_cons (pv 4) pa_nil)) (pv 2))))
        pss_nil)
        (pss_one (ps_set (i := 3) scOat.nd rfl (Or.inl rfl) (pe_op op_fdiv (pv 3) pe_int)))))
      (pss_one (ps_ret (pv 2)))))), ?_⟩
    walk_at "rd"
    refine ⟨Nat.zero_le _, fun e ne => ?_⟩
    have s1 := same_upd (o := HO.lst []) ne
    have he : upd H e (HO.lst []) e = some (.lst []) := upd_same
    generalize upd H e (HO.lst []) = H1 at s1 he ⊢
    refine for_iterW ?_
    unfold tRevL
    walk_at "rd"
    have ul : us.length = D.length := pl.len
    refine ⟨_, SqL.of (s1 _ _ hl), fun rv nrv => ?_⟩
    have s2 := s1.trans (same_upd (o := HO.lst us.reverse) nrv)
    have e0 : H e = none := ne
    have hrv : upd H1 rv (HO.lst us.reverse) rv = some (.lst us.reverse) := upd_same
    have he2 := same_upd (o := HO.lst us.reverse) nrv _ _ he
    have rv0 : H rv = none := s1.free nrv
    generalize upd H1 rv (HO.lst us.reverse) = H2 at s2 hrv he2 ⊢
    have plr : PL H us.reverse D.reverse := by
      have : ∀ {us : List V} {D : List Pr}, PL H us D → PL H us.reverse D.reverse := fun {us D} h => by
        induction h with
        | nil => exact Paired.nil
        | cons r t ih => rw [List.reverse_cons, List.reverse_cons]; exact PL.snoc ih r
      exact this pl
    obtain ⟨Pv, hPv⟩ : ∃ Pv : Nat → L2.St → Hp → Prop, Pv = (fun i σ H' => ∃ (o : Addr) (ws : List V) (v4 : Option V), σ = [some (.ref l), some (.int k), some (.ref o), some (.int ((k / 2 ^ i : Nat) : Int)), v4] ∧ Same H H' ∧ H' rv = some (.lst us.reverse) ∧ H o = none ∧ H' o = some (.lst ws) ∧ PL H' ws (opR (D.reverse.take i) k)) := ⟨_, rfl⟩
    refine ⟨⟨_, SqL.of hrv⟩, for_list (K := K) (a := rv) (xs := us.reverse) Pv (by rw [hPv]; exact ⟨e, [], none, by rw [Nat.pow_zero, Nat.div_one], s2, hrv, e0, he2, PL.nil0 _⟩) (fun i σ H' _ pv => by rw [hPv] at pv; obtain ⟨_, _, _, _, _, h, _⟩ := pv; exact SqL.of h) (fun i v σ H3 gv pv => ?_) (fun σ H3 pv => ?_)⟩
    · have nxt : ∀ (o : Addr) (ws : List V) (v4 : Option V) (H' : Hp), Same H H' → H' rv = some (.lst us.reverse) → H o = none → H' o = some (.lst ws) → PL H' ws (opR (D.reverse.take (i + 1)) k) → Pv (i + 1) [some (.ref l), some (.int k), some (.ref o), some (.int ((k / 2 ^ (i + 1) : Nat) : Int)), v4] H' := fun o ws v4 H' h1 h2 h3 h4 h5 => by
        rw [hPv]
        exact ⟨o, ws, v4, rfl, h1, h2, h3, h4, h5⟩
      rw [hPv] at pv
      obtain ⟨o, ws, v4, rfl, s3, hrv3, o0, ho, pw⟩ := pv
      obtain ⟨d, gd, td, rfl, htd⟩ := plr.get gv
      have il : i < D.reverse.length := (List.getElem?_eq_some_iff.mp gd).1
      have tl : (D.reverse.take i).length = i := by rw [List.length_take]; omega
      have wl : ws.length ≤ 100 := by
        rw [pw.len]
        have := opR_len (D.reverse.take i) k
        rw [List.length_reverse] at il
        omega
      rw [List.take_add_one, gd] at nxt
      have nxt : ∀ (o : Addr) (ws : List V) (v4 : Option V) (H' : Hp), Same H H' → H' rv = some (.lst us.reverse) → H o = none → H' o = some (.lst ws) → PL H' ws (opR (D.reverse.take i ++ [d]) k) → Pv (i + 1) [some (.ref l), some (.int k), some (.ref o), some (.int ((k / 2 ^ (i + 1) : Nat) : Int)), v4] H' := nxt
      rw [opR_snoc, tl] at nxt
      have e2 : ((k / 2 ^ i : Nat) : Int) / 2 = ((k / 2 ^ (i + 1) : Nat) : Int) := by
        rw [Nat.pow_succ, ← Nat.div_div_eq_div_mul]
        omega
      walk_at "rd"
      by_cases c : k / 2 ^ i % 2 = 1
      · rw [if_pos (show ((k / 2 ^ i : Nat) : Int) % 2 = 1 by omega)]
        rw [if_pos c] at nxt
        refine ⟨by decide, by decide, fun b nb => ?_⟩
        have u1 := same_upd (o := HO.lst [V.ref td]) nb
        refine ⟨b, o, [.ref td], ws, rfl, rfl, upd_same, u1 _ _ ho, Nat.le_of_lt (len_big (by show 1 + ws.length ≤ _; omega)), fun n nn => ⟨⟨by decide, by decide⟩, ?_⟩⟩
        have u2 := u1.trans (same_upd (o := HO.lst ([V.ref td] ++ ws)) nn)
        rw [e2]
        exact nxt n _ _ _ (s3.trans u2) (u2 _ _ hrv3) ((s3.trans u1).free nn) upd_same (.cons ⟨td, rfl, (s3.trans u2) _ _ htd⟩ (pw.kt (KT.same u2)))
      · rw [if_neg (show ¬ ((k / 2 ^ i : Nat) : Int) % 2 = 1 by omega)]
        rw [if_neg c, List.nil_append] at nxt
        refine ⟨by decide, ⟨by decide, by decide⟩, ?_⟩
        rw [e2]
        exact nxt o ws _ H3 s3 hrv3 o0 ho pw
    · rw [hPv] at pv
      obtain ⟨o, ws, v4, rfl, s3, hrv3, o0, ho, pw⟩ := pv
      rw [List.length_reverse, ul, ← List.length_reverse (as := D), List.take_length] at pw
      walk_at "rd"
      exact ret ws o H3 s3 o0 ho pw
theorem scCd : FnScope ["rooms", "room"] ["rooms"] (defScope sCd) := ⟨rfl, rfl, rfl, by decide +kernel, rfl, by decide +kernel, by decide +kernel⟩
def cdL (r : Nat) : List Pr := (List.range (r - 1)).map fun i : Nat => (((i : Int), (i : Int) + 1) : Pr)
def spCd : Sp := fun vs H Q _ => ∃ (r : Nat), vs = [.int r] ∧ r ≤ 60 ∧ ∀ (ws : List V) (t : Addr) (H' : Hp), Same H H' → H t = none → H' t = some (.lst ws) → PL H' ws (cdL r) → Q (.ref t) H'
theorem ok_cd {f : Addr} {fd : FuncData} (F : Fun K "corridor_doors" "corridor_doors" sCd f fd) (T : Bi mg) : FnOk P w K mg base CX0 1 f fd ["rooms"] spCd := by
  refine F.ok scCd (fun vs H Q E h => ?_) (fun cdv A outer s H vs Q E hr h => ?_)
  · obtain ⟨r, rfl, _⟩ := h
    rfl
  · obtain ⟨r, rfl, r60, ret⟩ := h
    refine ⟨_, (pss_one (ps_ret (pe_lc (own := [("room", 1)]) (te := tTup (tCons (tVar 1) (tCons (tOp (rI0 fun i j => V.int (i + j)) (tVar 1) (tC (.int 1))) tNil))) (by rfl) scCd.nd (pi_range1 (by rfl) T.range (pa_cons (pe_op op_sub (pv 0) pe_int) pa_nil)) (blkOk_by (N := ["rooms", "room"]) (sc := defScope sCd) (by decide +kernel)) (fun _ _ _ _ _ => pg_name (i := 1) scCd.nd rfl (Or.inl rfl)) (fun _ _ _ _ _ => pts_nil) (fun _ _ _ _ _ => (pe_tup (pa_cons (pv 1) (pa_cons (pe_op op_add (pv 1) pe_int) pa_nil))))))), ?_⟩
    walk_at "rd"
    refine ⟨_, rfl, r, 1, rfl, rfl, (r : Int) - 1, rfl, by omega, by omega, fun c nc => ?_⟩
    obtain ⟨Pv, hPv⟩ : ∃ Pv : Nat → Hp → Prop, Pv = (fun j Hx => ∃ ws, Same H Hx ∧ Hx c = some (.lst ws) ∧ PL Hx ws ((List.range j).map fun i : Nat => (((i : Int), (i : Int) + 1) : Pr))) := ⟨_, rfl⟩
    refine lc_range (lo := 0) (n := ((r : Int) - 1).toNat) Pv (by rw [hPv]; exact ⟨[], same_upd nc, upd_same, PL.nil0 _⟩) (fun j Hx hj pv => ?_) (fun Hx pv => ?_)
    · rw [hPv] at pv
      obtain ⟨ws, sx, hc, pw⟩ := pv
      have wl : ws.length = j := by rw [pw.len, List.length_map, List.length_range]
      simp only [wipe]
      walk_at "rd"
      refine ⟨(by show 2 ≤ sizeLine; decide), fun t nt => ?_⟩
      have nct : c ≠ t := ne_of_none hc nt
      refine ⟨ws, by rw [upd_ne nct]; exact hc, len_big (by omega), ?_⟩
      rw [hPv]
      refine ⟨ws ++ [.ref t], same_ch (sx.trans (same_upd nt)) nc, upd_same, ?_⟩
      rw [List.range_succ, List.map_append]
      refine PL.snoc ((pw.kt (KT.new nt)).kt (KT.lst (by rw [upd_ne nct]; exact hc))) ⟨t, rfl, ?_⟩
      rw [upd_ne nct.symm, upd_same, Int.zero_add]
    · rw [hPv] at pv
      obtain ⟨ws, sx, hc, pw⟩ := pv
      refine ret ws c Hx sx nc hc ?_
      rw [show ((r : Int) - 1).toNat = r - 1 by omega] at pw
      exact pw
end

theorem mm2_same {r : Nat} {D : List Pr} (h : Drs r D) : D.map mm2 = D := by
  refine (List.map_congr_left fun d hd => ?_).trans (List.map_id _)
  have := (h.ok d hd).2.1
  unfold mm2
  rw [if_neg (by omega), if_pos (by omega)]
  rfl
theorem cdL_drs {r : Nat} : Drs r (cdL r) := by
  unfold cdL
  refine ⟨List.pairwise_map.mpr (List.Pairwise.imp (fun {a b} (h : a < b) => ?_) List.pairwise_lt_range), fun d hd => ?_⟩
  · unfold lt2
    simp only
    omega
  · obtain ⟨i, hi, rfl⟩ := List.mem_map.mp hd
    have := List.mem_range.mp hi
    simp only
    omega
section
variable {P : Program} {w : World} {K : PySem.W.Frag} {mg : Str → Option Value} {base : Heap}
theorem use_init {C x dx l : Addr} {r : Nat} {us : List V} {D G : List Pr} {H : Hp} {Q : VK} {E : XK} (nx : H x = none) (ndx : H dx = none) (hl : H l = some (.lst us)) (pl : PL H us D) (pm : (D.map mm2).Perm G) (drs : Drs r G) (r1 : 1 ≤ r) (r12 : r ≤ 12)
    (q : ∀ own H2, HouseAt C H2 x r G own → Same H H2 → (∀ b ∈ own, H b = none) → Q .non H2) : spHinit C [.ref x, .int r, .ref l] (upd (upd H dx (.own x)) x (.ins C dx [])) Q E := by
  have s0 : Same H (upd (upd H dx (.own x)) x (.ins C dx [])) := fun b o e => by
    rw [upd_ne (ne_of_none e nx), upd_ne (ne_of_none e ndx)]
    exact e
  refine ⟨x, dx, l, r, us, D, D.map mm2, rfl, upd_same, s0 _ _ hl, pl.kt (KT.same s0), rfl, pm.nodup_iff.mpr drs.asc.nodup, fun d hd => drs.ok d (pm.mem_iff.mp hd), r1, r12, fun D' own H' mem hh keep free => ?_⟩
  have e : D' = G := asc_uniq hh.ok.asc drs.asc fun d => (mem d).trans pm.mem_iff
  subst e
  refine q own H' hh (fun b o e => keep b o (s0 b o e) (ne_of_none e nx)) fun b hb => ?_
  by_cases e : b = x
  · rw [e]
    exact nx
  · exact s0.free (free b hb e)
theorem scHcor : FnScope ["rooms"] ["rooms"] (defScope sHcor) := ⟨rfl, rfl, rfl, by decide +kernel, rfl, by decide +kernel, by decide +kernel⟩
def spHcor (C : Addr) : Sp := fun vs H Q _ => ∃ (r : Nat), vs = [.int r] ∧ 1 ≤ r ∧ r ≤ 12 ∧ ∀ x own H', HouseAt C H' x r (cdL r) own → Same H H' → Q (.ref x) H'
theorem ok_hcor {f C fR fi fc : Addr} {fd fdR fdi fdc : FuncData} (F : Fun K "corridor" "House.corridor" sHcor f fd) (T : Bi mg) (U : Hs K mg C) (M : Mk K C fi) (Gi : FnOk P w K mg base CX0 2 fi fdi ["self", "rooms", "doors"] (spHinit C)) (bi : Binds K fdi ["self", "rooms", "doors"] []) (d_check_room_count : Df P w K mg base "check_room_count" ["rooms"] 1 spRoom fR fdR) (d_corridor_doors : Df P w K mg base "corridor_doors" ["rooms"] 1 spCd fc fdc) : FnOk P w K mg base CX0 4 f fd ["rooms"] (spHcor C) := by
  refine F.ok scHcor (fun vs H Q E h => ?_) (fun cdv A outer s H vs Q E hr h => ?_)
  · obtain ⟨r, rfl, _⟩ := h
    rfl
  · obtain ⟨r, rfl, r1, r12, q⟩ := h
    refine ⟨_, (pss_cons (ps_expr (pe_call d_check_room_count.ok (hr.mono (by decide)) (by rfl) d_check_room_count.at_ d_check_room_count.kp d_check_room_count.b .nil pass0 (pa_cons (pv 0) pa_nil)))
      (pss_one (ps_ret (pe_make M Gi hr (by rfl) U.mgC bi .nil pass0 (pa_cons (pv 0) (pa_cons (pe_call d_corridor_doors.ok (hr.mono (by decide)) (by rfl) d_corridor_doors.at_ d_corridor_doors.kp d_corridor_doors.b .nil pass0 (pa_cons (pv 0) pa_nil)) pa_nil)))))), ?_⟩
    walk_at "rd"
    refine ⟨r, rfl, by omega, by omega, r, rfl, by omega, fun ws t H1 s1 nt ht pw => ?_⟩
    intro x dx nx ndx nex
    exact use_init nx ndx ht pw (by rw [mm2_same cdL_drs]) cdL_drs r1 r12 fun own H2 hh s2 _ => ⟨rfl, q x own H2 hh (s1.trans s2)⟩
theorem scAlr : FnScope ["house", "doors", "number", "many", "door", "told", "k", "again"] ["house", "doors", "number"] (defScope sAlr) := ⟨rfl, rfl, rfl, by decide +kernel, rfl, by decide +kernel, by decide +kernel⟩
def spAlr (C : Addr) : Sp := fun vs H Q _ => ∃ (p l : Addr) (r : Nat) (us : List V) (D : List Pr) (own : List Addr) (x : Int), vs = [.ref p, .ref l, .int x] ∧ HouseAt C H p r D own ∧ H l = some (.lst us) ∧ PL H us D ∧ D.length ≤ 10 ∧ ∀ H', Same H H' → Q (.bl true) H'
theorem ok_alr {f C CT fA f1 f2 : Addr} {fd fdA fd1 fd2 : FuncData} (F : Fun K "_law_all_right" "_law_all_right" sAlr f fd) (T : Bi mg) (GA : FnOk P w K mg base (L2.CX P w) 3 fA fdA ["house"] (spAop C CT)) (atA : mg "all_openings" = some (.ref fA)) (kA : PySem.W.keepIn K (.ref fA) = true) (bA : Binds K fdA ["house"] [])
    (d__law_same : Df P w K mg base "_law_same" ["got", "due"] 3 (spSame 2) f1 fd1) (d__law_opening_at : Df P w K mg base "_law_opening_at" ["doors", "k"] 1 spOat f2 fd2) : FnOk P w K mg base CX0 5 f fd ["house", "doors", "number"] (spAlr C) := by
  refine F.ok scAlr (fun vs H Q E h => ?_) (fun cdv A outer s H vs Q E hr h => ?_)
  · obtain ⟨p, l, r, us, D, own, x, rfl, _⟩ := h
    rfl
  · obtain ⟨p, l, r, us, D, own, x, rfl, hh, hl, pl, d10, ret⟩ := h
    have hr1 : Room 3 (A.deeper (envOfC (Str.ofString "_law_all_right") (defScope sAlr) s.heap.objs.size f cdv)) := hr.mono (by decide)
    refine ⟨_, (pss_cons (ps_set (i := 3) scAlr.nd rfl (Or.inl rfl) pe_int)
      (pss_cons (ps_for PassesOwn.never rfl (pi_list (pv 1)) (pg_name (i := 4) scAlr.nd rfl (Or.inl rfl))
      (pss_one (ps_set (i := 3) scAlr.nd rfl (Or.inl rfl) (pe_op op_mul (pv 3) pe_int))))
      (pss_cons (ps_set (i := 5) scAlr.nd rfl (Or.inl rfl) (pe_callS GA hr1 rfl atA kA bA (fun σ => passAt takes0 σ) (by exact (pa_cons (pv 0) pa_nil))))
      (pss_cons (ps_if (PW.pt (pw_or (pt_not (pt_val (pe_callB cr_is5 (by rfl) T.isinstance (by decide +kernel) (pa_cons (pv 5) (pa_cons (pe_bltn (v := .ty "list") (by rfl) T.list (by decide +kernel) rfl) pa_nil))))) (pw_or1 (pt_cmpR op_neI (pe_callB call_len_seq (by rfl) T.len (by decide +kernel) (pa_cons (pv 5) pa_nil)) (pv 3) (nomark _)))))
      (pss_one (ps_ret pe_bl))
      pss_nil)
      (pss_cons (ps_for PassesOwn.never rfl (pi_range1 (by rfl) T.range (pa_cons (pv 3) pa_nil)) (pg_name (i := 6) scAlr.nd rfl (Or.inl rfl))
      (pss_one (ps_if (pt_not (pt_val (pe_call d__law_same.ok (hr.mono (by decide)) (by rfl) d__law_same.at_ d__law_same.kp d__law_same.b .nil pass0 (pa_cons (pe_ix ix_list (pv 5) (pv 6) (fun _ _ => rfl)) (pa_cons (pe_call d__law_opening_at.ok (hr.mono (by decide)) (by rfl) d__law_opening_at.at_ d__law_opening_at.kp d__law_opening_at.b .nil pass0 (pa_cons (pv 1) (pa_cons (pv 6) pa_nil))) pa_nil)))))
        (pss_one (ps_ret pe_bl))
        pss_nil)))
      (pss_cons (ps_expr (pe_bm PySem.F.plainAttrs_list PySem.F.slot_list_append PySem.F.type_list_append mt_append (pe_ix ix_list (pv 5) pe_int (fun _ _ => rfl)) (pa_cons (pe_tup (pa_cons pe_int (pa_cons pe_int pa_nil))) pa_nil)))
      (pss_cons (ps_expr (pe_bm0 PySem.F.plainAttrs_list PySem.F.slot_list_clear PySem.F.type_list_clear mt_clear (pe_ix ix_list (pv 5) (pe_op op_sub (pv 3) pe_int) (fun _ _ => rfl))))
      (pss_cons (ps_expr (pe_bm0 PySem.F.plainAttrs_list PySem.F.slot_list_clear PySem.F.type_list_clear mt_clear (pv 5)))
      (pss_cons (ps_set (i := 7) scAlr.nd rfl (Or.inl rfl) (pe_callS GA hr1 rfl atA kA bA (fun σ => passAt takes0 σ) (by exact (pa_cons (pv 0) pa_nil))))
      (pss_cons (ps_if (PW.pt (pw_or (pt_not (pt_val (pe_callB cr_is5 (by rfl) T.isinstance (by decide +kernel) (pa_cons (pv 7) (pa_cons (pe_bltn (v := .ty "list") (by rfl) T.list (by decide +kernel) rfl) pa_nil))))) (pw_or1 (pt_cmpR op_neI (pe_callB call_len_seq (by rfl) T.len (by decide +kernel) (pa_cons (pv 7) pa_nil)) (pv 3) (nomark _)))))
      (pss_one (ps_ret pe_bl))
      pss_nil)
      (pss_cons (ps_for PassesOwn.never rfl (pi_list (pe_lst (pa_cons pe_int (pa_cons (pe_op op_sub (pv 3) pe_int) (pa_cons (pe_op op_mod (pe_callTy cr_intI (by rfl) T.int (by decide +kernel) (pa_cons (pv 2) pa_nil)) (pv 3)) pa_nil))))) (pg_name (i := 6) scAlr.nd rfl (Or.inl rfl))
      (pss_one (ps_if (pt_not (pt_val (pe_call d__law_same.ok (hr.mono (by decide)) (by rfl) d__law_same.at_ d__law_same.kp d__law_same.b .nil pass0 (pa_cons (pe_ix ix_list (pv 7) (pv 6) (fun _ _ => rfl)) (pa_cons (pe_call d__law_opening_at.ok (hr.mono (by decide)) (by rfl) d__law_opening_at.at_ d__law_opening_at.kp d__law_opening_at.b .nil pass0 (pa_cons (pv 1) (pa_cons (pv 6) pa_nil))) pa_nil)))))
        (pss_one (ps_ret pe_bl))
        pss_nil)))
      (pss_one (ps_ret pe_bl))))))))))))), ?_⟩
    walk_at "rd"
    have ul : us.length = D.length := pl.len
    obtain ⟨Pv, hPv⟩ : ∃ Pv : Nat → L2.St → Hp → Prop, Pv = (fun i σ H' => ∃ v4, σ = [some (.ref p), some (.ref l), some (.int x), some (.int ((2 ^ i : Nat) : Int)), v4, none, none, none] ∧ H = H') := ⟨_, rfl⟩
    refine ⟨_, rfl, l, rfl, ⟨_, SqL.of hl⟩, for_list (K := K) (a := l) (xs := us) Pv (by rw [hPv]; exact ⟨none, rfl, rfl⟩) (fun i σ H' _ pv => by rw [hPv] at pv; obtain ⟨_, _, rfl⟩ := pv; exact SqL.of hl) (fun i v σ H' gv pv => ?_) (fun σ H' pv => ?_)⟩
    · rw [hPv] at pv
      obtain ⟨v4, rfl, rfl⟩ := pv
      have il := (List.getElem?_eq_some_iff.mp gv).1
      walk_at "rd"
      refine ⟨.inr (by decide), ?_⟩
      rw [hPv]
      exact ⟨_, by rw [Nat.pow_succ]; rfl, rfl⟩
    rw [hPv] at pv
    obtain ⟨v4, rfl, rfl⟩ := pv
    clear hPv Pv
    rw [ul]
    have p2 : 2 ^ D.length ≤ 1024 := Nat.le_trans (Nat.pow_le_pow_right (by decide) d10) (by decide)
    have p1 : 1 ≤ 2 ^ D.length := Nat.one_le_two_pow
    obtain ⟨M, eM⟩ : ∃ M, 2 ^ D.length = M := ⟨_, rfl⟩
    have geto : ∀ k, k < M → (opsL D)[k]? = some (opAt D k) := fun k hk => opAt_get (by omega)
    have lenO : (opsL D).length = M := by rw [opsL_len]; exact eM
    rw [eM] at p1 p2 ⊢
    clear eM
    have dop : ∀ k, (opAt D k).length ≤ 10 := fun k => by
      have := opR_len D.reverse k
      rw [List.length_reverse] at this
      unfold opAt
      omega
    walk_at "rd"
    refine ⟨_, rfl, p, r, D, own, rfl, hh, fun c => absurd c (by omega), fun _ q vs H1 s1 nq hq pr => ?_⟩
    have vl : vs.length = M := (Paired.length pr).trans lenO
    walk_at "rd"
    refine is5_of (.base (.lst hq)) (by decide) (by decide) ⟨_, rfl, ?_⟩
    rw [if_neg (by decide)]
    refine ⟨vs, .inl (SqL.of hq), ?_⟩
    rw [if_neg (by rw [vl]; simp)]
    obtain ⟨Pv, hPv⟩ : ∃ Pv : Nat → L2.St → Hp → Prop, Pv = (fun j σ H' => ∃ v6, σ = [some (.ref p), some (.ref l), some (.int x), some (.int (M : Int)), v4, some (.ref q), v6, none] ∧ Same H1 H') := ⟨_, rfl⟩
    refine ⟨_, rfl, (M : Int), rfl, by omega, by omega, for_range (lo := 0) (n := (M : Int).toNat) Pv (by rw [hPv]; exact ⟨none, rfl, Same.refl _⟩) (fun j σ H2 hj pv => ?_) (fun σ H2 pv => ?_)⟩
    · rw [hPv] at pv
      obtain ⟨v6, rfl, s2⟩ := pv
      have jM : j < M := by omega
      obtain ⟨o, go, ⟨t, uo, ev, ht, po⟩, _⟩ := lget2' pr (show vs[j]? = some (vs[j]'(by omega)) from List.getElem?_eq_getElem (by omega))
      rw [geto j jM] at go
      have eo := Option.some.inj go
      subst eo
      walk_at "rd"
      refine ⟨_, SqL.of (s2 _ _ hq), .ref t, at_of (j := j) (by omega) (by rw [List.getElem?_eq_getElem (by omega), ev]), ?_⟩
      refine ⟨l, us, D, j, by rw [Int.zero_add], (s1.trans s2) _ _ hl, pl.kt (KT.same (s1.trans s2)), by omega, fun ws t2 H3 s3 nt2 ht2 pw => ?_⟩
      have s13 := s2.trans s3
      refine same_ok (PL.sm (s13 _ _ ht) ht2 (po.kt (KT.same s13)) pw (by have := dop j; omega) 0) ⟨true, rfl, iteF ?_⟩
      rw [hPv]
      exact ⟨_, rfl, s13⟩
    rw [hPv] at pv
    obtain ⟨v6, rfl, s2⟩ := pv
    clear hPv Pv
    have el : ∀ j, j < M → ∃ (t : Addr) (uo : List V), vs[j]? = some (V.ref t) ∧ H1 t = some (.lst uo) ∧ uo.length ≤ 10 ∧ H t = none ∧ t ≠ q := fun j jM => by
      have gv : vs[j]? = some (vs[j]'(by omega)) := List.getElem?_eq_getElem (by omega)
      obtain ⟨o, go, ⟨t, uo, ev, ht, po⟩, t', et, h0, nq⟩ := lget2' pr gv
      rw [geto j jM] at go
      have eo := Option.some.inj go
      subst eo
      rw [ev] at et
      cases et
      rw [ev] at gv
      exact ⟨t, uo, gv, ht, by rw [po.len]; exact dop j, h0, nq⟩
    obtain ⟨t0, u0, g0, h0, l0, n0, q0⟩ := el 0 p1
    obtain ⟨t1, u1, g1, h1, l1, n1, q1⟩ := el (M - 1) (by omega)
    walk_at "rd"
    have hq2 := s2 _ _ hq
    have s02 := s1.trans s2
    refine ⟨_, SqL.of hq2, .ref t0, at_of (j := 0) rfl g0, .inl ⟨rfl, _, SqL.of (s2 _ _ h0)⟩, by decide, fun tp ntp => ⟨t0, rfl, u0, same_upd ntp _ _ (s2 _ _ h0), len_big (by omega), ?_⟩⟩
    have w1 := same_upd (o := HO.tup [V.int 0, V.int 0]) ntp
    have s03 := same_ch (o := HO.lst (u0 ++ [V.ref tp])) (s02.trans w1) n0
    have hq3 : upd (upd H2 tp (HO.tup [V.int 0, V.int 0])) t0 (HO.lst (u0 ++ [V.ref tp])) q = some (.lst vs) := by rw [upd_ne q0.symm]; exact w1 _ _ hq2
    have h13 : ∃ us, upd (upd H2 tp (HO.tup [V.int 0, V.int 0])) t0 (HO.lst (u0 ++ [V.ref tp])) t1 = some (.lst us) := by
      by_cases z : t1 = t0
      · exact ⟨_, by rw [z]; exact upd_same⟩
      · exact ⟨_, by rw [upd_ne z]; exact w1 _ _ (s2 _ _ h1)⟩
    generalize upd (upd H2 tp (HO.tup [V.int 0, V.int 0])) t0 (HO.lst (u0 ++ [V.ref tp])) = H3 at s03 hq3 h13 ⊢
    obtain ⟨u13, h13⟩ := h13
    refine ⟨_, SqL.of hq3, .ref t1, at_of (j := M - 1) (by omega) g1, .inl ⟨rfl, _, SqL.of h13⟩, t1, u13, rfl, rfl, h13, ?_⟩
    have s04 := same_ch (o := HO.lst []) s03 n1
    have hq4 : upd H3 t1 (HO.lst []) q = some (.lst vs) := by rw [upd_ne q1.symm]; exact hq3
    generalize upd H3 t1 (HO.lst []) = H4 at s04 hq4 ⊢
    refine ⟨.inl ⟨rfl, _, SqL.of hq4⟩, q, vs, rfl, rfl, hq4, ?_⟩
    have s05 := same_ch (o := HO.lst []) s04 nq
    generalize upd H4 q (HO.lst []) = H5 at s05 ⊢
    clear hq3 hq4 h13 s03 s04 hq2 g0 g1 h0 h1
    refine ⟨_, rfl, p, r, D, own, rfl, hh.same s05, fun c => absurd c (by omega), fun _ qq vv H6 s6 nqq hqq prr => ?_⟩
    have vvl : vv.length = M := (Paired.length prr).trans lenO
    have s06 := s05.trans s6
    walk_at "rd"
    refine is5_of (.base (.lst hqq)) (by decide) (by decide) ⟨_, rfl, ?_⟩
    rw [if_neg (by decide)]
    refine ⟨vv, .inl (SqL.of hqq), ?_⟩
    rw [if_neg (by rw [vvl]; simp)]
    refine for_iterW ?_
    walk_at "rd"
    have x0 := Int.emod_nonneg x (show (M : Int) ≠ 0 by omega)
    have x1 := Int.emod_lt_of_pos x (show (0 : Int) < (M : Int) by omega)
    refine ⟨by omega, by decide, fun kl nkl => ⟨⟨_, SqL.of upd_same⟩, ?_⟩⟩
    have s67 := same_upd (o := HO.lst [V.int 0, V.int ((M : Int) - 1), V.int (x % (M : Int))]) nkl
    have hkl : upd H6 kl (HO.lst [V.int 0, V.int ((M : Int) - 1), V.int (x % (M : Int))]) kl = some (.lst [V.int 0, V.int ((M : Int) - 1), V.int (x % (M : Int))]) := upd_same
    generalize upd H6 kl (HO.lst [V.int 0, V.int ((M : Int) - 1), V.int (x % (M : Int))]) = H7 at s67 hkl ⊢
    have s07 := s06.trans s67
    obtain ⟨Pv, hPv⟩ : ∃ Pv : Nat → L2.St → Hp → Prop, Pv = (fun j σ H' => ∃ v6, σ = [some (.ref p), some (.ref l), some (.int x), some (.int (M : Int)), v4, some (.ref q), v6, some (.ref qq)] ∧ Same H7 H') := ⟨_, rfl⟩
    refine for_list (K := K) (a := kl) (xs := [V.int 0, V.int ((M : Int) - 1), V.int (x % (M : Int))]) Pv (by rw [hPv]; exact ⟨_, rfl, Same.refl _⟩) (fun i σ H' _ pv => by rw [hPv] at pv; obtain ⟨_, _, sm⟩ := pv; exact SqL.of (sm _ _ hkl)) (fun i v σ H8 gv pv => ?_) (fun σ H8 pv => ?_)
    · rw [hPv] at pv
      obtain ⟨v6, rfl, s78⟩ := pv
      obtain ⟨k, rfl, kM⟩ : ∃ k : Nat, v = V.int k ∧ k < M := by
        have m := List.mem_of_getElem? gv
        simp only [List.mem_cons, List.not_mem_nil, or_false] at m
        rcases m with e | e | e
        · exact ⟨0, e, p1⟩
        · exact ⟨M - 1, by rw [e]; congr 1; omega, by omega⟩
        · exact ⟨(x % (M : Int)).toNat, by rw [e]; congr 1; omega, by omega⟩
      obtain ⟨o, go, ⟨t, uo, ev, ht, po⟩, _⟩ := lget2' prr (show vv[k]? = some (vv[k]'(by omega)) from List.getElem?_eq_getElem (by omega))
      rw [geto k kM] at go
      have eo := Option.some.inj go
      subst eo
      have s68 := s67.trans s78
      have s08 := s06.trans s68
      walk_at "rd"
      refine ⟨_, SqL.of (s68 _ _ hqq), .ref t, at_of (j := k) rfl (by rw [List.getElem?_eq_getElem (by omega), ev]), ?_⟩
      refine ⟨l, us, D, k, rfl, s08 _ _ hl, pl.kt (KT.same s08), by omega, fun ws t2 H9 s9 nt2 ht2 pw => ?_⟩
      have s69 := s68.trans s9
      refine same_ok (PL.sm (s69 _ _ ht) ht2 (po.kt (KT.same s69)) pw (by have := dop k; omega) 0) ⟨true, rfl, iteF ?_⟩
      rw [hPv]
      exact ⟨_, rfl, s78.trans s9⟩
    · rw [hPv] at pv
      obtain ⟨v6, rfl, s78⟩ := pv
      walk_at "rd"
      exact ret H8 (s07.trans s78)
end

abbrev sLaw : Stmt := topS 25
section
variable {P : Program} {w : World} {K : PySem.W.Frag} {mg : Str → Option Value} {base : Heap}
theorem scLaw : FnScope ["script", "n", "m", "rooms", "most", "doors", "told", "house"] ["script"] (defScope sLaw) := ⟨rfl, rfl, rfl, by decide +kernel, rfl, by decide +kernel, by decide +kernel⟩
def spLaw (K : PySem.W.Frag) : Sp := fun vs H Q _ => ∃ (a : Addr) (ns : List Int), vs = [.ref a] ∧ SqL K H a (ns.map V.int) ∧ ns.length ≤ 63 ∧ ∀ H', Q (.bl true) H'
theorem ok_law {f C fi f1 f2 f3 f4 f5 f6 f7 fo pa fs : Addr} {fd fdi fd1 fd2 fd3 fd4 fd5 fd6 fd7 fdo fds : FuncData} (F : Fun K "law" "law" sLaw f fd) (T : Bi mg) (U : Hs K mg C) (M : Mk K C fi) (Gi : FnOk P w K mg base CX0 2 fi fdi ["self", "rooms", "doors"] (spHinit C)) (bi : Binds K fdi ["self", "rooms", "doors"] [])
    (m_doors : Md P w K mg base C "doors" ["self"] 1 (spHdoors C) fo fdo) (sm : Smt K C "corridor" pa fs) (GC : FnOk P w K mg base CX0 4 fs fds ["rooms"] (spHcor C)) (bC : Binds K fds ["rooms"] [])
    (d__law_cell : Df P w K mg base "_law_cell" ["script", "k"] 1 (spCell K) f1 fd1) (d__law_numbers : Df P w K mg base "_law_numbers" ["cell", "count"] 1 (spNum K) f2 fd2) (d__law_doors : Df P w K mg base "_law_doors" ["numbers", "rooms"] 2 (spDrs K) f3 fd3)
    (d__law_fewer : Df P w K mg base "_law_fewer" ["doors", "most", "number"] 1 (spFew K) f4 fd4) (d__law_refused : Df P w K mg base "_law_refused" ["house"] 5 (spRef C) f5 fd5) (d__law_all_right : Df P w K mg base "_law_all_right" ["house", "doors", "number"] 5 (spAlr C) f6 fd6) (d__law_same : Df P w K mg base "_law_same" ["got", "due"] 3 (spSame 2) f7 fd7) : FnOk P w K mg base CX0 6 f fd ["script"] (spLaw K) := by
  refine F.ok scLaw (fun vs H Q E h => ?_) (fun cdv A outer s H vs Q E hr h => ?_)
  · obtain ⟨a, ns, rfl, _⟩ := h
    rfl
  · obtain ⟨a, ss, rfl, hS, _, q⟩ := h
    refine ⟨_, (pss_cons (ps_set (i := 1) scLaw.nd rfl (Or.inl rfl) (pe_call d__law_numbers.ok (hr.mono (by decide)) (by rfl) d__law_numbers.at_ d__law_numbers.kp d__law_numbers.b .nil pass0 (pa_cons (pe_call d__law_cell.ok (hr.mono (by decide)) (by rfl) d__law_cell.at_ d__law_cell.kp d__law_cell.b .nil pass0 (pa_cons (pv 0) (pa_cons pe_int pa_nil))) (pa_cons pe_int pa_nil))))
      (pss_cons (ps_set (i := 2) scLaw.nd rfl (Or.inl rfl) (pe_call d__law_numbers.ok (hr.mono (by decide)) (by rfl) d__law_numbers.at_ d__law_numbers.kp d__law_numbers.b .nil pass0 (pa_cons (pe_call d__law_cell.ok (hr.mono (by decide)) (by rfl) d__law_cell.at_ d__law_cell.kp d__law_cell.b .nil pass0 (pa_cons (pv 0) (pa_cons pe_int pa_nil))) (pa_cons pe_int pa_nil))))
      (pss_cons (ps_set (i := 3) scLaw.nd rfl (Or.inl rfl) (pe_op op_add pe_int (pe_op op_mod (pe_callTy cr_intI (by rfl) T.int (by decide +kernel) (pa_cons (pe_op op_fdiv (pe_ix ix_list (pv 1) pe_int (fun _ _ => rfl)) pe_int) pa_nil)) pe_int)))
      (pss_cons (ps_set (i := 4) scLaw.nd rfl (Or.inl rfl) (pe_ix ix_list (pe_lst (pa_cons pe_int (pa_cons pe_int (pa_cons pe_int (pa_cons pe_int (pa_cons pe_int (pa_cons pe_int (pa_cons pe_int (pa_cons pe_int (pa_cons (pe_op op_add pe_int (pe_op op_mod (pe_callTy cr_intI (by rfl) T.int (by decide +kernel) (pa_cons (pe_ix ix_list (pv 2) pe_int (fun _ _ => rfl)) pa_nil)) pe_int)) (pa_cons pe_int pa_nil))))))))))) (pe_op op_mod (pe_callTy cr_intI (by rfl) T.int (by decide +kernel) (pa_cons (pe_ix ix_list (pv 2) pe_int (fun _ _ => rfl)) pa_nil)) pe_int) (fun _ _ => rfl)))
      (pss_cons (ps_set (i := 5) scLaw.nd rfl (Or.inl rfl) (pe_call d__law_fewer.ok (hr.mono (by decide)) (by rfl) d__law_fewer.at_ d__law_fewer.kp d__law_fewer.b .nil pass0 (pa_cons (pe_call d__law_doors.ok (hr.mono (by decide)) (by rfl) d__law_doors.at_ d__law_doors.kp d__law_doors.b .nil pass0 (pa_cons (pv 1) (pa_cons (pv 3) pa_nil))) (pa_cons (pv 4) (pa_cons (pe_ix ix_list (pv 2) pe_int (fun _ _ => rfl)) pa_nil)))))
      (pss_cons (ps_if (pt_cmpR op_gt (pe_callB call_len_seq (by rfl) T.len (by decide +kernel) (pa_cons (pv 5) pa_nil)) pe_int (nomark _))
      (pss_cons (ps_set (i := 6) scLaw.nd rfl (Or.inl rfl) (pe_call d__law_refused.ok (hr.mono (by decide)) (by rfl) d__law_refused.at_ d__law_refused.kp d__law_refused.b .nil pass0 (pa_cons (pe_make M Gi (hr.mono (by decide)) (by rfl) U.mgC bi .nil pass0 (pa_cons (pv 3) (pa_cons (pe_callTy call_list_of (by rfl) T.list (by decide +kernel) (pa_cons (pv 5) pa_nil)) pa_nil))) pa_nil)))
        (pss_cons (ps_if (pt_not (pt_val (pe_call d__law_same.ok (hr.mono (by decide)) (by rfl) d__law_same.at_ d__law_same.kp d__law_same.b .nil pass0 (pa_cons (pv 6) (pa_cons (pe_tup (pa_cons (pe_callB call_len_seq (by rfl) T.len (by decide +kernel) (pa_cons (pv 5) pa_nil)) (pa_cons pe_bl (pa_cons pe_bl (pa_cons pe_bl pa_nil))))) pa_nil)))))
        (pss_one (ps_ret pe_bl))
        pss_nil)
        (pss_one (ps_set (i := 5) scLaw.nd rfl (Or.inl rfl) (pe_slice sl_list (pv 5) po_none (po_some pe_int))))))
      pss_nil)
      (pss_cons (ps_if (PW.pt (pw_and (pt_cmpR op_lt (pe_callB call_len_seq (by rfl) T.len (by decide +kernel) (pa_cons (pv 5) pa_nil)) pe_int (nomark _)) (pw_and1 (pt_not (pt_val (pe_call d__law_all_right.ok (hr.mono (by decide)) (by rfl) d__law_all_right.at_ d__law_all_right.kp d__law_all_right.b .nil pass0 (pa_cons (pe_smt (pe_glob (v := .ref C) (by rfl) U.mgC rfl) sm GC (hr.mono (by decide)) bC pass0 (pa_cons pe_int pa_nil)) (pa_cons (pe_lst (pa_cons (pe_tup (pa_cons pe_int (pa_cons pe_int pa_nil))) (pa_cons (pe_tup (pa_cons pe_int (pa_cons pe_int pa_nil))) pa_nil))) (pa_cons (pe_ix ix_list (pv 2) pe_int (fun _ _ => rfl)) pa_nil)))))))))
      (pss_one (ps_ret pe_bl))
      pss_nil)
      (pss_cons (ps_set (i := 7) scLaw.nd rfl (Or.inl rfl) (pe_make M Gi (hr.mono (by decide)) (by rfl) U.mgC bi .nil pass0 (pa_cons (pv 3) (pa_cons (pe_callTy call_list_of (by rfl) T.list (by decide +kernel) (pa_cons (pv 5) pa_nil)) pa_nil))))
      (pss_one (ps_ret (pe_and (pe_call d__law_all_right.ok (hr.mono (by decide)) (by rfl) d__law_all_right.at_ d__law_all_right.kp d__law_all_right.b .nil pass0 (pa_cons (pv 7) (pa_cons (pv 5) (pa_cons (pe_ix ix_list (pv 2) pe_int (fun _ _ => rfl)) pa_nil)))) (pe_one (pe_call d__law_same.ok (hr.mono (by decide)) (by rfl) d__law_same.at_ d__law_same.kp d__law_same.b .nil pass0 (pa_cons (pe_meth0 (pv 7) U.cl m_doors.m m_doors.ok (hr.mono (by decide)) m_doors.b .nil pass0) (pa_cons (pv 5) pa_nil))))))))))))))), ?_⟩
    walk_at "rd"
    refine ⟨a, ss, 0, rfl, hS, fun c0 _ => ⟨c0, 79, rfl, by decide, fun nl ln H1 N1 s1 fn1 hln => ?_⟩⟩
    refine ⟨a, ss, 1, rfl, s1.seq hS, fun c1 _ => ⟨c1, 4, rfl, by decide, fun ml lm H2 N2 s2 fm hlm => ?_⟩⟩
    obtain ⟨n0, gn0⟩ : ∃ n0, nl[0]? = some n0 := ⟨nl[0]'(by rw [N1.1]; omega), List.getElem?_eq_getElem (by rw [N1.1]; omega)⟩
    have g0 : (nl.map V.int)[0]? = some (.int n0) := by rw [List.getElem?_map, gn0]; rfl
    have gM : ∀ j : Nat, j < 4 → ∃ x, (ml.map V.int)[j]? = some (.int x) := fun j hj => ⟨ml[j]'(by rw [N2.1]; exact hj), by rw [List.getElem?_map, List.getElem?_eq_getElem (by rw [N2.1]; exact hj)]; rfl⟩
    obtain ⟨x0, gm0⟩ := gM 0 (by decide)
    obtain ⟨x1, gm1⟩ := gM 1 (by decide)
    obtain ⟨x2, gm2⟩ := gM 2 (by decide)
    obtain ⟨x3, gm3⟩ := gM 3 (by decide)
    refine ⟨ln, rfl, _, SqL.of (s2 _ _ hln), .int n0, at_of (j := 0) rfl g0, _, rfl, ⟨by decide, by decide⟩, by decide, ?_⟩
    obtain ⟨r, er, hr1, hr12⟩ : ∃ r : Nat, 1 + n0 / 8 % 12 = (r : Int) ∧ 1 ≤ r ∧ r ≤ 12 := ⟨(1 + n0 / 8 % 12).toNat, by omega, by omega, by omega⟩
    rw [er]
    refine ⟨lm, rfl, _, SqL.of hlm, .int x1, at_of (j := 1) rfl gm1, x1, rfl, by decide, by decide, fun tb ntb => ?_⟩
    have s3 := same_upd (o := HO.lst [V.int 2, V.int 3, V.int 4, V.int 5, V.int 6, V.int 6, V.int 7, V.int 8, V.int (9 + x1 % 2), V.int 66]) ntb
    have htb : upd H2 tb (HO.lst [V.int 2, V.int 3, V.int 4, V.int 5, V.int 6, V.int 6, V.int 7, V.int 8, V.int (9 + x1 % 2), V.int 66]) tb = some (.lst [V.int 2, V.int 3, V.int 4, V.int 5, V.int 6, V.int 6, V.int 7, V.int 8, V.int (9 + x1 % 2), V.int 66]) := upd_same
    generalize upd H2 tb (HO.lst [V.int 2, V.int 3, V.int 4, V.int 5, V.int 6, V.int 6, V.int 7, V.int 8, V.int (9 + x1 % 2), V.int 66]) = H3 at s3 htb ⊢
    have hlm3 := s3 _ _ hlm
    obtain ⟨j0, ej⟩ : ∃ j : Nat, x0 % 10 = j := ⟨(x0 % 10).toNat, by omega⟩
    obtain ⟨z, gz, z0, z100⟩ : ∃ z : Int, [V.int 2, V.int 3, V.int 4, V.int 5, V.int 6, V.int 6, V.int 7, V.int 8, V.int (9 + x1 % 2), V.int 66][j0]? = some (.int z) ∧ 0 ≤ z ∧ z ≤ 100 := by
      have : j0 = 0 ∨ j0 = 1 ∨ j0 = 2 ∨ j0 = 3 ∨ j0 = 4 ∨ j0 = 5 ∨ j0 = 6 ∨ j0 = 7 ∨ j0 = 8 ∨ j0 = 9 := by omega
      rcases this with rfl | rfl | rfl | rfl | rfl | rfl | rfl | rfl | rfl | rfl <;> exact ⟨_, rfl, by omega, by omega⟩
    refine ⟨lm, rfl, _, SqL.of hlm3, .int x0, at_of (j := 0) rfl gm0, x0, rfl, by decide, _, SqL.of htb, .int z, at_of ej gz, ?_⟩
    have s13 := s2.trans s3
    refine ⟨ln, nl, r, rfl, SqL.of (s13 _ _ hln), by rw [N1.1]; omega, hr1, hr12, fun D us ld H4 drs s4 fd4 hld pD => ?_⟩
    have hlm4 := s4 _ _ hlm3
    refine ⟨lm, rfl, _, SqL.of hlm4, .int x2, at_of (j := 2) rfl gm2, ld, us, D, z, x2, r, rfl, hld, pD, drs, hr12, z0, z100, fun DD ws lx H5 drs5 s5 nlx hlx pw => ?_⟩
    have hlm5 := s5 _ _ hlm4
    have wl : ws.length = DD.length := pw.len
    refine ⟨lx, rfl, ws, .inl (SqL.of hlx), ?_⟩
    have sm4 : ∀ {Hx : Hp} {t1 t2 : Addr} {xs : List V}, Hx t1 = some (.tup xs) → Hx t2 = some (.tup xs) → (∀ x ∈ xs, flat4 x = true) → xs.length ≤ 100000 → Sm Hx 2 (.ref t1) (.ref t2) := fun {Hx t1 t2 xs} h1 h2 h3 h4 => by
      refine .inr ⟨t1, t2, _, _, rfl, rfl, .inr ⟨h1, h2⟩, ?_, h4⟩
      clear h1 h2 h4
      induction xs with
      | nil => exact Paired.nil
      | cons a l ih => exact Paired.cons (Sm.flat (h3 a List.mem_cons_self)) (ih fun x hx => h3 x (List.mem_cons_of_mem _ hx))
    by_cases c : (10 : Int) < (ws.length : Int)
    rw [if_pos c]
    refine ⟨lx, rfl, ws, .inl (SqL.of hlx), fun ol fol => fun y dy ny ndy ney => ?_⟩
    have t1 : Same H5 (upd H5 ol (HO.lst ws)) := same_upd fol
    refine use_init ny ndy upd_same (pw.kt (KT.same t1)) (by rw [mm2_same drs5]) drs5 hr1 hr12 fun own1 H6 hh1 t2 _ => ⟨rfl, ?_⟩
    have s56 := t1.trans t2
    refine ⟨y, r, DD, own1, rfl, hh1, by omega, fun tt H7 s67 htt => ?_⟩
    have s57 := s56.trans s67
    refine ⟨lx, rfl, ws, .inl (SqL.of (s57 _ _ hlx)), by decide, fun tu ntu => ?_⟩
    have s78 := same_upd (o := HO.tup [V.int ws.length, V.bl true, V.bl true, V.bl false]) ntu
    refine same_ok (sm4 (s78 _ _ htt) (by rw [upd_same, wl]) (by simp [flat4]) (by show 4 ≤ 100000; decide)) ⟨true, rfl, iteF ?_⟩
    have s58 := s57.trans s78
    refine ⟨lx, rfl, ws, SqL.of (s58 _ _ hlx), fun lx2 nlx2 => ?_⟩
    rw [show (some (10 : Int)) = some ((10 : Nat) : Int) from rfl, cut_take]
    have s59 := s58.trans (same_upd (o := HO.lst (ws.take 10)) nlx2)
    have hlx2 : upd (upd H7 tu (HO.tup [V.int ws.length, V.bl true, V.bl true, V.bl false])) lx2 (HO.lst (ws.take 10)) lx2 = some (.lst (ws.take 10)) := upd_same
    generalize upd (upd H7 tu (HO.tup [V.int ws.length, V.bl true, V.bl true, V.bl false])) lx2 (HO.lst (ws.take 10)) = H9 at s59 hlx2 ⊢
    have pw9 : PL H9 (ws.take 10) (DD.take 10) := by
      have : ∀ {us : List V} {D : List Pr} (n : Nat), PL H9 us D → PL H9 (us.take n) (D.take n) := fun {us D} n h => by
        induction h generalizing n with
        | nil => rw [List.take_nil, List.take_nil]; exact Paired.nil
        | cons r t ih =>
          cases n with
          | zero => exact Paired.nil
          | succ n => exact Paired.cons r (ih n)
      exact this 10 (pw.kt (KT.same s59))
    have drs9 : Drs r (DD.take 10) := ⟨List.Pairwise.sublist (List.take_sublist _ _) drs5.asc, fun d hd => drs5.ok d (List.mem_of_mem_take hd)⟩
    have d10 : (DD.take 10).length ≤ 10 := by rw [List.length_take]; omega
    have hlm9 := s59 _ _ hlm5
    refine ⟨_, .inl (SqL.of hlx2), ?_⟩
    clear s56 s57 s58 s59 s67 s78 t1 t2 hh1 ny ndy ney fol htt ntu nlx2 hlm5 pw drs5 hlx wl c
    generalize ws.take 10 = ws at hlx2 pw9 ⊢
    generalize DD.take 10 = DD at pw9 drs9 d10
    rotate_left
    rw [if_neg c]
    have d10 : DD.length ≤ 10 := by omega
    have hlx2 := hlx
    have pw9 := pw
    have drs9 := drs5
    have hlm9 := hlm5
    refine ⟨_, rfl, _, .inl (SqL.of hlx2), ?_⟩
    clear hlx pw drs5 hlm5 c wl
    all_goals
      by_cases c8 : (ws.length : Int) < 8
      rw [if_pos c8]
      refine ⟨rfl, 3, rfl, by decide, by decide, fun cx cown HC hhc sc => ?_⟩
      have hlx3 := sc _ _ hlx2
      have hlm3' := sc _ _ hlm9
      have pw3 := pw9.kt (KT.same sc)
      refine ⟨by decide, fun ta nta => ⟨by decide, fun tb_ ntb_ => ⟨by decide, fun tl ntl => ?_⟩⟩⟩
      have u1 := same_upd (o := HO.tup [V.int 0, V.int 1]) nta
      have u2 := u1.trans (same_upd (o := HO.tup [V.int 1, V.int 2]) ntb_)
      have u3 := u2.trans (same_upd (o := HO.lst [V.ref ta, V.ref tb_]) ntl)
      have hta := same_upd (o := HO.lst [V.ref ta, V.ref tb_]) ntl _ _ (same_upd (o := HO.tup [V.int 1, V.int 2]) ntb_ _ _ (upd_same (H := HC) (a := ta) (o := HO.tup [V.int 0, V.int 1])))
      have htb' := same_upd (o := HO.lst [V.ref ta, V.ref tb_]) ntl _ _ (upd_same (H := upd HC ta (HO.tup [V.int 0, V.int 1])) (a := tb_) (o := HO.tup [V.int 1, V.int 2]))
      refine ⟨lm, rfl, _, SqL.of (u3 _ _ hlm3'), .int x3, at_of (j := 3) rfl gm3, ?_⟩
      refine ⟨cx, tl, 3, [.ref ta, .ref tb_], cdL 3, cown, x3, rfl, hhc.same u3, upd_same, .cons ⟨ta, rfl, hta⟩ (.cons ⟨tb_, rfl, htb'⟩ .nil), by decide, fun HE sE => ⟨true, rfl, iteF ?_⟩⟩
      have sCE := u3.trans sE
      have hlx4 := sCE _ _ hlx3
      have hlm4' := sCE _ _ hlm3'
      have pw4 := pw3.kt (KT.same sCE)
      clear hlx3 hlm3' pw3 hlx2 hlm9 pw9 hta htb' u1 u2 u3 sCE sE hhc sc c8 nta ntb_ ntl
      rotate_left
      rw [if_neg c8, if_neg id]
      have hlx4 := hlx2
      have hlm4' := hlm9
      have pw4 := pw9
      clear hlx2 hlm9 pw9 c8
      all_goals
        first
          | refine ⟨_, rfl, _, .inl (SqL.of hlx4), fun oc noc => fun y dy ny ndy ney => ?_⟩
          | refine ⟨_, .inl (SqL.of hlx4), fun oc noc => fun y dy ny ndy ney => ?_⟩
        have t1 := same_upd (o := HO.lst ws) noc
        refine use_init ny ndy upd_same (pw4.kt (KT.same t1)) (by rw [mm2_same drs9]) drs9 hr1 hr12 fun ownY HF hhY t2 _ => ⟨rfl, ?_⟩
        have t12 := t1.trans t2
        refine ⟨lm, rfl, _, SqL.of (t12 _ _ hlm4'), .int x3, at_of (j := 3) rfl gm3, y, _, r, ws, DD, ownY, x3, rfl, hhY, t12 _ _ hlx4, pw4.kt (KT.same t12), d10, fun HG sG => ⟨true, rfl, iteT ?_⟩⟩
        obtain ⟨dx, l0, m0, ls, nss, q1, _⟩ := (hhY.same sG).ex
        refine ⟨dx, _, q1, hf_no _ _ _ (by decide +kernel) (by decide +kernel) (by decide +kernel), y, r, DD, ownY, rfl, hhY.same sG, fun lsr qd plr nqd => ?_⟩
        have t3 := same_upd (o := HO.lst lsr) nqd
        exact same_ok (PL.sm upd_same (t3 _ _ (sG _ _ (t12 _ _ hlx4))) (plr.kt (KT.same t3)) (pw4.kt (KT.same (t12.trans (sG.trans t3)))) (by omega) 0) (q _)
end

set_option maxHeartbeats 8000000 in
theorem all_mk {l : PySem.W.OpenLaw} {w : World} {K : PySem.W.Frag} {h : Heap} {mg : Str → Option Value} {fa : Addr} (X : K.In h) (G : h.Ns mainGlobals mg) (hfa : mg "law" = some (.ref fa))
    {f_check_room_count : Addr} {od_check_room_count an_check_room_count : Option Addr} {sl_check_room_count : Array (Option Value)} {oc_check_room_count kV_check_room_count dc_check_room_count pm_check_room_count cd_check_room_count ct_check_room_count : Value}
    {f_checked_doors : Addr} {od_checked_doors an_checked_doors : Option Addr} {sl_checked_doors : Array (Option Value)} {oc_checked_doors kV_checked_doors dc_checked_doors pm_checked_doors cd_checked_doors ct_checked_doors : Value}
    {f_corridor_doors : Addr} {od_corridor_doors an_corridor_doors : Option Addr} {sl_corridor_doors : Array (Option Value)} {oc_corridor_doors kV_corridor_doors dc_corridor_doors pm_corridor_doors cd_corridor_doors ct_corridor_doors : Value}
    {f_all_openings : Addr} {od_all_openings an_all_openings : Option Addr} {sl_all_openings : Array (Option Value)} {oc_all_openings kV_all_openings dc_all_openings pm_all_openings cd_all_openings ct_all_openings : Value}
    {f__law_cell : Addr} {od__law_cell an__law_cell : Option Addr} {sl__law_cell : Array (Option Value)} {oc__law_cell kV__law_cell dc__law_cell pm__law_cell cd__law_cell ct__law_cell : Value}
    {f__law_numbers : Addr} {od__law_numbers an__law_numbers : Option Addr} {sl__law_numbers : Array (Option Value)} {oc__law_numbers kV__law_numbers dc__law_numbers pm__law_numbers cd__law_numbers ct__law_numbers : Value}
    {f__law_names : Addr} {od__law_names an__law_names : Option Addr} {sl__law_names : Array (Option Value)} {oc__law_names kV__law_names dc__law_names pm__law_names cd__law_names ct__law_names : Value}
    {f__law_joined : Addr} {od__law_joined an__law_joined : Option Addr} {sl__law_joined : Array (Option Value)} {oc__law_joined kV__law_joined dc__law_joined pm__law_joined cd__law_joined ct__law_joined : Value}
    {f__law_doors : Addr} {od__law_doors an__law_doors : Option Addr} {sl__law_doors : Array (Option Value)} {oc__law_doors kV__law_doors dc__law_doors pm__law_doors cd__law_doors ct__law_doors : Value}
    {f__law_fewer : Addr} {od__law_fewer an__law_fewer : Option Addr} {sl__law_fewer : Array (Option Value)} {oc__law_fewer kV__law_fewer dc__law_fewer pm__law_fewer cd__law_fewer ct__law_fewer : Value}
    {f__law_same : Addr} {od__law_same an__law_same : Option Addr} {sl__law_same : Array (Option Value)} {oc__law_same kV__law_same dc__law_same pm__law_same cd__law_same ct__law_same : Value}
    {f__law_opening_at : Addr} {od__law_opening_at an__law_opening_at : Option Addr} {sl__law_opening_at : Array (Option Value)} {oc__law_opening_at kV__law_opening_at dc__law_opening_at pm__law_opening_at cd__law_opening_at ct__law_opening_at : Value}
    {f__law_refused : Addr} {od__law_refused an__law_refused : Option Addr} {sl__law_refused : Array (Option Value)} {oc__law_refused kV__law_refused dc__law_refused pm__law_refused cd__law_refused ct__law_refused : Value}
    {f__law_all_right : Addr} {od__law_all_right an__law_all_right : Option Addr} {sl__law_all_right : Array (Option Value)} {oc__law_all_right kV__law_all_right dc__law_all_right pm__law_all_right cd__law_all_right ct__law_all_right : Value}
    {f_law : Addr} {od_law an_law : Option Addr} {sl_law : Array (Option Value)} {oc_law kV_law dc_law pm_law cd_law ct_law : Value}
    {f_m_init_ : Addr} {od_m_init_ an_m_init_ : Option Addr} {sl_m_init_ : Array (Option Value)} {oc_m_init_ kV_m_init_ dc_m_init_ pm_m_init_ cd_m_init_ ct_m_init_ : Value}
    {f_mdoors : Addr} {od_mdoors an_mdoors : Option Addr} {sl_mdoors : Array (Option Value)} {oc_mdoors kV_mdoors dc_mdoors pm_mdoors cd_mdoors ct_mdoors : Value}
    {pa_pdoor_count : Addr} {rs_pdoor_count : List Value}
    {f_pdoor_count : Addr} {od_pdoor_count an_pdoor_count : Option Addr} {sl_pdoor_count : Array (Option Value)} {oc_pdoor_count kV_pdoor_count dc_pdoor_count pm_pdoor_count cd_pdoor_count ct_pdoor_count : Value}
    {pa_scorridor : Addr} {rs_scorridor : List Value}
    {f_scorridor : Addr} {od_scorridor an_scorridor : Option Addr} {sl_scorridor : Array (Option Value)} {oc_scorridor kV_scorridor dc_scorridor pm_scorridor cd_scorridor ct_scorridor : Value}
    {CE CB CR : Addr}
    {tk_MD : Tok}
    {C : Addr}
    {tk_MOST_ROOMS : Tok}
    {CT : Addr} {nm_e q_e : Str} {N_e : Addr} {bs_e : List Value} {sn_e : List Str} {sub_e : List Value} {ab_e : Bool} {col_e : Option Bool} {dd_e : Option Addr} {m0_e m1_e m2_e m3_e m5_e : Option Value}
    {f_einit : Addr} {od_einit an_einit : Option Addr} {sl_einit : Array (Option Value)} {oc_einit kV_einit dc_einit pm_einit cd_einit ct_einit : Value}
    (aC : PySem.W.nsIn K mainGlobals "House" = some (some (.ref C)))
    (pg : PySem.W.plainGet K C Str.empty = true)
    (hd : PySem.W.hasDictIn K C = true)
    (po : PySem.W.plainOver K C = true)
    (sa : PySem.W.findIn K (.ref C) "__setattr__" = some (some (.builtin "object.__setattr__")))
    (mk : PySem.W.makesIn K C = true)
    (kc : PySem.W.keepIn K (.ref C) = true)
    (a_check_room_count : PySem.W.nsIn K mainGlobals "check_room_count" = some (some (.ref f_check_room_count)))
    (l_check_room_count : K.lookup f_check_room_count = some ⟨oc_check_room_count, od_check_room_count, .func (PySem.W.fnOf "check_room_count" "check_room_count" (defArgs sRoom) (defBody sRoom) (defScope sRoom) .none kV_check_room_count dc_check_room_count pm_check_room_count an_check_room_count cd_check_room_count ct_check_room_count), sl_check_room_count⟩)
    (c_check_room_count : PySem.W.codeIn K cd_check_room_count "check_room_count" = true)
    (k_check_room_count : PySem.W.keepIn K (.ref f_check_room_count) = true)
    (a_checked_doors : PySem.W.nsIn K mainGlobals "checked_doors" = some (some (.ref f_checked_doors)))
    (l_checked_doors : K.lookup f_checked_doors = some ⟨oc_checked_doors, od_checked_doors, .func (PySem.W.fnOf "checked_doors" "checked_doors" (defArgs sChk) (defBody sChk) (defScope sChk) .none kV_checked_doors dc_checked_doors pm_checked_doors an_checked_doors cd_checked_doors ct_checked_doors), sl_checked_doors⟩)
    (c_checked_doors : PySem.W.codeIn K cd_checked_doors "checked_doors" = true)
    (k_checked_doors : PySem.W.keepIn K (.ref f_checked_doors) = true)
    (a_corridor_doors : PySem.W.nsIn K mainGlobals "corridor_doors" = some (some (.ref f_corridor_doors)))
    (l_corridor_doors : K.lookup f_corridor_doors = some ⟨oc_corridor_doors, od_corridor_doors, .func (PySem.W.fnOf "corridor_doors" "corridor_doors" (defArgs sCd) (defBody sCd) (defScope sCd) .none kV_corridor_doors dc_corridor_doors pm_corridor_doors an_corridor_doors cd_corridor_doors ct_corridor_doors), sl_corridor_doors⟩)
    (c_corridor_doors : PySem.W.codeIn K cd_corridor_doors "corridor_doors" = true)
    (k_corridor_doors : PySem.W.keepIn K (.ref f_corridor_doors) = true)
    (a_all_openings : PySem.W.nsIn K mainGlobals "all_openings" = some (some (.ref f_all_openings)))
    (l_all_openings : K.lookup f_all_openings = some ⟨oc_all_openings, od_all_openings, .func (PySem.W.fnOf "all_openings" "all_openings" (defArgs sAop) (defBody sAop) (defScope sAop) .none kV_all_openings dc_all_openings pm_all_openings an_all_openings cd_all_openings ct_all_openings), sl_all_openings⟩)
    (c_all_openings : PySem.W.codeIn K cd_all_openings "all_openings" = true)
    (k_all_openings : PySem.W.keepIn K (.ref f_all_openings) = true)
    (a__law_cell : PySem.W.nsIn K mainGlobals "_law_cell" = some (some (.ref f__law_cell)))
    (l__law_cell : K.lookup f__law_cell = some ⟨oc__law_cell, od__law_cell, .func (PySem.W.fnOf "_law_cell" "_law_cell" (defArgs sCell) (defBody sCell) (defScope sCell) .none kV__law_cell dc__law_cell pm__law_cell an__law_cell cd__law_cell ct__law_cell), sl__law_cell⟩)
    (c__law_cell : PySem.W.codeIn K cd__law_cell "_law_cell" = true)
    (k__law_cell : PySem.W.keepIn K (.ref f__law_cell) = true)
    (a__law_numbers : PySem.W.nsIn K mainGlobals "_law_numbers" = some (some (.ref f__law_numbers)))
    (l__law_numbers : K.lookup f__law_numbers = some ⟨oc__law_numbers, od__law_numbers, .func (PySem.W.fnOf "_law_numbers" "_law_numbers" (defArgs sNum) (defBody sNum) (defScope sNum) .none kV__law_numbers dc__law_numbers pm__law_numbers an__law_numbers cd__law_numbers ct__law_numbers), sl__law_numbers⟩)
    (c__law_numbers : PySem.W.codeIn K cd__law_numbers "_law_numbers" = true)
    (k__law_numbers : PySem.W.keepIn K (.ref f__law_numbers) = true)
    (a__law_names : PySem.W.nsIn K mainGlobals "_law_names" = some (some (.ref f__law_names)))
    (l__law_names : K.lookup f__law_names = some ⟨oc__law_names, od__law_names, .func (PySem.W.fnOf "_law_names" "_law_names" (defArgs sNam) (defBody sNam) (defScope sNam) .none kV__law_names dc__law_names pm__law_names an__law_names cd__law_names ct__law_names), sl__law_names⟩)
    (c__law_names : PySem.W.codeIn K cd__law_names "_law_names" = true)
    (k__law_names : PySem.W.keepIn K (.ref f__law_names) = true)
    (a__law_joined : PySem.W.nsIn K mainGlobals "_law_joined" = some (some (.ref f__law_joined)))
    (l__law_joined : K.lookup f__law_joined = some ⟨oc__law_joined, od__law_joined, .func (PySem.W.fnOf "_law_joined" "_law_joined" (defArgs sJnd) (defBody sJnd) (defScope sJnd) .none kV__law_joined dc__law_joined pm__law_joined an__law_joined cd__law_joined ct__law_joined), sl__law_joined⟩)
    (c__law_joined : PySem.W.codeIn K cd__law_joined "_law_joined" = true)
    (k__law_joined : PySem.W.keepIn K (.ref f__law_joined) = true)
    (a__law_doors : PySem.W.nsIn K mainGlobals "_law_doors" = some (some (.ref f__law_doors)))
    (l__law_doors : K.lookup f__law_doors = some ⟨oc__law_doors, od__law_doors, .func (PySem.W.fnOf "_law_doors" "_law_doors" (defArgs sDrs) (defBody sDrs) (defScope sDrs) .none kV__law_doors dc__law_doors pm__law_doors an__law_doors cd__law_doors ct__law_doors), sl__law_doors⟩)
    (c__law_doors : PySem.W.codeIn K cd__law_doors "_law_doors" = true)
    (k__law_doors : PySem.W.keepIn K (.ref f__law_doors) = true)
    (a__law_fewer : PySem.W.nsIn K mainGlobals "_law_fewer" = some (some (.ref f__law_fewer)))
    (l__law_fewer : K.lookup f__law_fewer = some ⟨oc__law_fewer, od__law_fewer, .func (PySem.W.fnOf "_law_fewer" "_law_fewer" (defArgs sFew) (defBody sFew) (defScope sFew) .none kV__law_fewer dc__law_fewer pm__law_fewer an__law_fewer cd__law_fewer ct__law_fewer), sl__law_fewer⟩)
    (c__law_fewer : PySem.W.codeIn K cd__law_fewer "_law_fewer" = true)
    (k__law_fewer : PySem.W.keepIn K (.ref f__law_fewer) = true)
    (a__law_same : PySem.W.nsIn K mainGlobals "_law_same" = some (some (.ref f__law_same)))
    (l__law_same : K.lookup f__law_same = some ⟨oc__law_same, od__law_same, .func (PySem.W.fnOf "_law_same" "_law_same" (defArgs sSame) (defBody sSame) (defScope sSame) .none kV__law_same dc__law_same pm__law_same an__law_same cd__law_same ct__law_same), sl__law_same⟩)
    (c__law_same : PySem.W.codeIn K cd__law_same "_law_same" = true)
    (k__law_same : PySem.W.keepIn K (.ref f__law_same) = true)
    (a__law_opening_at : PySem.W.nsIn K mainGlobals "_law_opening_at" = some (some (.ref f__law_opening_at)))
    (l__law_opening_at : K.lookup f__law_opening_at = some ⟨oc__law_opening_at, od__law_opening_at, .func (PySem.W.fnOf "_law_opening_at" "_law_opening_at" (defArgs sOat) (defBody sOat) (defScope sOat) .none kV__law_opening_at dc__law_opening_at pm__law_opening_at an__law_opening_at cd__law_opening_at ct__law_opening_at), sl__law_opening_at⟩)
    (c__law_opening_at : PySem.W.codeIn K cd__law_opening_at "_law_opening_at" = true)
    (k__law_opening_at : PySem.W.keepIn K (.ref f__law_opening_at) = true)
    (a__law_refused : PySem.W.nsIn K mainGlobals "_law_refused" = some (some (.ref f__law_refused)))
    (l__law_refused : K.lookup f__law_refused = some ⟨oc__law_refused, od__law_refused, .func (PySem.W.fnOf "_law_refused" "_law_refused" (defArgs sRef) (defBody sRef) (defScope sRef) .none kV__law_refused dc__law_refused pm__law_refused an__law_refused cd__law_refused ct__law_refused), sl__law_refused⟩)
    (c__law_refused : PySem.W.codeIn K cd__law_refused "_law_refused" = true)
    (k__law_refused : PySem.W.keepIn K (.ref f__law_refused) = true)
    (a__law_all_right : PySem.W.nsIn K mainGlobals "_law_all_right" = some (some (.ref f__law_all_right)))
    (l__law_all_right : K.lookup f__law_all_right = some ⟨oc__law_all_right, od__law_all_right, .func (PySem.W.fnOf "_law_all_right" "_law_all_right" (defArgs sAlr) (defBody sAlr) (defScope sAlr) .none kV__law_all_right dc__law_all_right pm__law_all_right an__law_all_right cd__law_all_right ct__law_all_right), sl__law_all_right⟩)
    (c__law_all_right : PySem.W.codeIn K cd__law_all_right "_law_all_right" = true)
    (k__law_all_right : PySem.W.keepIn K (.ref f__law_all_right) = true)
    (a_law : PySem.W.nsIn K mainGlobals "law" = some (some (.ref f_law)))
    (l_law : K.lookup f_law = some ⟨oc_law, od_law, .func (PySem.W.fnOf "law" "law" (defArgs sLaw) (defBody sLaw) (defScope sLaw) .none kV_law dc_law pm_law an_law cd_law ct_law), sl_law⟩)
    (c_law : PySem.W.codeIn K cd_law "law" = true)
    (k_law : PySem.W.keepIn K (.ref f_law) = true)
    (a_m_init_ : PySem.W.findIn K (.ref C) "__init__" = some (some (.ref f_m_init_)))
    (l_m_init_ : K.lookup f_m_init_ = some ⟨oc_m_init_, od_m_init_, .func (PySem.W.fnOf "__init__" "House.__init__" (defArgs sHinit) (defBody sHinit) (defScope sHinit) .none kV_m_init_ dc_m_init_ pm_m_init_ an_m_init_ cd_m_init_ ct_m_init_), sl_m_init_⟩)
    (c_m_init_ : PySem.W.codeIn K cd_m_init_ "House.__init__" = true)
    (k_m_init_ : PySem.W.keepIn K (.ref f_m_init_) = true)
    (i_m_init_ : PySem.W.isFn K (.ref f_m_init_) = true)
    (a_mdoors : PySem.W.findIn K (.ref C) "doors" = some (some (.ref f_mdoors)))
    (l_mdoors : K.lookup f_mdoors = some ⟨oc_mdoors, od_mdoors, .func (PySem.W.fnOf "doors" "House.doors" (defArgs sHdoors) (defBody sHdoors) (defScope sHdoors) .none kV_mdoors dc_mdoors pm_mdoors an_mdoors cd_mdoors ct_mdoors), sl_mdoors⟩)
    (c_mdoors : PySem.W.codeIn K cd_mdoors "House.doors" = true)
    (k_mdoors : PySem.W.keepIn K (.ref f_mdoors) = true)
    (i_mdoors : PySem.W.isFn K (.ref f_mdoors) = true)
    (a_pdoor_count : PySem.W.findIn K (.ref C) "door_count" = some (some (.ref pa_pdoor_count)))
    (g_pdoor_count : PySem.W.specialIn K (.ref pa_pdoor_count) "__get__" = some (some (.builtin "property.__get__")))
    (t_pdoor_count : PySem.W.takesIn K (.ref pa_pdoor_count) = some true)
    (r_pdoor_count : PySem.W.recIn K pa_pdoor_count "property" = some (.ref f_pdoor_count :: rs_pdoor_count))
    (l_pdoor_count : K.lookup f_pdoor_count = some ⟨oc_pdoor_count, od_pdoor_count, .func (PySem.W.fnOf "door_count" "House.door_count" (defArgs sHcount) (defBody sHcount) (defScope sHcount) .none kV_pdoor_count dc_pdoor_count pm_pdoor_count an_pdoor_count cd_pdoor_count ct_pdoor_count), sl_pdoor_count⟩)
    (c_pdoor_count : PySem.W.codeIn K cd_pdoor_count "House.door_count" = true)
    (k_pdoor_count : PySem.W.keepIn K (.ref f_pdoor_count) = true)
    (a_scorridor : PySem.W.findCls K (.ref C) (.type "type") "corridor" = some (.get (.builtin "staticmethod.__get__") (.ref pa_scorridor) .none (.ref C)))
    (r_scorridor : PySem.W.recIn K pa_scorridor "staticmethod" = some (.ref f_scorridor :: rs_scorridor))
    (l_scorridor : K.lookup f_scorridor = some ⟨oc_scorridor, od_scorridor, .func (PySem.W.fnOf "corridor" "House.corridor" (defArgs sHcor) (defBody sHcor) (defScope sHcor) .none kV_scorridor dc_scorridor pm_scorridor an_scorridor cd_scorridor ct_scorridor), sl_scorridor⟩)
    (c_scorridor : PySem.W.codeIn K cd_scorridor "House.corridor" = true)
    (k_scorridor : PySem.W.keepIn K (.ref f_scorridor) = true)
    (n_rooms : PySem.W.findIn K (.ref C) "rooms" = some none)
    (n__doors : PySem.W.findIn K (.ref C) "_doors" = some none)
    (n__near : PySem.W.findIn K (.ref C) "_near" = some none)
    (cr1 : PySem.W.readsIn K C (.type "type") = true)
    (cr2 : PySem.W.specialIn K (.ref C) "__getattribute__" = some (some (.builtin "type.__getattribute__")))
    (cv_MOST_ROOMS : PySem.W.findCls K (.ref C) (.type "type") "MOST_ROOMS" = some (.val (.int 12 tk_MOST_ROOMS)))
    (gE : PySem.W.nsIn K mainGlobals "CallsError" = some (some (.ref CE)))
    (eC : PySem.W.nsIn K mainGlobals "TooLarge" = some (some (.ref CT)))
    (exL : K.lookup CT = some (excClassObj nm_e q_e CT N_e bs_e [.ref CE, .type "ValueError", .type "Exception", .type "BaseException", .type "object"] true sn_e sub_e ab_e col_e dd_e m0_e m1_e m2_e m3_e m5_e "ValueError.__new__"))
    (esa : PySem.W.findIn K (.ref CT) "__setattr__" = some (some (.builtin "object.__setattr__")))
    (ega : PySem.W.findIn K (.ref CT) "__getattribute__" = some (some (.builtin "BaseException.__getattribute__")))
    (egg : PySem.W.findIn K (.ref CT) "__getattr__" = some none)
    (enf : PySem.W.findIn K (.ref CT) "size" = some none)
    (ei : PySem.W.findIn K (.ref CT) "__init__" = some (some (.ref f_einit)))
    (et : PySem.W.typeIn K (.ref f_einit) = some (.type "function"))
    (l_einit : K.lookup f_einit = some ⟨oc_einit, od_einit, .func (PySem.W.fnOf "__init__" "TooLarge.__init__" (defArgs sTinit) (defBody sTinit) (defScope sTinit) .none kV_einit dc_einit pm_einit an_einit cd_einit ct_einit), sl_einit⟩)
    (c_einit : PySem.W.codeIn K cd_einit "TooLarge.__init__" = true)
    (k_einit : PySem.W.keepIn K (.ref f_einit) = true)
    (ekC : PySem.W.keepIn K (.ref CT) = true)
    (eeC : PySem.W.subIn K (.ref CT) (.type "BaseException") = some true)
    (etC : PySem.W.typeIn K (.ref CT) = some (.type "type"))
    (ehC : PySem.W.hasDictIn K CT = true)
    (esC : PySem.W.subIn K (.ref CT) (.ref CT) = some true)
    (ecc : PySem.W.findIn K (.ref CT) "__class__" = some (some (.builtin "object.__class__")))
    (ehn : PySem.W.specialIn K (.builtin "object.__class__") "__get__" = some (some (.builtin "getset_descriptor.__get__")))
    (eht : PySem.W.takesIn K (.builtin "object.__class__") = some true)
    (ehm : PySem.W.mroIn K CT (.type "object") = some true)
    (gB : PySem.W.nsIn K mainGlobals "BadHouse" = some (some (.ref CB)))
    (gR : PySem.W.nsIn K mainGlobals "Refused" = some (some (.ref CR)))
    (isE : PySem.W.kitOne K (.ref CT) (.ref CE) = some true)
    (isV : PySem.W.kitOne K (.ref CT) (.type "ValueError") = some true)
    (noB : PySem.W.kitAny K (.ref CT) [.ref CB, .ref CR] = some false)
    (vMD : PySem.W.nsIn K mainGlobals "MOST_DOORS" = some (some (.int 10 tk_MD)))
    (z_len : PySem.W.nsIn K mainGlobals "len" = some none)
    (z_abs : PySem.W.nsIn K mainGlobals "abs" = some none)
    (z_int : PySem.W.nsIn K mainGlobals "int" = some none)
    (z_range : PySem.W.nsIn K mainGlobals "range" = some none)
    (z_list : PySem.W.nsIn K mainGlobals "list" = some none)
    (z_tuple : PySem.W.nsIn K mainGlobals "tuple" = some none)
    (z_min : PySem.W.nsIn K mainGlobals "min" = some none)
    (z_max : PySem.W.nsIn K mainGlobals "max" = some none)
    (z_sorted : PySem.W.nsIn K mainGlobals "sorted" = some none)
    (z_isinstance : PySem.W.nsIn K mainGlobals "isinstance" = some none)
    (z_bool : PySem.W.nsIn K mainGlobals "bool" = some none)
    (z_str : PySem.W.nsIn K mainGlobals "str" = some none)
    (z_set : PySem.W.nsIn K mainGlobals "set" = some none)
    (z_enumerate : PySem.W.nsIn K mainGlobals "enumerate" = some none)
    (z_ValueError : PySem.W.nsIn K mainGlobals "ValueError" = some none) :
    ∃ fd : FuncData, (∀ (s : Shared) (v : Value), BindsTo s fd ⟨[v], []⟩ [("script", v)]) ∧ ∀ base : Heap, K.In base → base.Ns mainGlobals mg → FnOk l.prog w K mg base CX0 6 fa fd ["script"] (spLaw K) := by
  have e := hfa.symm.trans (PySem.W.mg_of X G a_law)
  cases e
  have T : Bi mg := ⟨PySem.W.mg_none_of X G z_len, PySem.W.mg_none_of X G z_abs, PySem.W.mg_none_of X G z_int, PySem.W.mg_none_of X G z_range, PySem.W.mg_none_of X G z_list, PySem.W.mg_none_of X G z_tuple, PySem.W.mg_none_of X G z_min, PySem.W.mg_none_of X G z_max, PySem.W.mg_none_of X G z_sorted, PySem.W.mg_none_of X G z_isinstance, PySem.W.mg_none_of X G z_bool, PySem.W.mg_none_of X G z_str, PySem.W.mg_none_of X G z_set, PySem.W.mg_none_of X G z_enumerate⟩
  have F_check_room_count := fun_mk (st := sRoom) l_check_room_count c_check_room_count k_check_room_count
  have at_check_room_count := PySem.W.mg_of X G a_check_room_count
  have b_check_room_count := F_check_room_count.binds (ps := ["rooms"]) fun _ _ _ _ _ _ us hl => match us, hl with | [_], _ => rfl
  have F_checked_doors := fun_mk (st := sChk) l_checked_doors c_checked_doors k_checked_doors
  have at_checked_doors := PySem.W.mg_of X G a_checked_doors
  have b_checked_doors := F_checked_doors.binds (ps := ["rooms", "doors"]) fun _ _ _ _ _ _ us hl => match us, hl with | [_, _], _ => rfl
  have F_corridor_doors := fun_mk (st := sCd) l_corridor_doors c_corridor_doors k_corridor_doors
  have at_corridor_doors := PySem.W.mg_of X G a_corridor_doors
  have b_corridor_doors := F_corridor_doors.binds (ps := ["rooms"]) fun _ _ _ _ _ _ us hl => match us, hl with | [_], _ => rfl
  have F_all_openings := fun_mk (st := sAop) l_all_openings c_all_openings k_all_openings
  have at_all_openings := PySem.W.mg_of X G a_all_openings
  have b_all_openings := F_all_openings.binds (ps := ["house"]) fun _ _ _ _ _ _ us hl => match us, hl with | [_], _ => rfl
  have F__law_cell := fun_mk (st := sCell) l__law_cell c__law_cell k__law_cell
  have at__law_cell := PySem.W.mg_of X G a__law_cell
  have b__law_cell := F__law_cell.binds (ps := ["script", "k"]) fun _ _ _ _ _ _ us hl => match us, hl with | [_, _], _ => rfl
  have F__law_numbers := fun_mk (st := sNum) l__law_numbers c__law_numbers k__law_numbers
  have at__law_numbers := PySem.W.mg_of X G a__law_numbers
  have b__law_numbers := F__law_numbers.binds (ps := ["cell", "count"]) fun _ _ _ _ _ _ us hl => match us, hl with | [_, _], _ => rfl
  have F__law_names := fun_mk (st := sNam) l__law_names c__law_names k__law_names
  have at__law_names := PySem.W.mg_of X G a__law_names
  have b__law_names := F__law_names.binds (ps := ["numbers", "at", "rooms"]) fun _ _ _ _ _ _ us hl => match us, hl with | [_, _, _], _ => rfl
  have F__law_joined := fun_mk (st := sJnd) l__law_joined c__law_joined k__law_joined
  have at__law_joined := PySem.W.mg_of X G a__law_joined
  have b__law_joined := F__law_joined.binds (ps := ["kind", "a", "b", "rooms", "number", "parent"]) fun _ _ _ _ _ _ us hl => match us, hl with | [_, _, _, _, _, _], _ => rfl
  have F__law_doors := fun_mk (st := sDrs) l__law_doors c__law_doors k__law_doors
  have at__law_doors := PySem.W.mg_of X G a__law_doors
  have b__law_doors := F__law_doors.binds (ps := ["numbers", "rooms"]) fun _ _ _ _ _ _ us hl => match us, hl with | [_, _], _ => rfl
  have F__law_fewer := fun_mk (st := sFew) l__law_fewer c__law_fewer k__law_fewer
  have at__law_fewer := PySem.W.mg_of X G a__law_fewer
  have b__law_fewer := F__law_fewer.binds (ps := ["doors", "most", "number"]) fun _ _ _ _ _ _ us hl => match us, hl with | [_, _, _], _ => rfl
  have F__law_same := fun_mk (st := sSame) l__law_same c__law_same k__law_same
  have at__law_same := PySem.W.mg_of X G a__law_same
  have b__law_same := F__law_same.binds (ps := ["got", "due"]) fun _ _ _ _ _ _ us hl => match us, hl with | [_, _], _ => rfl
  have F__law_opening_at := fun_mk (st := sOat) l__law_opening_at c__law_opening_at k__law_opening_at
  have at__law_opening_at := PySem.W.mg_of X G a__law_opening_at
  have b__law_opening_at := F__law_opening_at.binds (ps := ["doors", "k"]) fun _ _ _ _ _ _ us hl => match us, hl with | [_, _], _ => rfl
  have F__law_refused := fun_mk (st := sRef) l__law_refused c__law_refused k__law_refused
  have at__law_refused := PySem.W.mg_of X G a__law_refused
  have b__law_refused := F__law_refused.binds (ps := ["house"]) fun _ _ _ _ _ _ us hl => match us, hl with | [_], _ => rfl
  have F__law_all_right := fun_mk (st := sAlr) l__law_all_right c__law_all_right k__law_all_right
  have at__law_all_right := PySem.W.mg_of X G a__law_all_right
  have b__law_all_right := F__law_all_right.binds (ps := ["house", "doors", "number"]) fun _ _ _ _ _ _ us hl => match us, hl with | [_, _, _], _ => rfl
  have F_law := fun_mk (st := sLaw) l_law c_law k_law
  have at_law := PySem.W.mg_of X G a_law
  have F_m_init_ := fun_mk (st := sHinit) l_m_init_ c_m_init_ k_m_init_
  have b_m_init_ := F_m_init_.binds (ps := ["self", "rooms", "doors"]) fun _ _ _ _ _ _ us hl => match us, hl with | [_, _, _], _ => rfl
  have mk_ : Mk K C f_m_init_ := ⟨mk, a_m_init_, i_m_init_, kc⟩
  have F_mdoors := fun_mk (st := sHdoors) l_mdoors c_mdoors k_mdoors
  have b_mdoors := F_mdoors.binds (ps := ["self"]) fun _ _ _ _ _ _ us hl => match us, hl with | [_], _ => rfl
  have mt_mdoors : Meth K C "doors" f_mdoors := ⟨a_mdoors, i_mdoors, k_mdoors⟩
  have F_pdoor_count := fun_mk (st := sHcount) l_pdoor_count c_pdoor_count k_pdoor_count
  have b_pdoor_count := F_pdoor_count.binds (ps := ["self"]) fun _ _ _ _ _ _ us hl => match us, hl with | [_], _ => rfl
  have po_pdoor_count : PropOf K C "door_count" pa_pdoor_count f_pdoor_count := ⟨a_pdoor_count, g_pdoor_count, t_pdoor_count, ⟨_, r_pdoor_count⟩⟩
  have F_scorridor := fun_mk (st := sHcor) l_scorridor c_scorridor k_scorridor
  have b_scorridor := F_scorridor.binds (ps := ["rooms"]) fun _ _ _ _ _ _ us hl => match us, hl with | [_], _ => rfl
  have st_scorridor : Smt K C "corridor" pa_scorridor f_scorridor := ⟨cr1, cr2, a_scorridor, ⟨_, r_scorridor⟩, k_scorridor⟩
  have F_einit := fun_mk (st := sTinit) l_einit c_einit k_einit
  have b_einit := F_einit.binds (ps := ["self", "size"]) fun _ _ _ _ _ _ us hl => match us, hl with | [_, _], _ => rfl
  have er : Err K mg "TooLarge" "size" CT f_einit := ⟨⟨⟨_, _, _, _, _, _, _, _, _, _, _, _, _, _, _, exL, (show PySem.HandSPX.refsVE [.type "ValueError", .type "Exception", .type "BaseException", .type "object"] = true by decide +kernel)⟩, esa, eeC, etC, ekC⟩, PySem.W.mg_of X G eC, ei, et, enf, ⟨ega, egg, eeC, ehC⟩, ecc, ehn, eht, ehm, PySem.W.exm_ref eeC ehC etC esC⟩
  have es : Errs K mg CT CE CB CR := ⟨PySem.W.mg_of X G gE, PySem.W.mg_of X G gB, PySem.W.mg_of X G gR, PySem.W.mg_none_of X G z_ValueError, isE, isV, noB⟩
  have U : Hs K mg C := ⟨⟨pg, hd, po, sa⟩, n_rooms, n__doors, n__near, PySem.W.mg_of X G aC, ⟨.type "type", _, ⟨cr1, cr2⟩, ⟨cv_MOST_ROOMS, ⟨_, rfl⟩⟩⟩⟩
  refine ⟨PySem.W.fnOf "law" "law" (defArgs sLaw) (defBody sLaw) (defScope sLaw) .none kV_law dc_law pm_law an_law cd_law ct_law, fun s v => .of_eq rfl, fun base _ _ => ?_⟩
  have R1 : Df l.prog w K mg base "check_room_count" _ 1 spRoom _ _ := ⟨at_check_room_count, k_check_room_count, b_check_room_count, ok_room F_check_room_count U⟩
  have R2 : Df l.prog w K mg base "checked_doors" _ 1 spChk _ _ := ⟨at_checked_doors, k_checked_doors, b_checked_doors, ok_chk F_checked_doors T⟩
  have R3 : Df l.prog w K mg base "corridor_doors" _ 1 spCd _ _ := ⟨at_corridor_doors, k_corridor_doors, b_corridor_doors, ok_cd F_corridor_doors T⟩
  have GI := ok_hinit (P := l.prog) (w := w) (base := base) F_m_init_ T U R1 R2
  have GT := ok_tinit (P := l.prog) (w := w) (mg := mg) (base := base) F_einit er.oex er.noF
  have MD : Md l.prog w K mg base C "doors" _ 1 (spHdoors C) _ _ := ⟨mt_mdoors, b_mdoors, ok_hdoors F_mdoors T U⟩
  have GA := ok_aop (P := l.prog) (w := w) (base := base) F_all_openings T U ⟨_, PySem.W.mg_of X G vMD, ⟨_, rfl⟩⟩ er b_einit GT po_pdoor_count b_pdoor_count (ok_hcount F_pdoor_count T U) MD
  have D1 : Df l.prog w K mg base "_law_cell" _ 1 (spCell K) _ _ := ⟨at__law_cell, k__law_cell, b__law_cell, ok_cell F__law_cell T⟩
  have D2 : Df l.prog w K mg base "_law_numbers" _ 1 (spNum K) _ _ := ⟨at__law_numbers, k__law_numbers, b__law_numbers, ok_num F__law_numbers T⟩
  have D3 : Df l.prog w K mg base "_law_names" _ 1 (spNam K) _ _ := ⟨at__law_names, k__law_names, b__law_names, ok_nam F__law_names T⟩
  have D4 : Df l.prog w K mg base "_law_joined" _ 1 spJnd _ _ := ⟨at__law_joined, k__law_joined, b__law_joined, ok_jnd F__law_joined T⟩
  have D5 : Df l.prog w K mg base "_law_doors" _ 2 (spDrs K) _ _ := ⟨at__law_doors, k__law_doors, b__law_doors, ok_drs F__law_doors T D3 D4⟩
  have D6 : Df l.prog w K mg base "_law_fewer" _ 1 (spFew K) _ _ := ⟨at__law_fewer, k__law_fewer, b__law_fewer, ok_few F__law_fewer T⟩
  have D8 : Df l.prog w K mg base "_law_same" _ 3 (spSame 2) _ _ := ⟨at__law_same, k__law_same, b__law_same, ok_same F__law_same T b__law_same at__law_same 2⟩
  have D9 : Df l.prog w K mg base "_law_opening_at" _ 1 spOat _ _ := ⟨at__law_opening_at, k__law_opening_at, b__law_opening_at, ok_oat F__law_opening_at T⟩
  have D10 : Df l.prog w K mg base "_law_refused" _ 5 (spRef C) _ _ := ⟨at__law_refused, k__law_refused, b__law_refused, ok_ref F__law_refused T er es GA at_all_openings k_all_openings b_all_openings⟩
  have D11 : Df l.prog w K mg base "_law_all_right" _ 5 (spAlr C) _ _ := ⟨at__law_all_right, k__law_all_right, b__law_all_right, ok_alr F__law_all_right T GA at_all_openings k_all_openings b_all_openings D8 D9⟩
  exact ok_law F_law T U mk_ GI b_m_init_ MD st_scorridor (ok_hcor F_scorridor T U mk_ GI b_m_init_ R1 R3) b_scorridor D1 D2 D5 D6 D10 D11 D8
theorem walk {l : PySem.W.OpenLaw} {q : Program} {loose : List Str} {XP : (Str → Option Value) → Heap → Prop} {YP : World → Heap → Prop} {d : DefRec} {K : Params → PySem.W.Frag} (hn : l.most = some 63) (hdf : d.params.defaults = [])
    (hY : ∀ (w : World) (h : Heap), YP w h → (K w.params).In h)
    (F : ∀ (w : World) (mg : Str → Option Value) (fa : Addr) (h : Heap), (K w.params).In h → h.Ns mainGlobals mg → mg d.name = some (.ref fa) →
      ∃ fd : FuncData, (∀ (s : Shared) (u : Value), BindsTo s fd ⟨[u], []⟩ [("script", u)]) ∧ ∀ base : Heap, (K w.params).In base → base.Ns mainGlobals mg → FnOk l.prog w (K w.params) mg base CX0 6 fa fd ["script"] (spLaw (K w.params))) :
    PySem.W.WalkO q loose XP YP l.row.toRowW d [] (fun f vs => PySem.call f vs) :=
  L2.walk_of (n := 63) (k := 6) (x := "script") (CX := fun _ => CX0) (sp := fun w => spLaw (K w.params)) hn (by decide) hdf ⟨rfl, by decide, by decide⟩ hY F (fun _ _ a ns hl _ hS => ⟨a, ns, rfl, hS, hl, fun _ => rfl⟩) fun _ _ _ _ _ z => z
end My

open PySem PySem.W PyProof.Rows in
set_option maxRecDepth 100000 in
set_option maxHeartbeats 0 in
theorem PySem.Challenge.cw_callsheard_k08_all_openings_holds : PySem.Challenge.rw_callsheard_k08_all_openings.Holds := by
  w_on; o_law; k_head; (case hw => w_witness2)
  k_fill
  refine My.walk (l := PySem.Challenge.rw_callsheard_k08_all_openings) rfl rfl (fun w h Y => PySem.W.kIn_of Y) ?F
  case F =>
    intro w mg fa h KX G hmg
    refine' My.all_mk KX G hmg ?aC ?pg ?hd ?po ?sa ?mk ?kc ?a_check_room_count ?l_check_room_count ?c_check_room_count ?k_check_room_count ?a_checked_doors ?l_checked_doors ?c_checked_doors ?k_checked_doors ?a_corridor_doors ?l_corridor_doors ?c_corridor_doors ?k_corridor_doors ?a_all_openings ?l_all_openings ?c_all_openings ?k_all_openings ?a__law_cell ?l__law_cell ?c__law_cell ?k__law_cell ?a__law_numbers ?l__law_numbers ?c__law_numbers ?k__law_numbers ?a__law_names ?l__law_names ?c__law_names ?k__law_names ?a__law_joined ?l__law_joined ?c__law_joined ?k__law_joined ?a__law_doors ?l__law_doors ?c__law_doors ?k__law_doors ?a__law_fewer ?l__law_fewer ?c__law_fewer ?k__law_fewer ?a__law_same ?l__law_same ?c__law_same ?k__law_same ?a__law_opening_at ?l__law_opening_at ?c__law_opening_at ?k__law_opening_at ?a__law_refused ?l__law_refused ?c__law_refused ?k__law_refused ?a__law_all_right ?l__law_all_right ?c__law_all_right ?k__law_all_right ?a_law ?l_law ?c_law ?k_law ?a_m_init_ ?l_m_init_ ?c_m_init_ ?k_m_init_ ?i_m_init_ ?a_mdoors ?l_mdoors ?c_mdoors ?k_mdoors ?i_mdoors ?a_pdoor_count ?g_pdoor_count ?t_pdoor_count ?r_pdoor_count ?l_pdoor_count ?c_pdoor_count ?k_pdoor_count ?a_scorridor ?r_scorridor ?l_scorridor ?c_scorridor ?k_scorridor ?n_rooms ?n__doors ?n__near ?cr1 ?cr2 ?cv_MOST_ROOMS ?gE ?eC ?exL ?esa ?ega ?egg ?enf ?ei ?et ?l_einit ?c_einit ?k_einit ?ekC ?eeC ?etC ?ehC ?esC ?ecc ?ehn ?eht ?ehm ?gB ?gR ?isE ?isV ?noB ?vMD ?z_len ?z_abs ?z_int ?z_range ?z_list ?z_tuple ?z_min ?z_max ?z_sorted ?z_isinstance ?z_bool ?z_str ?z_set ?z_enumerate ?z_ValueError
    (case aC => k_is)
    (case pg => k_is)
    (case hd => k_is)
    (case po => k_is)
    (case sa => k_is)
    (case mk => k_is)
    (case kc => k_is)
    (case a_check_room_count => k_is)
    (case l_check_room_count => k_is)
    (case c_check_room_count => k_is)
    (case k_check_room_count => k_is)
    (case a_checked_doors => k_is)
    (case l_checked_doors => k_is)
    (case c_checked_doors => k_is)
    (case k_checked_doors => k_is)
    (case a_corridor_doors => k_is)
    (case l_corridor_doors => k_is)
    (case c_corridor_doors => k_is)
    (case k_corridor_doors => k_is)
    (case a_all_openings => k_is)
    (case l_all_openings => k_is)
    (case c_all_openings => k_is)
    (case k_all_openings => k_is)
    (case a__law_cell => k_is)
    (case l__law_cell => k_is)
    (case c__law_cell => k_is)
    (case k__law_cell => k_is)
    (case a__law_numbers => k_is)
    (case l__law_numbers => k_is)
    (case c__law_numbers => k_is)
    (case k__law_numbers => k_is)
    (case a__law_names => k_is)
    (case l__law_names => k_is)
    (case c__law_names => k_is)
    (case k__law_names => k_is)
    (case a__law_joined => k_is)
    (case l__law_joined => k_is)
    (case c__law_joined => k_is)
    (case k__law_joined => k_is)
    (case a__law_doors => k_is)
    (case l__law_doors => k_is)
    (case c__law_doors => k_is)
    (case k__law_doors => k_is)
    (case a__law_fewer => k_is)
    (case l__law_fewer => k_is)
    (case c__law_fewer => k_is)
    (case k__law_fewer => k_is)
    (case a__law_same => k_is)
    (case l__law_same => k_is)
    (case c__law_same => k_is)
    (case k__law_same => k_is)
    (case a__law_opening_at => k_is)
    (case l__law_opening_at => k_is)
    (case c__law_opening_at => k_is)
    (case k__law_opening_at => k_is)
    (case a__law_refused => k_is)
    (case l__law_refused => k_is)
    (case c__law_refused => k_is)
    (case k__law_refused => k_is)
    (case a__law_all_right => k_is)
    (case l__law_all_right => k_is)
    (case c__law_all_right => k_is)
    (case k__law_all_right => k_is)
    (case a_law => k_is)
    (case l_law => k_is)
    (case c_law => k_is)
    (case k_law => k_is)
    (case a_m_init_ => k_is)
    (case l_m_init_ => k_is)
    (case c_m_init_ => k_is)
    (case k_m_init_ => k_is)
    (case i_m_init_ => k_is)
    (case a_mdoors => k_is)
    (case l_mdoors => k_is)
    (case c_mdoors => k_is)
    (case k_mdoors => k_is)
    (case i_mdoors => k_is)
    (case a_pdoor_count => k_is)
    (case g_pdoor_count => k_is)
    (case t_pdoor_count => k_is)
    (case r_pdoor_count => k_is)
    (case l_pdoor_count => k_is)
    (case c_pdoor_count => k_is)
    (case k_pdoor_count => k_is)
    (case a_scorridor => k_is)
    (case r_scorridor => k_is)
    (case l_scorridor => k_is)
    (case c_scorridor => k_is)
    (case k_scorridor => k_is)
    (case n_rooms => k_is)
    (case n__doors => k_is)
    (case n__near => k_is)
    (case cr1 => k_is)
    (case cr2 => k_is)
    (case cv_MOST_ROOMS => k_is)
    (case gE => k_is)
    (case eC => k_is)
    (case exL => k_is)
    (case esa => k_is)
    (case ega => k_is)
    (case egg => k_is)
    (case enf => k_is)
    (case ei => k_is)
    (case et => k_is)
    (case l_einit => k_is)
    (case c_einit => k_is)
    (case k_einit => k_is)
    (case ekC => k_is)
    (case eeC => k_is)
    (case etC => k_is)
    (case ehC => k_is)
    (case esC => k_is)
    (case ecc => k_is)
    (case ehn => k_is)
    (case eht => k_is)
    (case ehm => k_is)
    (case gB => k_is)
    (case gR => k_is)
    (case isE => kit_is)
    (case isV => kit_is)
    (case noB => kit_is)
    (case vMD => k_is)
    (case z_len => k_is)
    (case z_abs => k_is)
    (case z_int => k_is)
    (case z_range => k_is)
    (case z_list => k_is)
    (case z_tuple => k_is)
    (case z_min => k_is)
    (case z_max => k_is)
    (case z_sorted => k_is)
    (case z_isinstance => k_is)
    (case z_bool => k_is)
    (case z_str => k_is)
    (case z_set => k_is)
    (case z_enumerate => k_is)
    (case z_ValueError => k_is)


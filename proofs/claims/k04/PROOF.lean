import PyProof.Rows.All
import Wide.All
import OpenK.AllK
import Wide.FinOn
import HandS.ForMost
import HandS.SortRule
import HandS.IsInst
import HandS.Deep
import HandS.Property
import HandS.TupSets
import HandS.Style
import HandS.Conv
import HandS.Evl
import HandS.ClsMeth
import HandS.Zip
import HandS.Walk
import HandS.WordsDict
import PySem.Challenge.RW_callsheard_k04_first_path
set_option Elab.async false
set_option linter.all false
set_option maxRecDepth 100000
namespace My
open PySem PySem.Spec PyProof.Rows L2
theorem cxK {CX : CXT} {P : Program} {w : World} {K : PySem.W.Frag} {mg : Str → Option Value} {base : Heap} {N : List Str} {q : Str} {sc : Scope} {f : Addr} {cdv : Value} {A : Around} {outer : List Env} {s : Shared} {H : Hp} {E : XK} : (cxOf CX P w K mg base N q sc f cdv A outer s H E).nox.K = K := rfl
theorem cxK2 {CX : CXT} {P : Program} {w : World} {K : PySem.W.Frag} {mg : Str → Option Value} {base : Heap} {N : List Str} {q : Str} {sc : Scope} {f : Addr} {cdv : Value} {A : Around} {outer : List Env} {s : Shared} {H : Hp} {E : XK} : (cxOf CX P w K mg base N q sc f cdv A outer s H E).K = K := rfl
theorem cxP {CX : CXT} {P : Program} {w : World} {K : PySem.W.Frag} {mg : Str → Option Value} {base : Heap} {N : List Str} {q : Str} {sc : Scope} {f : Addr} {cdv : Value} {A : Around} {outer : List Env} {s : Shared} {H : Hp} {E : XK} : (cxOf CX P w K mg base N q sc f cdv A outer s H E).prog = P := rfl
theorem cxW {CX : CXT} {P : Program} {w : World} {K : PySem.W.Frag} {mg : Str → Option Value} {base : Heap} {N : List Str} {q : Str} {sc : Scope} {f : Addr} {cdv : Value} {A : Around} {outer : List Env} {s : Shared} {H : Hp} {E : XK} : (cxOf CX P w K mg base N q sc f cdv A outer s H E).w = w := rfl
/-- built-in names that the text has not bound -/
structure Bi (mg : Str → Option Value) : Prop where
  len : mg "len" = none
  abs : mg "abs" = none
  int : mg "int" = none
  range : mg "range" = none
  list : mg "list" = none
  tuple : mg "tuple" = none
  min : mg "min" = none
  max : mg "max" = none
  sorted : mg "sorted" = none
  isinstance : mg "isinstance" = none
  bool : mg "bool" = none
  str : mg "str" = none
  set : mg "set" = none
  enumerate : mg "enumerate" = none
/-- a def of the text, bound in the module, that keeps a promise -/
structure Df (P : Program) (w : World) (K : PySem.W.Frag) (mg : Str → Option Value) (base : Heap) (x : Str) (ps : List Str) (k : Nat) (sp : Sp) (f : Addr) (fd : FuncData) : Prop where
  at_ : mg x = some (.ref f)
  kp : PySem.W.keepIn K (.ref f) = true
  b : Binds K fd ps []
  ok : FnOk P w K mg base CX0 k f fd ps sp
local macro_rules | `(tactic| walk_at "rd") => `(tactic| try simp only [cxK, cxK2, cxP, cxW, L2.start, List.length_cons, List.length_nil, List.replicate_succ, List.replicate_zero, List.map_cons, List.map_nil, List.cons_append, List.nil_append, tVar, tC, tAdd, tSub, t2I, tIsN, tNotN, tB, tAnd, tOr, tNot, tAndV, tOrV, tNotV, tIf, tNext, tSeq, tBreak, tCont, tDrop, tRet, tRetN, tIfS, gName, gNil, gCons, gTup, gSub, tAsg, tOp, tUn, rI, rI0, rU, tTest, tChain, tNil, tCons, tTup, tLst, tCall, tCB, tNoPart, tPart, tSl, rIxL, rIxT, rIxS, rSetL, rAppend, rExtend, tBM, tBM0, tFld, tMeth, tMake, sFld, tYes, tLstRg, tRg1, tRg2, rSlL, iRng1, iRng2, iList, List.getElem?_cons_zero, List.getElem?_cons_succ, Option.some.injEq, List.cons.injEq, V.int.injEq, V.ref.injEq, V.bl.injEq, V.str.injEq, exists_eq_left', exists_eq_left, exists_eq_right, exists_eq_right', true_and, and_true, and_assoc, exists_and_left, exists_and_right, List.set_cons_zero, List.set_cons_succ, List.append_nil, reduceCtorEq, false_and, and_false, exists_false, or_false, false_or, decide_eq_true_eq, Nat.reduceAdd, Nat.reduceSub])
section
variable {X : Cx}
theorem cr_intI : CallR X (.type "int") (fun xs H Q => ∃ i, xs = [.int i] ∧ Q (.int i) H) := fun pins s σ H xs us Q I r h => call_int1 pins s σ H xs us Q I r (.inl h)
theorem op_eqI : OpR X (compareOp .Eq) (rI0 fun i j => .bl (decide (i = j))) := fun pins s σ H x y v u Q I rx ry h => by
  obtain ⟨i, j, rfl, rfl, q⟩ := h
  have e : decide (i = j) = decide (V.int i = V.int j) := by
    by_cases h : i = j
    · subst h
      rw [decide_eq_true rfl, decide_eq_true rfl]
    · rw [decide_eq_false h, decide_eq_false (fun z => h (V.int.inj z))]
  exact op_eq pins s σ H _ _ v u Q I rx ry ⟨rfl, by rw [← e]; exact q⟩
theorem op_neI : OpR X (compareOp .NotEq) (rI0 fun i j => .bl (!decide (i = j))) := fun pins s σ H x y v u Q I rx ry h => by
  obtain ⟨i, j, rfl, rfl, q⟩ := h
  have e : decide (i = j) = decide (V.int i = V.int j) := by
    by_cases h : i = j
    · subst h
      rw [decide_eq_true rfl, decide_eq_true rfl]
    · rw [decide_eq_false h, decide_eq_false (fun z => h (V.int.inj z))]
  exact op_ne pins s σ H _ _ v u Q I rx ry ⟨rfl, by rw [← e]; exact q⟩
def rIsT : R2 := fun x y H Q => ∃ b : Bool, y = .bl b ∧ Q (.bl (decide (x = .bl b))) H
/-- x is True, x is False -/
theorem op_isT : OpR X (compareOp .Is) rIsT := by
  intro pins s σ H x y v u Q I rx ry h
  obtain ⟨b, rfl, q⟩ := h
  cases (show u = Value.bool b from ry)
  cases x with
  | non => cases (show v = Value.none from rx); exact wpAny_is_other rfl (fun z => nomatch z) ⟨.bl false, H, I, rfl, by simpa using q⟩
  | bl a =>
    cases (show v = Value.bool a from rx)
    by_cases e : a = b
    · subst e
      exact wpAny_is_self rfl ⟨.bl true, H, I, rfl, by simpa using q⟩
    · exact wpAny_is_other rfl (fun z => e (Value.bool.inj z)) ⟨.bl false, H, I, rfl, by simpa [e] using q⟩
  | int i => obtain ⟨t, e⟩ := (show ∃ t, v = Value.int i t from rx); cases e; exact wpAny_is_other rfl (fun z => nomatch z) ⟨.bl false, H, I, rfl, by simpa using q⟩
  | str i => obtain ⟨t, e⟩ := (show ∃ t, v = Value.str i t from rx); cases e; exact wpAny_is_other rfl (fun z => nomatch z) ⟨.bl false, H, I, rfl, by simpa using q⟩
  | byt i => obtain ⟨t, e⟩ := (show ∃ t, v = Value.bytes i t from rx); cases e; exact wpAny_is_other rfl (fun z => nomatch z) ⟨.bl false, H, I, rfl, by simpa using q⟩
  | flt i => obtain ⟨t, e⟩ := (show ∃ t, v = Value.float i t from rx); cases e; exact wpAny_is_other rfl (fun z => nomatch z) ⟨.bl false, H, I, rfl, by simpa using q⟩
  | ref a => cases (show v = Value.ref a from rx); exact wpAny_is_other rfl (fun z => nomatch z) ⟨.bl false, H, I, rfl, by simpa using q⟩
  | ty n => cases (show v = Value.type n from rx); exact wpAny_is_other rfl (fun z => nomatch z) ⟨.bl false, H, I, rfl, by simpa using q⟩
end
theorem same_upd {H : Hp} {p : Addr} {o : HO} (h : H p = none) : Same H (upd H p o) := fun b x e => by
  rw [upd_ne (ne_of_none e h)]
  exact e
/-- a list that was new and is changed: what stood before stands -/
theorem same_ch {H0 H : Hp} {p : Addr} {o : HO} (s : Same H0 H) (n : H0 p = none) : Same H0 (upd H p o) := fun b x e => by
  rw [upd_ne (ne_of_none e n)]
  exact s _ _ e
theorem ixn {n j : Nat} {z : Int} (e : z = (j : Int)) (hj : j < n) : ixN n z = some j := by
  rw [e]
  unfold ixN
  rw [if_pos (by omega), if_pos (by omega)]
  simp
theorem len_big {n : Nat} (h : n ≤ 100000) : n < sizeLine := Nat.lt_of_le_of_lt h (by decide)
theorem mem_ix {α : Type} {l : List α} {i : Nat} (h : i < l.length) : ∃ x, l[i]? = some x ∧ x ∈ l := ⟨l[i], List.getElem?_eq_getElem h, List.getElem_mem h⟩

def topS (i : Nat) : Stmt := PySem.Challenge.pw_callsheard_k04_first_path.main.body.getD i (.Pass ⟨0, 0, 0, 0⟩)
abbrev sCell : Stmt := topS 13
abbrev sNum : Stmt := topS 14
def cellN (ns : List Int) (k : Nat) : Int := (ns.getD k 0).natAbs
theorem cellN_nn (ns : List Int) (k : Nat) : 0 ≤ cellN ns k := Int.natCast_nonneg _
section
variable {P : Program} {w : World} {K : PySem.W.Frag} {mg : Str → Option Value} {base : Heap}
theorem scCell : FnScope ["script", "k"] ["script", "k"] (defScope sCell) := ⟨rfl, rfl, rfl, by decide +kernel, rfl, by decide +kernel, by decide +kernel⟩
def spCell (K : PySem.W.Frag) : Sp := fun vs H Q _ => ∃ (a : Addr) (ns : List Int) (k : Nat), vs = [.ref a, .int k] ∧ SqL K H a (ns.map V.int) ∧ ∀ c, 0 ≤ c → Q (.int c) H
theorem ok_cell {f : Addr} {fd : FuncData} (F : Fun K "_law_cell" "_law_cell" sCell f fd) (T : Bi mg) : FnOk P w K mg base CX0 1 f fd ["script", "k"] (spCell K) := by
  refine F.ok scCell (fun vs H Q E h => ?_) (fun cdv A outer s H vs Q E hr h => ?_)
  · obtain ⟨a, ns, k, rfl, _⟩ := h
    rfl
  · obtain ⟨a, ns, k, rfl, hS, q⟩ := h
    refine ⟨_, (pss_cons (ps_if (pt_cmpR op_lt (pv 1) (pe_callB call_len_seq (by rfl) T.len (by decide +kernel) (pa_cons (pv 0) pa_nil)) (nomark _))
      (pss_one (ps_ret (pe_callB call_abs (by rfl) T.abs (by decide +kernel) (pa_cons (pe_callTy cr_intI (by rfl) T.int (by decide +kernel) (pa_cons (pe_ix ix_list (pv 0) (pv 1) (fun _ _ => rfl)) pa_nil)) pa_nil))))
      pss_nil)
      (pss_one (ps_ret pe_int))), ?_⟩
    walk_at "rd"
    refine ⟨_, .inl hS, ?_⟩
    rw [List.length_map]
    refine ite2 (fun hk => ?_) (fun _ => q _ (Int.le_refl _))
    have hk2 : k < ns.length := by omega
    refine ⟨_, hS, V.int ns[k], atI_nat (by rw [List.getElem?_map, List.getElem?_eq_getElem hk2]; rfl), _, rfl, ?_⟩
    refine q _ ?_
    split <;> omega
theorem scNum : FnScope ["cell", "count", "numbers", "rest", "mixed", "k"] ["cell", "count"] (defScope sNum) := ⟨rfl, rfl, rfl, by decide +kernel, rfl, by decide +kernel, by decide +kernel⟩
/-- n ints from 0 on below 997 -/
def Nums (n : Nat) (ns : List Int) : Prop := ns.length = n ∧ ∀ x ∈ ns, 0 ≤ x ∧ x < 997
def spNum (K : PySem.W.Frag) : Sp := fun vs H Q _ => ∃ (c : Int) (n : Nat), vs = [.int c, .int n] ∧ n ≤ 1000 ∧ ∀ ns p H', Nums n ns → Same H H' → H p = none → H' p = some (.lst (ns.map V.int)) → Q (.ref p) H'
theorem ok_num {f : Addr} {fd : FuncData} (F : Fun K "_law_numbers" "_law_numbers" sNum f fd) (T : Bi mg) : FnOk P w K mg base CX0 1 f fd ["cell", "count"] (spNum K) := by
  refine F.ok scNum (fun vs H Q E h => ?_) (fun cdv A outer s H vs Q E hr h => ?_)
  · obtain ⟨c, n, rfl, _⟩ := h
    rfl
  · obtain ⟨c, n, rfl, hn, q⟩ := h
    refine ⟨_, (pss_cons (ps_set (i := 2) scNum.nd rfl (Or.inl rfl) (pe_lst pa_nil))
      (pss_cons (ps_set (i := 3) scNum.nd rfl (Or.inl rfl) (pv 0))
      (pss_cons (ps_set (i := 4) scNum.nd rfl (Or.inl rfl) (pe_op op_mod (pe_callTy cr_intI (by rfl) T.int (by decide +kernel) (pa_cons (pe_op op_add (pe_op op_mul (pv 0) pe_int) pe_int) pa_nil)) pe_int))
      (pss_cons (ps_for PassesOwn.never rfl (pi_range1 (by rfl) T.range (pa_cons (pv 1) pa_nil)) (pg_name (i := 5) scNum.nd rfl (Or.inl rfl))
      (pss_cons (ps_set (i := 4) scNum.nd rfl (Or.inl rfl) (pe_op op_mod (pe_callTy cr_intI (by rfl) T.int (by decide +kernel) (pa_cons (pe_op op_add (pe_op op_add (pe_op op_mul (pv 4) pe_int) (pe_op op_mul pe_int (pv 5))) pe_int) pa_nil)) pe_int))
        (pss_one (ps_if (pt_cmpR op_ge (pv 0) (pe_op op_pow pe_int pe_int) (nomark _))
        (pss_cons (ps_expr (pe_bm PySem.F.plainAttrs_list PySem.F.slot_list_append PySem.F.type_list_append mt_append (pv 2) (pa_cons (pe_op op_mod (pe_callTy cr_intI (by rfl) T.int (by decide +kernel) (pa_cons (pv 3) pa_nil)) pe_int) pa_nil)))
          (pss_one (ps_set (i := 3) scNum.nd rfl (Or.inl rfl) (pe_op op_fdiv (pv 3) pe_int))))
        (pss_one (ps_expr (pe_bm PySem.F.plainAttrs_list PySem.F.slot_list_append PySem.F.type_list_append mt_append (pv 2) (pa_cons (pe_op op_mod (pe_callTy cr_intI (by rfl) T.int (by decide +kernel) (pa_cons (pe_op op_fdiv (pv 4) pe_int) pa_nil)) pe_int) pa_nil))))))))
      (pss_one (ps_ret (pv 2))))))), ?_⟩
    walk_at "rd"
    refine ⟨by decide, fun p np => ⟨.inr (by decide), by decide, ?_⟩⟩
    refine ⟨_, rfl, _, rfl, by omega, by omega, for_range (lo := 0) (n := (n : Int).toNat) (fun i σ H' => ∃ (ns : List Int) (rest mixed : Int) (v : Option V), σ = [some (.int c), some (.int n), some (.ref p), some (.int rest), some (.int mixed), v] ∧ Nums i ns ∧ Same H H' ∧ H' p = some (.lst (ns.map V.int)))
      ⟨[], c, _, none, rfl, ⟨rfl, fun x hx => by cases hx⟩, same_upd np, upd_same⟩ ?_ ?_⟩
    · rintro i σ H' hi ⟨ns, rest, mixed, v, rfl, hns, sm, hp⟩
      have small : (List.map V.int ns).length < sizeLine := len_big (by rw [List.length_map, hns.1]; omega)
      have next : ∀ y, 0 ≤ y → y < 997 → Nums (i + 1) (ns ++ [y]) := fun y h0 h1 => by
        refine ⟨by rw [List.length_append, hns.1]; rfl, fun x hx => ?_⟩
        rcases List.mem_append.mp hx with hx | hx
        · exact hns.2 x hx
        · rw [List.mem_singleton.mp hx]
          exact ⟨h0, h1⟩
      have ty : tyV K "list" (.ref p) H' := .inl ⟨rfl, _, SqL.of hp⟩
      walk_at "rd"
      refine ⟨.inr (by decide), .inl (by decide), by decide, ⟨by decide, by decide, by decide⟩, ite2 (fun _ => ?_) (fun _ => ?_)⟩
      · refine ⟨ty, by decide, _, hp, small, ⟨by decide, by decide⟩, ns ++ [rest % 997], next _ (Int.emod_nonneg _ (by decide)) (Int.emod_lt_of_pos _ (by decide)), same_ch sm np, ?_⟩
        rw [upd_same, List.map_append]
        rfl
      · refine ⟨ty, ⟨by decide, by decide⟩, by decide, _, hp, small, ns ++ [(mixed * 48271 + 7919 * (0 + (i : Int)) + 12345) % 2147483647 / 1009 % 997], next _ (Int.emod_nonneg _ (by decide)) (Int.emod_lt_of_pos _ (by decide)), same_ch sm np, ?_⟩
        rw [upd_same, List.map_append]
        rfl
    · rintro σ H' ⟨ns, rest, mixed, v, rfl, hns, sm, hp⟩
      walk_at "rd"
      exact q ns p H' (by simpa using hns) sm np hp
end

/-! ### pairs of ints in the heap -/
abbrev Pr := Int × Int
/-- v is a tuple of the two ints -/
def IsP (H : Hp) (v : V) (d : Pr) : Prop := ∃ t, v = .ref t ∧ H t = some (.tup [.int d.1, .int d.2])
def PL (H : Hp) (vs : List V) (D : List Pr) : Prop := Paired (IsP H) vs D
def kH (H : Hp) (v : V) : Pr := match v with
  | .ref t => match H t with
    | some (.tup [.int x, .int y]) => (x, y)
    | _ => (0, 0)
  | _ => (0, 0)
theorem IsP.k {H : Hp} {v : V} {d : Pr} (h : IsP H v d) : kH H v = d := by
  obtain ⟨t, rfl, e⟩ := h
  unfold kH
  simp only [e]
/-- tuples stand -/
def KT (H H' : Hp) : Prop := ∀ t xs, H t = some (.tup xs) → H' t = some (.tup xs)
theorem KT.refl (H : Hp) : KT H H := fun _ _ h => h
theorem KT.trans {H H1 H2 : Hp} (a : KT H H1) (b : KT H1 H2) : KT H H2 := fun t xs h => b t xs (a t xs h)
theorem KT.same {H H' : Hp} (s : Same H H') : KT H H' := fun t xs h => s t _ h
theorem KT.new {H : Hp} {p : Addr} {o : HO} (n : H p = none) : KT H (upd H p o) := KT.same (same_upd n)
theorem KT.ch {H : Hp} {p : Addr} {o o' : HO} (n : H p = some o') (ho : ∀ xs, o' ≠ .tup xs) : KT H (upd H p o) := fun t xs h => by
  rw [upd_ne]
  · exact h
  · rintro rfl
    rw [h] at n
    exact ho xs (Option.some.inj n).symm
theorem KT.lst {H : Hp} {p : Addr} {o : HO} {vs : List V} (n : H p = some (.lst vs)) : KT H (upd H p o) := KT.ch n (fun _ h => by cases h)
theorem IsP.kt {H H' : Hp} {v : V} {d : Pr} (h : IsP H v d) (k : KT H H') : IsP H' v d := by
  obtain ⟨t, e, h⟩ := h
  exact ⟨t, e, k _ _ h⟩
theorem PL.kt {H H' : Hp} {vs : List V} {D : List Pr} (h : PL H vs D) (k : KT H H') : PL H' vs D := Paired.mapP h fun _ _ q => q.kt k
theorem PL.len {H : Hp} {vs : List V} {D : List Pr} (h : PL H vs D) : vs.length = D.length := Paired.length h
theorem PL.nil0 (H : Hp) : PL H [] [] := Paired.nil
theorem PL.snoc {H : Hp} {vs : List V} {D : List Pr} {v : V} {d : Pr} (h : PL H vs D) (q : IsP H v d) : PL H (vs ++ [v]) (D ++ [d]) := Paired.snoc h q
theorem PL.get : ∀ {H : Hp} {vs : List V} {D : List Pr} {i : Nat} {v : V}, PL H vs D → vs[i]? = some v → ∃ d, D[i]? = some d ∧ IsP H v d
  | _, _, _, _, _, Paired.nil, e => by simp at e
  | _, _, _, 0, v, .cons r _, e => by
    have e2 := Option.some.inj e
    subst e2
    exact ⟨_, rfl, r⟩
  | _, _, _, i + 1, v, .cons _ t, e => PL.get (i := i) t e
theorem PL.get2 : ∀ {H : Hp} {vs : List V} {D : List Pr} {i : Nat} {d : Pr}, PL H vs D → D[i]? = some d → ∃ v, vs[i]? = some v ∧ IsP H v d
  | _, _, _, _, _, Paired.nil, e => by simp at e
  | _, _, _, 0, v, .cons r _, e => by
    have e2 := Option.some.inj e
    subst e2
    exact ⟨_, rfl, r⟩
  | _, _, _, i + 1, v, .cons _ t, e => PL.get2 (i := i) t e
theorem PL.toK : ∀ {H : Hp} {vs : List V} {D : List Pr}, PL H vs D → D = vs.map (kH H) ∧ ∀ v ∈ vs, IsP H v (kH H v)
  | _, _, _, Paired.nil => ⟨rfl, fun v hv => by cases hv⟩
  | H, _, _, .cons r t => by
    obtain ⟨e, h⟩ := PL.toK t
    have q := r.k
    refine ⟨by rw [List.map_cons, ← e, q], fun v hv => ?_⟩
    rcases List.mem_cons.mp hv with rfl | hv
    · rw [q]
      exact r
    · exact h v hv
theorem PL.ofK {H : Hp} : ∀ {vs : List V}, (∀ v ∈ vs, IsP H v (kH H v)) → PL H vs (vs.map (kH H))
  | [], _ => Paired.nil
  | v :: vs, h => .cons (h v List.mem_cons_self) (PL.ofK fun u hu => h u (List.mem_cons_of_mem _ hu))
/-! ### sorted lists of pairs -/
def lt2 (p q : Pr) : Prop := p.1 < q.1 ∨ (p.1 = q.1 ∧ p.2 < q.2)
def Asc (D : List Pr) : Prop := D.Pairwise lt2
theorem lt2_irr (p : Pr) : ¬ lt2 p p := by
  unfold lt2
  omega
theorem lt2_ne {p q : Pr} (h : lt2 p q) : p ≠ q := by
  rintro rfl
  exact lt2_irr p h
theorem Asc.nodup {D : List Pr} (h : Asc D) : D.Nodup := List.Pairwise.imp lt2_ne h
theorem asc_of {D : List Pr} (nd : D.Nodup) (h : D.Pairwise fun x y => ¬ lt2 y x) : Asc D := by
  induction D with
  | nil => exact List.Pairwise.nil
  | cons p D ih =>
    obtain ⟨h1, h2⟩ := List.pairwise_cons.mp h
    obtain ⟨n1, n2⟩ := List.nodup_cons.mp nd
    refine List.pairwise_cons.mpr ⟨fun q hq => ?_, ih n2 h2⟩
    have a := h1 q hq
    have b : p ≠ q := fun e => n1 (by rw [e]; exact hq)
    unfold lt2 at a ⊢
    obtain ⟨p1, p2⟩ := p
    obtain ⟨q1, q2⟩ := q
    have c : ¬ (p1 = q1 ∧ p2 = q2) := fun ⟨e1, e2⟩ => b (by rw [e1, e2])
    simp only at a ⊢
    omega
/-- two ascending lists with the same pairs are one -/
theorem asc_uniq : ∀ {D E : List Pr}, Asc D → Asc E → (∀ p, p ∈ D ↔ p ∈ E) → D = E
  | [], [], _, _, _ => rfl
  | [], q :: E, _, _, h => by
    have := (h q).mpr List.mem_cons_self
    cases this
  | p :: D, [], _, _, h => by
    have := (h p).mp List.mem_cons_self
    cases this
  | p :: D, q :: E, hD, hE, h => by
    obtain ⟨a1, a2⟩ := List.pairwise_cons.mp hD
    obtain ⟨b1, b2⟩ := List.pairwise_cons.mp hE
    have e : p = q := by
      rcases List.mem_cons.mp ((h p).mp List.mem_cons_self) with e | hp
      · exact e
      · rcases List.mem_cons.mp ((h q).mpr List.mem_cons_self) with e | hq
        · exact e.symm
        · have c1 := b1 p hp
          have c2 := a1 q hq
          unfold lt2 at c1 c2
          omega
    subst e
    rw [asc_uniq a2 b2 fun z => ?_]
    constructor
    · intro hz
      rcases List.mem_cons.mp ((h z).mp (List.mem_cons_of_mem _ hz)) with e | hz2
      · subst e
        exact absurd (a1 z hz) (lt2_irr z)
      · exact hz2
    · intro hz
      rcases List.mem_cons.mp ((h z).mpr (List.mem_cons_of_mem _ hz)) with e | hz2
      · subst e
        exact absurd (b1 z hz) (lt2_irr z)
      · exact hz2
theorem srtd_asc {H : Hp} {ys : List V} (nd : (ys.map (kH H)).Nodup) (h : SrtO.Srtd (ltP (kH H)) ys) : Asc (ys.map (kH H)) := by
  refine asc_of nd (List.pairwise_map.mpr (List.Pairwise.imp (fun {x y} h => ?_) h))
  exact SrtO.lexB_no.mp h
/-- doors of a house with r rooms -/
structure Drs (r : Nat) (D : List Pr) : Prop where
  asc : Asc D
  ok : ∀ d ∈ D, 0 ≤ d.1 ∧ d.1 < d.2 ∧ d.2 < r
def cd (d : Pr) : Nat := (d.1 * 12 + d.2).toNat
theorem drs_len' {r : Nat} {D : List Pr} (hr : r ≤ 12) (nd : D.Nodup) (ok : ∀ d ∈ D, 0 ≤ d.1 ∧ d.1 < d.2 ∧ d.2 < r) : D.length ≤ 66 := by
  have h1 : (D.map cd).Nodup := by
    refine List.pairwise_map.mpr (List.Pairwise.imp_of_mem (fun {x y} hx hy hne e => ?_) nd)
    have a := ok x hx
    have b := ok y hy
    unfold cd at e
    obtain ⟨x1, x2⟩ := x
    obtain ⟨y1, y2⟩ := y
    simp only at a b e
    have : x1 = y1 ∧ x2 = y2 := by omega
    exact hne (by rw [this.1, this.2])
  have h2 : ∀ c ∈ D.map cd, c ∈ (List.range 144).filter fun c => c / 12 < c % 12 := fun c hc => by
    obtain ⟨d, hd, rfl⟩ := List.mem_map.mp hc
    have a := ok d hd
    refine List.mem_filter.mpr ⟨List.mem_range.mpr ?_, ?_⟩
    · unfold cd
      omega
    · rw [decide_eq_true_eq]
      unfold cd
      omega
  have h3 := nat_nodup_len (D.map cd) _ h1 h2
  rw [List.length_map] at h3
  exact Nat.le_trans h3 (by decide)
theorem Drs.len {r : Nat} {D : List Pr} (hr : r ≤ 12) (h : Drs r D) : D.length ≤ 66 := drs_len' hr h.asc.nodup h.ok

abbrev sNam : Stmt := topS 15
abbrev sJnd : Stmt := topS 16
theorem sub_lt_of {i n : Nat} (h : i < n) : (0 : Int) < (n : Int) - (i : Int) := by omega
/-- the ints from 0 on below n -/
def rg (n : Nat) : List Int := (List.range n).map Int.ofNat
theorem rg_len (n : Nat) : (rg n).length = n := by unfold rg; rw [List.length_map, List.length_range]
theorem rgV_rg (n : Nat) : rgV 0 (n : Int) = (rg n).map V.int := by
  unfold rgV rg
  rw [List.map_map]
  show List.map _ (List.range ((n : Int) - 0).toNat) = _
  rw [show ((n : Int) - 0).toNat = n by omega]
  refine List.map_congr_left fun i _ => ?_
  show V.int (0 + (i : Int)) = V.int (i : Int)
  rw [Int.zero_add]
theorem set_map {α β : Type} (f : α → β) (l : List α) (i : Nat) (x : α) : (l.map f).set i (f x) = (l.set i x).map f := by
  rw [List.map_set]
section
variable {P : Program} {w : World} {K : PySem.W.Frag} {mg : Str → Option Value} {base : Heap}
theorem scNam : FnScope ["numbers", "at", "rooms", "names", "k", "j", "kept"] ["numbers", "at", "rooms"] (defScope sNam) := ⟨rfl, rfl, rfl, by decide +kernel, rfl, by decide +kernel, by decide +kernel⟩
def spNam (K : PySem.W.Frag) : Sp := fun vs H Q _ => ∃ (a : Addr) (ns : List Int) (at_ r : Nat), vs = [.ref a, .int at_, .int r] ∧ SqL K H a (ns.map V.int) ∧ at_ + r ≤ ns.length ∧ r ≤ 1000 ∧
  ∀ xs p H', List.Perm xs (rg r) → Same H H' → H p = none → H' p = some (.lst (xs.map V.int)) → Q (.ref p) H'
theorem ok_nam {f : Addr} {fd : FuncData} (F : Fun K "_law_names" "_law_names" sNam f fd) (T : Bi mg) : FnOk P w K mg base CX0 1 f fd ["numbers", "at", "rooms"] (spNam K) := by
  refine F.ok scNam (fun vs H Q E h => ?_) (fun cdv A outer s H vs Q E hr h => ?_)
  · obtain ⟨a, ns, at_, r, rfl, _⟩ := h
    rfl
  · obtain ⟨a, ns, at_, r, rfl, hS, hat, hr1, q⟩ := h
    refine ⟨_, (pss_cons (ps_set (i := 3) scNam.nd rfl (Or.inl rfl) (pe_listRg rfl (by rfl) T.list (prg_1 (by rfl) T.range (pv 2))))
      (pss_cons (ps_for PassesOwn.never rfl (pi_range1 (by rfl) T.range (pa_cons (pv 2) pa_nil)) (pg_name (i := 4) scNam.nd rfl (Or.inl rfl))
      (pss_cons (ps_set (i := 5) scNam.nd rfl (Or.inl rfl) (pe_op op_add (pv 4) (pe_op op_mod (pe_callTy cr_intI (by rfl) T.int (by decide +kernel) (pa_cons (pe_ix ix_list (pv 0) (pe_op op_add (pv 1) (pv 4)) (fun _ _ => rfl)) pa_nil)) (pe_op op_sub (pv 2) (pv 4)))))
        (pss_cons (ps_set (i := 6) scNam.nd rfl (Or.inl rfl) (pe_ix ix_list (pv 3) (pv 4) (fun _ _ => rfl)))
        (pss_cons (ps_asg (pe_ix ix_list (pv 3) (pv 5) (fun _ _ => rfl)) (pg_sub (pv 3) (pv 4) set_list))
        (pss_one (ps_asg (pv 6) (pg_sub (pv 3) (pv 5) set_list)))))))
      (pss_one (ps_ret (pv 3))))), ?_⟩
    walk_at "rd"
    refine ⟨RgOk.of_le (by omega) (by omega) (by omega) (by omega), fun p np => ?_⟩
    refine ⟨_, rfl, r, rfl, by omega, by omega, for_range (lo := 0) (n := (r : Int).toNat) (fun i σ H' => ∃ (xs : List Int) (v1 v2 v3 : Option V), σ = [some (.ref a), some (.int at_), some (.int r), some (.ref p), v1, v2, v3] ∧ List.Perm xs (rg r) ∧ Same H H' ∧ H' p = some (.lst (xs.map V.int)))
      ⟨rg r, none, none, none, rfl, List.Perm.refl _, same_upd np, by rw [upd_same, rgV_rg]⟩ ?_ ?_⟩
    · rintro i σ H' hi ⟨xs, v1, v2, v3, rfl, pm, sm, hp⟩
      have hi2 : i < r := by omega
      have hl : xs.length = r := by rw [pm.length_eq, rg_len]
      have hS' := sm.seq hS
      have hn : at_ + i < ns.length := by omega
      have hq : SqL K H' p (xs.map V.int) := SqL.of hp
      walk_at "rd"
      have hj0 := Int.emod_nonneg ns[at_ + i] (show ((r : Int) - (0 + (i : Int))) ≠ 0 by omega)
      have hj1 := Int.emod_lt_of_pos ns[at_ + i] (show 0 < ((r : Int) - (0 + (i : Int))) by omega)
      obtain ⟨j, hj⟩ : ∃ j : Nat, (0 + (i : Int)) + ns[at_ + i] % ((r : Int) - (0 + (i : Int))) = j := ⟨((0 + (i : Int)) + ns[at_ + i] % ((r : Int) - (0 + (i : Int)))).toNat, by omega⟩
      have hjr : j < r := by omega
      have gi : (xs.map V.int)[i]? = some (.int xs[i]) := by rw [List.getElem?_map, List.getElem?_eq_getElem (by omega)]; rfl
      have gj : (xs.map V.int)[j]? = some (.int xs[j]) := by rw [List.getElem?_map, List.getElem?_eq_getElem (by omega)]; rfl
      refine ⟨_, hS', .int ns[at_ + i], at_of (j := at_ + i) (by omega) (by rw [List.getElem?_map, List.getElem?_eq_getElem hn]; rfl), _, rfl, by omega, _, hq, .int xs[i], at_of (by omega) gi, _, hq, .int xs[j], at_of hj gj, _, hp, i, ixn (by omega) (by rw [List.length_map]; omega), _, upd_same, j, ixn hj (by rw [List.length_set, List.length_map]; omega), (xs.set i xs[j]).set j xs[i], (List.set_set_perm (by omega) (by omega)).trans pm, same_ch (same_ch sm np) np, ?_⟩
      rw [upd_same, set_map, set_map]
    · rintro σ H' ⟨xs, v1, v2, v3, rfl, pm, sm, hp⟩
      walk_at "rd"
      exact q xs p H' pm sm np hp
theorem scJnd : FnScope ["kind", "a", "b", "rooms", "number", "parent"] ["kind", "a", "b", "rooms", "number", "parent"] (defScope sJnd) := ⟨rfl, rfl, rfl, by decide +kernel, rfl, by decide +kernel, by decide +kernel⟩
def spJnd : Sp := fun vs H Q _ => ∃ (kd a b r n p : Int), vs = [.int kd, .int a, .int b, .int r, .int n, .int p] ∧ 0 < b ∧ ∀ c, Q (.bl c) H
theorem ok_jnd {f : Addr} {fd : FuncData} (F : Fun K "_law_joined" "_law_joined" sJnd f fd) (T : Bi mg) : FnOk P w K mg base CX0 1 f fd ["kind", "a", "b", "rooms", "number", "parent"] spJnd := by
  refine F.ok scJnd (fun vs H Q E h => ?_) (fun cdv A outer s H vs Q E hr h => ?_)
  · obtain ⟨kd, a, b, r, n, p, rfl, _⟩ := h
    rfl
  · obtain ⟨kd, a, b, r, n, p, rfl, hb, q⟩ := h
    refine ⟨_, (pss_cons (ps_if (pt_cmpR op_eqI (pv 0) pe_int (nomark _))
      (pss_one (ps_ret (pe_cmpR op_eqI (pv 1) pe_int (nomark _))))
      pss_nil)
      (pss_cons (ps_if (pt_cmpR op_eqI (pv 0) pe_int (nomark _))
      (pss_one (ps_ret (pe_or (pe_cmpR op_eqI (pv 2) (pe_op op_add (pv 1) pe_int) (nomark _)) (pe_one (pe_and (pe_cmpR op_eqI (pv 1) pe_int (nomark _)) (pe_one (pe_cmpR op_eqI (pv 2) (pe_op op_sub (pv 3) pe_int) (nomark _))))))))
      pss_nil)
      (pss_cons (ps_if (pt_cmpR op_eqI (pv 0) pe_int (nomark _))
      (pss_one (ps_ret pe_bl))
      pss_nil)
      (pss_cons (ps_if (pt_cmpR op_eqI (pv 0) pe_int (nomark _))
      (pss_one (ps_ret (pe_cmpR op_eqI (pv 1) (pe_op op_mod (pe_callTy cr_intI (by rfl) T.int (by decide +kernel) (pa_cons (pv 5) pa_nil)) (pv 2)) (nomark _))))
      pss_nil)
      (pss_cons (ps_if (pt_cmpR op_eqI (pv 0) pe_int (nomark _))
      (pss_one (ps_ret (pe_cmpR op_eqI (pe_op op_mod (pe_callTy cr_intI (by rfl) T.int (by decide +kernel) (pa_cons (pv 4) pa_nil)) pe_int) pe_int (nomark _))))
      pss_nil)
      (pss_cons (ps_if (pt_cmpR op_eqI (pv 0) pe_int (nomark _))
      (pss_one (ps_ret (pe_cmpR op_eqI (pe_op op_mod (pe_callTy cr_intI (by rfl) T.int (by decide +kernel) (pa_cons (pv 4) pa_nil)) pe_int) pe_int (nomark _))))
      pss_nil)
      (pss_cons (ps_if (pt_cmpR op_eqI (pv 0) pe_int (nomark _))
      (pss_one (ps_ret (pe_cmpR op_neI (pe_op op_mod (pe_callTy cr_intI (by rfl) T.int (by decide +kernel) (pa_cons (pv 4) pa_nil)) pe_int) pe_int (nomark _))))
      pss_nil)
      (pss_one (ps_ret (pe_cmpR op_eqI (pv 2) (pe_op op_add (pv 1) pe_int) (nomark _))))))))))), ?_⟩
    walk_at "rd"
    repeat (first | exact q _ | exact hb | decide | refine ⟨?_, ?_⟩ | refine ite2 (fun _ => ?_) (fun _ => ?_) | split)
end

abbrev sDrs : Stmt := topS 17
/-- min and max of the two names -/
def mm (xs : List Int) (p : Nat × Nat) : Pr := (if xs.getD p.2 0 < xs.getD p.1 0 then xs.getD p.2 0 else xs.getD p.1 0, if xs.getD p.2 0 > xs.getD p.1 0 then xs.getD p.2 0 else xs.getD p.1 0)
/-- pairs that have been met when the outer loop stands at b, the inner at a -/
structure Vis (r b a : Nat) (L : List (Nat × Nat)) : Prop where
  ok : ∀ p ∈ L, p.1 < p.2 ∧ p.2 < r ∧ (p.2 < b ∨ (p.2 = b ∧ p.1 < a))
  nd : L.Nodup
theorem Vis.zero (r : Nat) : Vis r 1 0 [] := ⟨fun p h => (by cases h), List.nodup_nil⟩
theorem Vis.skip {r b a : Nat} {L : List (Nat × Nat)} (h : Vis r b a L) : Vis r b (a + 1) L := by
  refine ⟨fun p hp => ?_, h.nd⟩
  have := h.ok p hp
  omega
theorem Vis.row {r b : Nat} {L : List (Nat × Nat)} (h : Vis r b b L) : Vis r (b + 1) 0 L := by
  refine ⟨fun p hp => ?_, h.nd⟩
  have := h.ok p hp
  omega
theorem Vis.more {r b a : Nat} {L : List (Nat × Nat)} (h : Vis r b a L) (hb : b < r) (ha : a < b) : Vis r b (a + 1) (L ++ [(a, b)]) := by
  refine ⟨fun p hp => ?_, ?_⟩
  · rcases List.mem_append.mp hp with hp | hp
    · have := h.ok p hp
      omega
    · rw [List.mem_singleton.mp hp]
      exact ⟨ha, hb, .inr ⟨rfl, Nat.lt_succ_self a⟩⟩
  · refine List.nodup_append.mpr ⟨h.nd, by simp, fun p hp q hq => ?_⟩
    rw [List.mem_singleton.mp hq]
    rintro rfl
    have := h.ok _ hp
    simp only at this
    omega
theorem rg_nodup (n : Nat) : (rg n).Nodup := by
  unfold rg
  exact List.pairwise_map.mpr (List.Pairwise.imp (fun {x y} h e => h (Int.ofNat.inj e)) List.nodup_range)
theorem rg_mem {n : Nat} {x : Int} (h : x ∈ rg n) : 0 ≤ x ∧ x < n := by
  obtain ⟨i, hi, rfl⟩ := List.mem_map.mp h
  have := List.mem_range.mp hi
  show 0 ≤ (i : Int) ∧ (i : Int) < n
  omega
/-- names: each room once -/
structure Nms (r : Nat) (xs : List Int) : Prop where
  pm : xs.Perm (rg r)
theorem Nms.len {r : Nat} {xs : List Int} (h : Nms r xs) : xs.length = r := by rw [h.pm.length_eq, rg_len]
theorem Nms.nd {r : Nat} {xs : List Int} (h : Nms r xs) : xs.Nodup := h.pm.nodup_iff.mpr (rg_nodup r)
theorem Nms.bd {r : Nat} {xs : List Int} (h : Nms r xs) {i : Nat} (hi : i < r) : 0 ≤ xs.getD i 0 ∧ xs.getD i 0 < r := by
  have hl := h.len
  have e : xs.getD i 0 = xs[i] := by rw [List.getD_eq_getElem?_getD, List.getElem?_eq_getElem (by omega)]; rfl
  rw [e]
  exact rg_mem (h.pm.mem_iff.mp (List.getElem_mem _))
theorem Nms.inj {r : Nat} {xs : List Int} (h : Nms r xs) {i j : Nat} (hi : i < r) (hj : j < r) (e : xs.getD i 0 = xs.getD j 0) : i = j := by
  have hl := h.len
  have e1 : xs.getD i 0 = xs[i] := by rw [List.getD_eq_getElem?_getD, List.getElem?_eq_getElem (by omega)]; rfl
  have e2 : xs.getD j 0 = xs[j] := by rw [List.getD_eq_getElem?_getD, List.getElem?_eq_getElem (by omega)]; rfl
  rw [e1, e2] at e
  refine nd_ix h.nd (List.getElem?_eq_getElem (by omega)) ?_
  rw [e]
  exact List.getElem?_eq_getElem (by omega)
theorem mm_ok {r : Nat} {xs : List Int} (h : Nms r xs) {p : Nat × Nat} (h1 : p.1 < p.2) (h2 : p.2 < r) : 0 ≤ (mm xs p).1 ∧ (mm xs p).1 < (mm xs p).2 ∧ (mm xs p).2 < r := by
  have a := h.bd (i := p.1) (by omega)
  have b := h.bd (i := p.2) h2
  have ne : xs.getD p.1 0 ≠ xs.getD p.2 0 := fun e => by
    have := h.inj (i := p.1) (j := p.2) (by omega) h2 e
    omega
  unfold mm
  simp only
  split <;> split <;> omega
theorem mm_inj {r : Nat} {xs : List Int} (h : Nms r xs) {p q : Nat × Nat} (p1 : p.1 < p.2) (p2 : p.2 < r) (q1 : q.1 < q.2) (q2 : q.2 < r) (e : mm xs p = mm xs q) : p = q := by
  have e1 := congrArg Prod.fst e
  have e2 := congrArg Prod.snd e
  unfold mm at e1 e2
  simp only at e1 e2
  have k : (xs.getD p.1 0 = xs.getD q.1 0 ∧ xs.getD p.2 0 = xs.getD q.2 0) ∨ (xs.getD p.1 0 = xs.getD q.2 0 ∧ xs.getD p.2 0 = xs.getD q.1 0) := by
    split at e1 <;> split at e1 <;> split at e2 <;> split at e2 <;> omega
  rcases k with ⟨k1, k2⟩ | ⟨k1, k2⟩
  · have a := h.inj (by omega) (by omega) k1
    have b := h.inj (by omega) (by omega) k2
    exact Prod.ext a b
  · have a := h.inj (by omega) (by omega) k1
    have b := h.inj (by omega) (by omega) k2
    omega
theorem vis_nd {r b a : Nat} {xs : List Int} {L : List (Nat × Nat)} (h : Nms r xs) (v : Vis r b a L) : (L.map (mm xs)).Nodup := by
  refine List.pairwise_map.mpr (List.Pairwise.imp_of_mem (fun {p q} hp hq hne e => ?_) v.nd)
  have a := v.ok p hp
  have b := v.ok q hq
  exact hne (mm_inj h a.1 a.2.1 b.1 b.2.1 e)
theorem vis_ok {r b a : Nat} {xs : List Int} {L : List (Nat × Nat)} (h : Nms r xs) (v : Vis r b a L) : ∀ d ∈ L.map (mm xs), 0 ≤ d.1 ∧ d.1 < d.2 ∧ d.2 < r := fun d hd => by
  obtain ⟨p, hp, rfl⟩ := List.mem_map.mp hd
  have a := v.ok p hp
  exact mm_ok h a.1 a.2.1
theorem tri {b : Nat} (h : b ≤ 11) : (b : Int) * ((b : Int) - 1) / 2 ≤ 55 ∧ 0 ≤ (b : Int) * ((b : Int) - 1) / 2 := by
  have : b = 0 ∨ b = 1 ∨ b = 2 ∨ b = 3 ∨ b = 4 ∨ b = 5 ∨ b = 6 ∨ b = 7 ∨ b = 8 ∨ b = 9 ∨ b = 10 ∨ b = 11 := by omega
  rcases this with rfl | rfl | rfl | rfl | rfl | rfl | rfl | rfl | rfl | rfl | rfl | rfl <;> decide
section
variable {P : Program} {w : World} {K : PySem.W.Frag} {mg : Str → Option Value} {base : Heap}
theorem scDrs : FnScope ["numbers", "rooms", "kind", "names", "doors", "b", "first", "a"] ["numbers", "rooms"] (defScope sDrs) := ⟨rfl, rfl, rfl, by decide +kernel, rfl, by decide +kernel, by decide +kernel⟩
def spDrs (K : PySem.W.Frag) : Sp := fun vs H Q _ => ∃ (a : Addr) (ns : List Int) (r : Nat), vs = [.ref a, .int r] ∧ SqL K H a (ns.map V.int) ∧ 79 ≤ ns.length ∧ 1 ≤ r ∧ r ≤ 12 ∧
  ∀ D vs p H', Drs r D → Same H H' → H p = none → H' p = some (.lst vs) → PL H' vs D → Q (.ref p) H'
theorem ok_drs {f fN fJ : Addr} {fd fdN fdJ : FuncData} (F : Fun K "_law_doors" "_law_doors" sDrs f fd) (T : Bi mg) (d__law_names : Df P w K mg base "_law_names" ["numbers", "at", "rooms"] 1 (spNam K) fN fdN)
    (d__law_joined : Df P w K mg base "_law_joined" ["kind", "a", "b", "rooms", "number", "parent"] 1 spJnd fJ fdJ) : FnOk P w K mg base CX0 2 f fd ["numbers", "rooms"] (spDrs K) := by
  refine F.ok scDrs (fun vs H Q E h => ?_) (fun cdv A outer s H vs Q E hr h => ?_)
  · obtain ⟨a, ns, r, rfl, _⟩ := h
    rfl
  · obtain ⟨a, ns, r, rfl, hS, hn, hr1, hr12, q⟩ := h
    refine ⟨_, (pss_cons (ps_set (i := 2) scDrs.nd rfl (Or.inl rfl) (pe_op op_mod (pe_callTy cr_intI (by rfl) T.int (by decide +kernel) (pa_cons (pe_ix ix_list (pv 0) pe_int (fun _ _ => rfl)) pa_nil)) pe_int))
      (pss_cons (ps_set (i := 3) scDrs.nd rfl (Or.inl rfl) (pe_call d__law_names.ok (hr.mono (by decide)) (by rfl) d__law_names.at_ d__law_names.kp d__law_names.b .nil pass0 (pa_cons (pv 0) (pa_cons pe_int (pa_cons (pv 1) pa_nil)))))
      (pss_cons (ps_set (i := 4) scDrs.nd rfl (Or.inl rfl) (pe_lst pa_nil))
      (pss_cons (ps_for PassesOwn.never rfl (pi_range2 (by rfl) T.range (pa_cons pe_int (pa_cons (pv 1) pa_nil))) (pg_name (i := 5) scDrs.nd rfl (Or.inl rfl))
      (pss_cons (ps_set (i := 6) scDrs.nd rfl (Or.inl rfl) (pe_op op_add (pe_op op_add pe_int (pv 1)) (pe_op op_fdiv (pe_op op_mul (pv 5) (pe_op op_sub (pv 5) pe_int)) pe_int)))
        (pss_one (ps_for PassesOwn.never rfl (pi_range1 (by rfl) T.range (pa_cons (pv 5) pa_nil)) (pg_name (i := 7) scDrs.nd rfl (Or.inl rfl))
        (pss_one (ps_if (pt_truth (pe_call d__law_joined.ok (hr.mono (by decide)) (by rfl) d__law_joined.at_ d__law_joined.kp d__law_joined.b .nil pass0 (pa_cons (pv 2) (pa_cons (pv 7) (pa_cons (pv 5) (pa_cons (pv 1) (pa_cons (pe_ix ix_list (pv 0) (pe_op op_add (pv 6) (pv 7)) (fun _ _ => rfl)) (pa_cons (pe_ix ix_list (pv 0) (pv 6) (fun _ _ => rfl)) pa_nil))))))) (by intro _; rfl))
          (pss_one (ps_expr (pe_bm PySem.F.plainAttrs_list PySem.F.slot_list_append PySem.F.type_list_append mt_append (pv 4) (pa_cons (pe_tup (pa_cons (pe_callB (call_min2 rfl) (by rfl) T.min (by decide +kernel) (pa_cons (pe_ix ix_list (pv 3) (pv 7) (fun _ _ => rfl)) (pa_cons (pe_ix ix_list (pv 3) (pv 5) (fun _ _ => rfl)) pa_nil))) (pa_cons (pe_callB (call_max2 rfl) (by rfl) T.max (by decide +kernel) (pa_cons (pe_ix ix_list (pv 3) (pv 7) (fun _ _ => rfl)) (pa_cons (pe_ix ix_list (pv 3) (pv 5) (fun _ _ => rfl)) pa_nil))) pa_nil))) pa_nil))))
          pss_nil))))))
      (pss_one (ps_ret (pe_callB cr_sortedPO (by rfl) T.sorted (by decide +kernel) (pa_cons (pv 4) pa_nil)))))))), ?_⟩
    have at_n : ∀ (k : Nat) (hk : k < ns.length), (ns.map V.int)[k]? = some (.int ns[k]) := fun k hk => by
      rw [List.getElem?_map, List.getElem?_eq_getElem hk]
      rfl
    walk_at "rd"
    refine ⟨_, hS, .int ns[0], at_of (j := 0) rfl (at_n 0 (by omega)), _, rfl, by decide, a, ns, 1, r, rfl, hS, by omega, by omega, fun xs pn H1 pm s1 nn hN => ?_⟩
    have N : Nms r xs := ⟨pm⟩
    have hl := N.len
    walk_at "rd"
    refine ⟨Nat.zero_le _, fun p np => ?_⟩
    obtain ⟨Pv, hPv⟩ : ∃ Pv : Nat → L2.St → Hp → Prop, Pv = (fun i σ H' => ∃ (L : List (Nat × Nat)) (vs : List V) (v5 v6 v7 : Option V), σ = [some (.ref a), some (.int r), some (.int (ns[0] % 8)), some (.ref pn), some (.ref p), v5, v6, v7] ∧ Vis r (i + 1) 0 L ∧ Same H1 H' ∧ H' p = some (.lst vs) ∧ PL H' vs (L.map (mm xs))) := ⟨_, rfl⟩
    refine ⟨_, rfl, 1, (r : Int), rfl, ⟨by omega, by omega, by omega, by omega⟩, for_range (lo := 1) (n := ((r : Int) - 1).toNat) Pv (by rw [hPv]; exact ⟨[], [], none, none, none, rfl, Vis.zero r, same_upd np, upd_same, PL.nil0 _⟩) ?_ ?_⟩
    · rintro i σ H' hi pv
      have nxt : ∀ L vs v5 v6 v7 H', Vis r (i + 1 + 1) 0 L → Same H1 H' → H' p = some (.lst vs) → PL H' vs (L.map (mm xs)) → Pv (i + 1) [some (.ref a), some (.int r), some (.int (ns[0] % 8)), some (.ref pn), some (.ref p), v5, v6, v7] H' := fun L vs v5 v6 v7 H' h1 h2 h3 h4 => by
        rw [hPv]
        exact ⟨L, vs, v5, v6, v7, rfl, h1, h2, h3, h4⟩
      rw [hPv] at pv
      obtain ⟨L, vs, v5, v6, v7, rfl, vis, s2, hp, pl⟩ := pv
      have hb : i + 1 ≤ 11 := by omega
      have tr := tri hb
      have eb : (1 : Int) + (i : Int) = ((i + 1 : Nat) : Int) := by omega
      obtain ⟨fi, hfi⟩ : ∃ fi : Nat, (1 : Int) + (r : Int) + (1 + (i : Int)) * (1 + (i : Int) - 1) / 2 = fi ∧ fi ≤ 68 := by
        rw [eb]
        exact ⟨(1 + (r : Int) + ((i + 1 : Nat) : Int) * (((i + 1 : Nat) : Int) - 1) / 2).toNat, by omega, by omega⟩
      walk_at "rd"
      refine ⟨.inl (by omega), ⟨by decide, by decide⟩, ?_⟩
      rw [hfi.1]
      obtain ⟨Pw, hPw⟩ : ∃ Pw : Nat → L2.St → Hp → Prop, Pw = (fun j σ H' => ∃ (L : List (Nat × Nat)) (vs : List V) (v7 : Option V), σ = [some (.ref a), some (.int r), some (.int (ns[0] % 8)), some (.ref pn), some (.ref p), some (.int (1 + (i : Int))), some (.int fi), v7] ∧ Vis r (i + 1) j L ∧ Same H1 H' ∧ H' p = some (.lst vs) ∧ PL H' vs (L.map (mm xs))) := ⟨_, rfl⟩
      refine ⟨_, rfl, 1 + (i : Int), rfl, by omega, by omega, for_range (lo := 0) (n := (1 + (i : Int)).toNat) Pw (by rw [hPw]; exact ⟨L, vs, v7, rfl, vis, s2, hp, pl⟩) ?_ ?_⟩
      · clear hp pl s2 vis vs L v7
        rintro j σ H' hj pv
        have nxw : ∀ L vs v7 H', Vis r (i + 1) (j + 1) L → Same H1 H' → H' p = some (.lst vs) → PL H' vs (L.map (mm xs)) → Pw (j + 1) [some (.ref a), some (.int r), some (.int (ns[0] % 8)), some (.ref pn), some (.ref p), some (.int (1 + (i : Int))), some (.int fi), v7] H' := fun L vs v7 H' h1 h2 h3 h4 => by
          rw [hPw]
          exact ⟨L, vs, v7, rfl, h1, h2, h3, h4⟩
        rw [hPw] at pv
        obtain ⟨L, vs, v7, rfl, vis, s2, hp, pl⟩ := pv
        have hjb : j < i + 1 := by omega
        have hS' : SqL K H' a (ns.map V.int) := s2.seq (s1.seq hS)
        have hN' : SqL K H' pn (xs.map V.int) := s2.seq (SqL.of hN)
        have gj : (xs.map V.int)[j]? = some (.int (xs.getD j 0)) := by rw [List.getElem?_map, List.getElem?_eq_getElem (by omega), List.getD_eq_getElem?_getD, List.getElem?_eq_getElem (by omega)]; rfl
        have gi : (xs.map V.int)[i + 1]? = some (.int (xs.getD (i + 1) 0)) := by rw [List.getElem?_map, List.getElem?_eq_getElem (by omega), List.getD_eq_getElem?_getD, List.getElem?_eq_getElem (by omega)]; rfl
        have small : vs.length ≤ 66 := by
          rw [pl.len]
          exact drs_len' hr12 (vis_nd N vis) (vis_ok N vis)
        walk_at "rd"
        refine ⟨_, hS', .int ns[fi + j], at_of (j := fi + j) (by omega) (at_n _ (by omega)), _, hS', .int ns[fi], at_of (j := fi) rfl (at_n _ (by omega)), ?_⟩
        refine ⟨_, _, _, _, _, _, rfl, by omega, fun c => ?_⟩
        refine ⟨_, rfl, ite2 (fun _ => ?_) (fun _ => nxw L vs _ _ vis.skip s2 hp pl)⟩
        refine ⟨.inl ⟨rfl, _, SqL.of hp⟩, _, hN', .int (xs.getD j 0), at_of (j := j) (by omega) gj, _, hN', .int (xs.getD (i + 1) 0), at_of (j := i + 1) (by omega) gi, ?_⟩
        refine ⟨_, rfl, _, rfl, _, hN', .int (xs.getD j 0), at_of (j := j) (by omega) gj, _, hN', .int (xs.getD (i + 1) 0), at_of (j := i + 1) (by omega) gi, _, rfl, _, rfl, ?_⟩
        refine ⟨by decide, fun t nt => ⟨vs, ?_, len_big (by omega), ?_⟩⟩
        · rw [upd_ne (ne_of_none hp nt)]
          exact hp
        · have np' : p ≠ t := ne_of_none hp nt
          refine nxw (L ++ [(j, i + 1)]) (vs ++ [.ref t]) _ _ (vis.more (by omega) hjb) (same_ch (s2.trans (same_upd nt)) np) upd_same ?_
          rw [List.map_append]
          refine PL.snoc ((pl.kt (KT.new nt)).kt (KT.lst (by rw [upd_ne np']; exact hp))) ⟨t, rfl, ?_⟩
          rw [upd_ne np'.symm, upd_same]
          rfl
      · clear hp pl s2 vis vs L v7
        rintro σ H' pv
        rw [hPw] at pv
        obtain ⟨L, vs, v7, rfl, vis, s2, hp, pl⟩ := pv
        have e : (1 + (i : Int)).toNat = i + 1 := by omega
        rw [e] at vis
        exact nxt L vs _ _ _ _ vis.row s2 hp pl
    · rintro σ H' pv
      rw [hPv] at pv
      obtain ⟨L, vs, v5, v6, v7, rfl, vis, s2, hp, pl⟩ := pv
      walk_at "rd"
      obtain ⟨k1, k2⟩ := pl.toK
      refine ⟨p, vs, kH H', rfl, SqL.of hp, k2, fun ys t so st nt => ?_⟩
      have pmy := st.perm
      have hy : ∀ v ∈ ys, IsP H' v (kH H' v) := fun v hv => k2 v (pmy.mem_iff.mp hv)
      have nd : (ys.map (kH H')).Nodup := by
        refine (pmy.map _).nodup_iff.mpr ?_
        rw [← k1]
        exact vis_nd N vis
      refine q (ys.map (kH H')) ys t _ ⟨srtd_asc nd so, fun d hd => ?_⟩ ?_ ?_ upd_same ((PL.ofK hy).kt (KT.new nt))
      · refine vis_ok N vis d ?_
        rw [k1]
        exact (pmy.map _).mem_iff.mp hd
      · exact ((s1.trans s2).trans (same_upd nt))
      · exact (s1.trans s2).free nt
end

abbrev sSame : Stmt := topS 18
/-- isinstance of built-in kinds -/
def isTy (m n : String) : Bool := m == n || (m == "bool" && n == "int")
theorem kit5 {K : PySem.W.Frag} {m n : String} (hm : m = "bool" ∨ m = "int" ∨ m = "str" ∨ m = "list" ∨ m = "tuple") (hn : n = "bool" ∨ n = "int" ∨ n = "str" ∨ n = "list" ∨ n = "tuple") : PySem.W.kitOne K (.type m) (.type n) = some (isTy m n) := by
  rcases hm with rfl | rfl | rfl | rfl | rfl <;> rcases hn with rfl | rfl | rfl | rfl | rfl <;> exact kit_ty (by decide +kernel)
def rIs5 (K : PySem.W.Frag) : List V → Hp → VK → Prop := fun xs H Q => ∃ (x : V) (n m : String), xs = [x, .ty n] ∧ TyX K H x (.type m) ∧ (m = "bool" ∨ m = "int" ∨ m = "str" ∨ m = "list" ∨ m = "tuple") ∧ (n = "bool" ∨ n = "int" ∨ n = "str" ∨ n = "list" ∨ n = "tuple") ∧ Q (.bl (isTy m n)) H
theorem cr_is5 {X : Cx} : CallR X (.builtin "isinstance") (rIs5 X.K) := fun pins s σ H xs us Q I r h => by
  obtain ⟨x, n, m, rfl, ty, hm, hn, q⟩ := h
  exact call_isi pins s σ H _ us Q I r ⟨x, .ty n, _, _, _, rfl, .ty n, ty, kit5 hm hn, q⟩
theorem is5_of {K : PySem.W.Frag} {H : Hp} {x : V} {n m : String} {Q : VK} (ty : TyX K H x (.type m)) (hm : m = "bool" ∨ m = "int" ∨ m = "str" ∨ m = "list" ∨ m = "tuple") (hn : n = "bool" ∨ n = "int" ∨ n = "str" ∨ n = "list" ∨ n = "tuple") (q : Q (.bl (isTy m n)) H) : rIs5 K [x, .ty n] H Q :=
  ⟨x, n, m, rfl, ty, hm, hn, q⟩
theorem eqS_of {H : Hp} {x : V} {Q : VK} (h : scal x x = true) (q : Q (.bl true) H) : rEq x x H Q := ⟨h, by rw [decide_eq_true rfl]; exact q⟩
local macro_rules | `(tactic| walk_at "i5") => `(tactic| ((first | refine is5_of (.base (.int _)) (by decide) (by decide) ?_ | refine is5_of (.base (.str _)) (by decide) (by decide) ?_ | refine is5_of (.base (.bl _)) (by decide) (by decide) ?_ | refine is5_of (.base (.lst (by assumption))) (by decide) (by decide) ?_ | refine is5_of (.base (.tup (by assumption))) (by decide) (by decide) ?_)))
local macro_rules | `(tactic| walk_at "i6") => `(tactic| (simp only [rIsT, isTy, String.reduceBEq, Bool.or_false, Bool.or_true, Bool.and_false, Bool.and_true, Bool.true_or, Bool.false_or, Bool.true_and, Bool.false_and, reduceCtorEq, decide_false, decide_true, V.bl.injEq, exists_eq_left', if_true, if_false, Bool.false_eq_true, ↓reduceIte, Bool.not_true, Bool.not_false, ite_self]))
def flat4 : V → Bool
  | .non => true
  | .bl _ => true
  | .int _ => true
  | .str _ => true
  | _ => false
/-- the same data, of at most this depth, the lists and tuples tracked -/
def Sm (H : Hp) : Nat → V → V → Prop
  | 0, x, y => x = y ∧ flat4 x = true
  | n + 1, x, y => (x = y ∧ flat4 x = true) ∨ ∃ a b xs ys, x = .ref a ∧ y = .ref b ∧ ((H a = some (.lst xs) ∧ H b = some (.lst ys)) ∨ (H a = some (.tup xs) ∧ H b = some (.tup ys))) ∧ Paired (Sm H n) xs ys ∧ xs.length ≤ 100000
theorem Sm.flat {H : Hp} {n : Nat} {x : V} (h : flat4 x = true) : Sm H n x x := by
  cases n with
  | zero => exact ⟨rfl, h⟩
  | succ n => exact .inl ⟨rfl, h⟩
theorem paired_get {α β : Type} {F : α → β → Prop} : ∀ {xs : List α} {ys : List β} {i : Nat}, Paired F xs ys → i < xs.length → ∃ x y, xs[i]? = some x ∧ ys[i]? = some y ∧ F x y
  | _, _, _, .nil, h => by cases h
  | _, _, 0, .cons r _, _ => ⟨_, _, rfl, rfl, r⟩
  | _, _, i + 1, .cons _ t, h => paired_get (i := i) t (Nat.lt_of_succ_lt_succ h)
section
variable {P : Program} {w : World} {K : PySem.W.Frag} {mg : Str → Option Value} {base : Heap}
theorem scSame : FnScope ["got", "due", "k"] ["got", "due"] (defScope sSame) := ⟨rfl, rfl, rfl, by decide +kernel, rfl, by decide +kernel, by decide +kernel⟩
def spSame (n : Nat) : Sp := fun vs H Q _ => ∃ x y, vs = [x, y] ∧ Sm H n x y ∧ Q (.bl true) H
theorem ok_same {f : Addr} {fd : FuncData} (F : Fun K "_law_same" "_law_same" sSame f fd) (T : Bi mg) (bd : Binds K fd ["got", "due"] []) (hmg : mg "_law_same" = some (.ref f)) : ∀ n, FnOk P w K mg base CX0 (n + 1) f fd ["got", "due"] (spSame n) := by
  intro n
  induction n with
  | zero =>
    refine F.ok scSame (fun vs H Q E h => ?_) (fun cdv A outer s H vs Q E hr h => ?_)
    · obtain ⟨x, y, rfl, _⟩ := h
      rfl
    · obtain ⟨x, y, rfl, ⟨rfl, hf⟩, q⟩ := h
      refine ⟨_, (pss_cons (ps_if (pt_cmpR op_isN (pv 1) pe_non (nomark _))
      (pss_one (ps_ret (pe_cmpR op_isN (pv 0) pe_non (nomark _))))
      pss_nil)
      (pss_cons (ps_if (pt_cmpR op_isT (pv 1) pe_bl (nomark _))
      (pss_one (ps_ret (pe_cmpR op_isT (pv 0) pe_bl (nomark _))))
      pss_nil)
      (pss_cons (ps_if (pt_cmpR op_isT (pv 1) pe_bl (nomark _))
      (pss_one (ps_ret (pe_cmpR op_isT (pv 0) pe_bl (nomark _))))
      pss_nil)
      (pss_cons (ps_if (pt_val (pe_callB cr_is5 (by rfl) T.isinstance (by decide +kernel) (pa_cons (pv 1) (pa_cons (pe_bltn (v := .ty "int") (by rfl) T.int (by decide +kernel) rfl) pa_nil))))
      (pss_one (ps_ret (pe_and (pe_callB cr_is5 (by rfl) T.isinstance (by decide +kernel) (pa_cons (pv 0) (pa_cons (pe_bltn (v := .ty "int") (by rfl) T.int (by decide +kernel) rfl) pa_nil))) (pe_and (pe_not (pe_callB cr_is5 (by rfl) T.isinstance (by decide +kernel) (pa_cons (pv 0) (pa_cons (pe_bltn (v := .ty "bool") (by rfl) T.bool (by decide +kernel) rfl) pa_nil)))) (pe_one (pe_cmpR op_eq (pv 0) (pv 1) (nomark _)))))))
      pss_nil)
      (pss_cons (ps_if (pt_val (pe_callB cr_is5 (by rfl) T.isinstance (by decide +kernel) (pa_cons (pv 1) (pa_cons (pe_bltn (v := .ty "str") (by rfl) T.str (by decide +kernel) rfl) pa_nil))))
      (pss_one (ps_ret (pe_and (pe_callB cr_is5 (by rfl) T.isinstance (by decide +kernel) (pa_cons (pv 0) (pa_cons (pe_bltn (v := .ty "str") (by rfl) T.str (by decide +kernel) rfl) pa_nil))) (pe_one (pe_cmpR op_eq (pv 0) (pv 1) (nomark _))))))
      pss_nil)
      (pss_cons (ps_if (PW.pt (pw_and (pt_val (pe_callB cr_is5 (by rfl) T.isinstance (by decide +kernel) (pa_cons (pv 1) (pa_cons (pe_bltn (v := .ty "list") (by rfl) T.list (by decide +kernel) rfl) pa_nil)))) (pw_and1 (pt_not (pt_val (pe_callB cr_is5 (by rfl) T.isinstance (by decide +kernel) (pa_cons (pv 0) (pa_cons (pe_bltn (v := .ty "list") (by rfl) T.list (by decide +kernel) rfl) pa_nil))))))))
      (pss_one (ps_ret pe_bl))
      pss_nil)
      (pss_cons (ps_if (PW.pt (pw_and (pt_val (pe_callB cr_is5 (by rfl) T.isinstance (by decide +kernel) (pa_cons (pv 1) (pa_cons (pe_bltn (v := .ty "tuple") (by rfl) T.tuple (by decide +kernel) rfl) pa_nil)))) (pw_and1 (pt_not (pt_val (pe_callB cr_is5 (by rfl) T.isinstance (by decide +kernel) (pa_cons (pv 0) (pa_cons (pe_bltn (v := .ty "tuple") (by rfl) T.tuple (by decide +kernel) rfl) pa_nil))))))))
      (pss_one (ps_ret pe_bl))
      pss_nil)
      (pss_cons (ps_if (pt_cmpR op_neI (pe_callB call_len_seq (by rfl) T.len (by decide +kernel) (pa_cons (pv 0) pa_nil)) (pe_callB call_len_seq (by rfl) T.len (by decide +kernel) (pa_cons (pv 1) pa_nil)) (nomark _))
      (pss_one (ps_ret pe_bl))
      pss_nil)
      (pss_cons (ps_never)
      (pss_one (ps_ret pe_bl))))))))))), ?_⟩
      walk_at "rd"
      cases x with
      | non => walk_at "i6"; exact q
      | bl b =>
        cases b with
        | true => walk_at "i6"; exact q
        | false => walk_at "i6"; exact q
      | int i =>
        walk_at "i6"
        repeat (walk_at "i5"; walk_at "i6")
        exact eqS_of rfl q
      | str z =>
        walk_at "i6"
        repeat (walk_at "i5"; walk_at "i6")
        exact eqS_of rfl q
      | _ => cases hf
  | succ n ih =>
    refine F.ok scSame (fun vs H Q E h => ?_) (fun cdv A outer s H vs Q E hr h => ?_)
    · obtain ⟨x, y, rfl, _⟩ := h
      rfl
    · obtain ⟨x, y, rfl, hs, q⟩ := h
      refine ⟨_, (pss_cons (ps_if (pt_cmpR op_isN (pv 1) pe_non (nomark _))
      (pss_one (ps_ret (pe_cmpR op_isN (pv 0) pe_non (nomark _))))
      pss_nil)
      (pss_cons (ps_if (pt_cmpR op_isT (pv 1) pe_bl (nomark _))
      (pss_one (ps_ret (pe_cmpR op_isT (pv 0) pe_bl (nomark _))))
      pss_nil)
      (pss_cons (ps_if (pt_cmpR op_isT (pv 1) pe_bl (nomark _))
      (pss_one (ps_ret (pe_cmpR op_isT (pv 0) pe_bl (nomark _))))
      pss_nil)
      (pss_cons (ps_if (pt_val (pe_callB cr_is5 (by rfl) T.isinstance (by decide +kernel) (pa_cons (pv 1) (pa_cons (pe_bltn (v := .ty "int") (by rfl) T.int (by decide +kernel) rfl) pa_nil))))
      (pss_one (ps_ret (pe_and (pe_callB cr_is5 (by rfl) T.isinstance (by decide +kernel) (pa_cons (pv 0) (pa_cons (pe_bltn (v := .ty "int") (by rfl) T.int (by decide +kernel) rfl) pa_nil))) (pe_and (pe_not (pe_callB cr_is5 (by rfl) T.isinstance (by decide +kernel) (pa_cons (pv 0) (pa_cons (pe_bltn (v := .ty "bool") (by rfl) T.bool (by decide +kernel) rfl) pa_nil)))) (pe_one (pe_cmpR op_eq (pv 0) (pv 1) (nomark _)))))))
      pss_nil)
      (pss_cons (ps_if (pt_val (pe_callB cr_is5 (by rfl) T.isinstance (by decide +kernel) (pa_cons (pv 1) (pa_cons (pe_bltn (v := .ty "str") (by rfl) T.str (by decide +kernel) rfl) pa_nil))))
      (pss_one (ps_ret (pe_and (pe_callB cr_is5 (by rfl) T.isinstance (by decide +kernel) (pa_cons (pv 0) (pa_cons (pe_bltn (v := .ty "str") (by rfl) T.str (by decide +kernel) rfl) pa_nil))) (pe_one (pe_cmpR op_eq (pv 0) (pv 1) (nomark _))))))
      pss_nil)
      (pss_cons (ps_if (PW.pt (pw_and (pt_val (pe_callB cr_is5 (by rfl) T.isinstance (by decide +kernel) (pa_cons (pv 1) (pa_cons (pe_bltn (v := .ty "list") (by rfl) T.list (by decide +kernel) rfl) pa_nil)))) (pw_and1 (pt_not (pt_val (pe_callB cr_is5 (by rfl) T.isinstance (by decide +kernel) (pa_cons (pv 0) (pa_cons (pe_bltn (v := .ty "list") (by rfl) T.list (by decide +kernel) rfl) pa_nil))))))))
      (pss_one (ps_ret pe_bl))
      pss_nil)
      (pss_cons (ps_if (PW.pt (pw_and (pt_val (pe_callB cr_is5 (by rfl) T.isinstance (by decide +kernel) (pa_cons (pv 1) (pa_cons (pe_bltn (v := .ty "tuple") (by rfl) T.tuple (by decide +kernel) rfl) pa_nil)))) (pw_and1 (pt_not (pt_val (pe_callB cr_is5 (by rfl) T.isinstance (by decide +kernel) (pa_cons (pv 0) (pa_cons (pe_bltn (v := .ty "tuple") (by rfl) T.tuple (by decide +kernel) rfl) pa_nil))))))))
      (pss_one (ps_ret pe_bl))
      pss_nil)
      (pss_cons (ps_if (pt_cmpR op_neI (pe_callB call_len_seq (by rfl) T.len (by decide +kernel) (pa_cons (pv 0) pa_nil)) (pe_callB call_len_seq (by rfl) T.len (by decide +kernel) (pa_cons (pv 1) pa_nil)) (nomark _))
      (pss_one (ps_ret pe_bl))
      pss_nil)
      (pss_cons (ps_for PassesOwn.never rfl (pi_range1 (by rfl) T.range (pa_cons (pe_callB call_len_seq (by rfl) T.len (by decide +kernel) (pa_cons (pv 1) pa_nil)) pa_nil)) (pg_name (i := 2) scSame.nd rfl (Or.inl rfl))
      (pss_one (ps_if (pt_not (pt_val (pe_call ih hr (by rfl) hmg F.kp bd .nil pass0 (pa_cons (pe_ix ix_seq (pv 0) (pv 2) (fun _ _ => rfl)) (pa_cons (pe_ix ix_seq (pv 1) (pv 2) (fun _ _ => rfl)) pa_nil)))))
        (pss_one (ps_ret pe_bl))
        pss_nil)))
      (pss_one (ps_ret pe_bl))))))))))), ?_⟩
      walk_at "rd"
      rcases hs with ⟨rfl, hf⟩ | ⟨a, b, xs, ys, rfl, rfl, hk, pr, hl⟩
      · skip
        cases x with
        | non => walk_at "i6"; exact q
        | bl b =>
          cases b with
          | true => walk_at "i6"; exact q
          | false => walk_at "i6"; exact q
        | int i =>
          walk_at "i6"
          repeat (walk_at "i5"; walk_at "i6")
          exact eqS_of rfl q
        | str z =>
          walk_at "i6"
          repeat (walk_at "i5"; walk_at "i6")
          exact eqS_of rfl q
        | _ => cases hf
      · have el : xs.length = ys.length := pr.length
        have hx : SqL K H a xs ∨ SqT K H a xs := by
          rcases hk with ⟨ha, _⟩ | ⟨ha, _⟩
          · exact .inl (SqL.of ha)
          · exact .inr (SqT.of ha)
        have hy : SqL K H b ys ∨ SqT K H b ys := by
          rcases hk with ⟨_, ha⟩ | ⟨_, ha⟩
          · exact .inl (SqL.of ha)
          · exact .inr (SqT.of ha)
        have ix : ∀ {zs : List V} {k : Nat} {p : Addr} {v : V} {Q : VK}, (SqL K H p zs ∨ SqT K H p zs) → zs[k]? = some v → Q v H → rIx K (.ref p) (.int k) H Q := fun hz hv hq => by
          rcases hz with hz | hz
          · exact .inl ⟨_, _, _, _, rfl, rfl, hz, atI_nat hv, hq⟩
          · exact .inr (.inl ⟨_, _, _, _, rfl, rfl, hz, atI_nat hv, hq⟩)
        rcases hk with ⟨ha, hb⟩ | ⟨ha, hb⟩
        all_goals
          walk_at "i6"
          repeat (walk_at "i5"; walk_at "i6")
          refine ⟨_, rfl, _, hx, _, rfl, _, hy, ?_⟩
          rw [el, decide_eq_true rfl]
          refine iteF ?_
          obtain ⟨Pv, hPv⟩ : ∃ Pv : Nat → L2.St → Hp → Prop, Pv = (fun i σ H' => ∃ v : Option V, σ = [some (.ref a), some (.ref b), v] ∧ H' = H) := ⟨_, rfl⟩
          refine ⟨_, rfl, b, rfl, ys, hy, ys.length, rfl, by omega, by omega, for_range (lo := 0) (n := ((ys.length : Nat) : Int).toNat) Pv (by rw [hPv]; exact ⟨none, rfl, rfl⟩) ?_ ?_⟩
          · rintro i σ H' hi pv
            have nxt : ∀ v, Pv (i + 1) [some (.ref a), some (.ref b), v] H := fun v => by
              rw [hPv]
              exact ⟨v, rfl, rfl⟩
            rw [hPv] at pv
            obtain ⟨v, rfl, rfl⟩ := pv
            obtain ⟨x1, y1, g1, g2, sm⟩ := paired_get (i := i) pr (by omega)
            walk_at "rd"
            rw [Int.zero_add]
            refine ix hx g1 (ix hy g2 ⟨_, _, rfl, sm, ?_⟩)
            exact ⟨true, rfl, iteF (nxt _)⟩
          · rintro σ H' pv
            rw [hPv] at pv
            obtain ⟨v, rfl, rfl⟩ := pv
            walk_at "rd"
            exact q
end

/-! ### a set of tuples of ints, whatever their number (the table's masks: 7, 31, 127) -/
structure PsR (P : Program) (w : World) (h : Heap) (a : Addr) (L : List (Addr × List Int)) (es : Array (Int × Value)) (ep : Nat) (t : SetTable) : Prop where
  obj : ∃ o, h.get? a = some o ∧ o.ExactSet ∧ o.data = .set es ep t
  rw_ : es.toList = rowsOf P w L
  tb : TabOk t (L.map fun p => thash P w p.2)
  nod : (L.map (·.2)).Nodup
  tps : ∀ p ∈ L, IsT P w h p.2 p.1
  pln : t.plain = true
  ld : w.params.followText "set-order" = true ∨ t.led = true
  rm : L.length * 5 < t.mask * 3
section
variable {P : Program} {w : World} {A : Around} {E : Value → Shared → Prop} {s : Shared}
variable {a : Addr} {L : List (Addr × List Int)} {es : Array (Int × Value)} {ep : Nat} {t : SetTable}
theorem PsR.sz (R : PsR P w s.heap a L es ep t) : es.size = L.length := by
  have e := congrArg List.length R.rw_
  rw [Array.length_toList] at e
  rw [e]
  exact List.length_map _
theorem PsR.psz (R : PsR P w s.heap a L es ep t) : t.place.size = L.length := by
  have e := R.tb.sz
  rw [List.length_map] at e
  exact e
theorem PsR.fts (R : PsR P w s.heap a L es ep t) : t.fits es.size = true := by
  have e1 := R.psz
  have e2 := R.sz
  have e3 := R.rm
  have e4 : t.fill = t.place.size := by
    show t.place.size + t.dummies.size = t.place.size
    rw [R.tb.dm]
    rfl
  show (t.place.size == es.size && decide (t.fill ≤ t.mask)) = true
  rw [e4, e1, e2, beq_self_eq_true, Bool.true_and, decide_eq_true_eq]
  omega
theorem PsR.ent (R : PsR P w s.heap a L es ep t) {i : Nat} {p : Addr × List Int} (g : L[i]? = some p) : es[i]? = some (thash P w p.2, Value.ref p.1) := by
  have e : (rowsOf P w L)[i]? = some (thash P w p.2, Value.ref p.1) := by
    show (L.map _)[i]? = _
    rw [List.getElem?_map, g]
    rfl
  rw [← R.rw_, Array.getElem?_toList] at e
  exact e
theorem PsR.odd (R : PsR P w s.heap a L es ep t) : ¬ t.gaveWay = true := fun z => by
  have m := mask_odd R.tb.mok
  have z2 : (t.mask % 2 == 0) = true := z
  rw [m] at z2
  cases z2
/-- the c-th state of the search for the tuple k -/
abbrev stAt (P : Program) (w : World) (t : SetTable) (k : List Int) (c : Nat) : SetTable.Probe := nth t.mask (t.probeStart (thash P w k)) c
abbrev slAt (P : Program) (w : World) (t : SetTable) (k : List Int) (c : Nat) : Nat := (stAt P w t k c).j
theorem stAt_dm (k : List Int) (c : Nat) : (stAt P w t k c).dummy = none := by
  have all : ∀ (n : Nat) (p : SetTable.Probe), p.dummy = none → (nth t.mask p n).dummy = none := by
    intro n
    induction n with
    | zero => exact fun _ e => e
    | succ n ih =>
      intro p e
      show (nth t.mask (adv t.mask p) n).dummy = none
      exact ih _ (by rw [← adv_eq, advance_dummy]; exact e)
  exact all c _ rfl
theorem stAt_add (k : List Int) (c q : Nat) : nth t.mask (stAt P w t k c) q = stAt P w t k (c + q) := (nth_add t.mask c _ q).symm
theorem psearch (R : PsR P w s.heap a L es ep t) {x : Addr} {k : List Int} (hx : IsT P w s.heap k x) (hu : A.units < cLine) (ad : Bool) {N : Nat} (hN : N < 10 * SetTable.turns t.mask)
    (free : slAt P w t k N ∉ t.place.toList) (full : ∀ c, c < N → slAt P w t k c ∈ t.place.toList) {Q : SetFound → Shared → Prop}
    (yes : ∀ i, k ∈ L.map (·.2) → Q (.there (if ad then none else some i)) s) (no : k ∉ L.map (·.2) → Q (.free (slAt P w t k N) false) s) :
    ∀ (f c : Nat) (st : Option SetTable.Probe), st.getD (t.probeStart (thash P w k)) = stAt P w t k c → c ≤ N → N < f + c →
      (∀ (i : Nat) p, L[i]? = some p → p.2 = k → ∃ c', c ≤ c' ∧ c' < N ∧ t.place.toList[i]? = some (slAt P w t k c')) →
      wpAny (model P w) A (setSearchFrom a (.ref x) (thash P w k) ad f st) Q E s := by
  intro f
  induction f with
  | zero => intro c st _ h1 h2 _; omega
  | succ f ih =>
    intro c st est hc hf ahead
    obtain ⟨o, ho, hex, hd⟩ := R.obj
    rw [setSearchFrom_succ]
    refine wpAny_bind (wpAny_setState_of ho hd R.fts ?_)
    dsimp only
    refine wp_if_neg R.odd ?_
    try refine wpAny_bind (wpAny_pure ?_)
    have hashes : ∀ (i : Nat) p, L[i]? = some p → (es[i]?.map (·.1)).getD 0 = thash P w p.2 := fun i p g => by
      rw [R.ent g]
      rfl
    have spec := go_spec t R.tb.ris R.tb.dm (fun i => (es[i]?.map (·.1)).getD 0) (thash P w k) (10 * SetTable.turns t.mask) (N - c) (stAt P w t k c) (stAt_dm k c) (by omega)
      (fun q hq => by rw [stAt_add]; exact full (c + q) (by omega)) (by rw [stAt_add, Nat.add_sub_cancel' hc]; exact free)
    rw [est]
    simp only [stAt_add] at spec
    rcases spec with ⟨q, i, hq, hi, _, early, pr⟩ | ⟨early, pr⟩
    · -- an entry of this hash stands there
      have pr2 : t.probe (fun i => (es[i]?.map (·.1)).getD 0) (thash P w k) (stAt P w t k c) = _ := pr
      rw [pr2]
      dsimp only
      have il : i < L.length := by
        have e := (List.getElem?_eq_some_iff.mp hi).1
        rw [Array.length_toList, R.psz] at e
        exact e
      obtain ⟨p, gp⟩ : ∃ p, L[i]? = some p := ⟨_, List.getElem?_eq_getElem il⟩
      have mp : p ∈ L := List.mem_of_getElem? gp
      have live : t.slot (slAt P w t k (c + q)) = .live i := slot_live R.tb.ris hi
      have go : wpAny (model P w) A (searchRest a (.ref x) (thash P w k) ad f es t (slAt P w t k (c + q)) i (stAt P w t k (c + (q + 1)))) Q E s := by
        unfold searchRest
        rw [R.ent gp]
        dsimp only
        refine wpAny_bind (wpAny_holding (wpAny_eqBool_tuple hu (R.tps p mp) hx ?_))
        refine wpAny_bind (wpAny_setState_of ho hd R.fts ?_)
        dsimp only
        have later : p.2 ≠ k → wpAny (model P w) A (setSearchFrom a (.ref x) (thash P w k) ad f (some (stAt P w t k (c + (q + 1))))) Q E s := fun ne => by
          refine ih (c + (q + 1)) _ rfl (by omega) (by omega) fun i2 p2 g2 e2 => ?_
          obtain ⟨c2, b1, b2, b3⟩ := ahead i2 p2 g2 e2
          refine ⟨c2, ?_, b2, b3⟩
          refine Classical.byContradiction fun lt => ?_
          by_cases hc2 : c2 < c + q
          · refine early (c2 - c) i2 (by omega) (by rw [Nat.add_sub_cancel' b1]; exact b3) ?_
            rw [hashes i2 p2 g2, e2]
          · have e3 : c2 = c + q := by omega
            rw [e3] at b3
            have l2 := slot_live R.tb.ris b3
            rw [live] at l2
            injection l2 with l2
            rw [← l2, gp] at g2
            rw [Option.some.inj g2] at ne
            exact ne e2
        by_cases hk : p.2 = k
        · have mk : k ∈ L.map (·.2) := List.mem_map.mpr ⟨p, mp, hk⟩
          cases ad with
          | true =>
            refine wp_if_pos (by simp [hk]) ?_
            exact wpAny_pure (yes i mk)
          | false =>
            refine wp_if_neg (by simp) ?_
            try refine wpAny_bind (wpAny_pure ?_)
            rw [sameMem]
            dsimp only
            simp only [if_true, live, R.ent gp]
            refine wpAny_bind (wpAny_isSame_ref_self (wpAny_bind (wpAny_pure ?_)))
            rw [if_pos rfl]
            dsimp only
            rw [if_pos (decide_eq_true hk)]
            exact wpAny_pure (yes i mk)
        · refine wp_if_neg (by simp [hk]) ?_
          try refine wpAny_bind (wpAny_pure ?_)
          rw [sameMem]
          dsimp only
          simp only [if_true, live, R.ent gp]
          refine wpAny_bind (wpAny_isSame_ref_self (wpAny_bind (wpAny_pure ?_)))
          rw [if_pos rfl]
          dsimp only
          rw [if_neg (by rw [decide_eq_true_eq]; exact hk)]
          exact later hk
      by_cases hl : t.led = true
      · refine wp_if_neg (by rw [hl]; decide) ?_
        try refine wpAny_bind (wpAny_pure ?_)
        exact go
      · refine wp_if_pos (by simp [hl]) ?_
        refine wpAny_bind (seen_tup hx (fun y hy => ?_) ?_)
        · obtain ⟨e, he, rfl⟩ := List.mem_map.mp hy
          have he2 : e ∈ es.toList := by
            have := (Array.mem_filter.mp (Array.mem_toList_iff.mp he)).1
            exact Array.mem_toList_iff.mpr this
          rw [R.rw_] at he2
          obtain ⟨p2, m2, rfl⟩ := List.mem_map.mp he2
          exact ⟨p2.2, p2.1, rfl, R.tps p2 m2⟩
        · refine wp_if_neg Bool.false_ne_true ?_
          try refine wpAny_bind (wpAny_pure ?_)
          exact go
    · -- the empty slot
      have pr2 : t.probe (fun i => (es[i]?.map (·.1)).getD 0) (thash P w k) (stAt P w t k c) = _ := pr
      rw [pr2, Nat.add_sub_cancel' hc]
      dsimp only
      refine wpAny_pure (no fun hm => ?_)
      obtain ⟨p, mp, e⟩ := List.mem_map.mp hm
      obtain ⟨i, gp⟩ := List.getElem?_of_mem mp
      obtain ⟨c2, b1, b2, b3⟩ := ahead i p gp e
      refine early (c2 - c) i (by omega) (by rw [Nat.add_sub_cancel' b1]; exact b3) ?_
      rw [hashes i p gp, e]
/-- the search as it is asked for -/
theorem psearch0 (R : PsR P w s.heap a L es ep t) {x : Addr} {k : List Int} (hx : IsT P w s.heap k x) (hu : A.units < cLine) (ad : Bool) {Q : SetFound → Shared → Prop}
    (yes : ∀ i, k ∈ L.map (·.2) → Q (.there (if ad then none else some i)) s)
    (no : ∀ N, k ∉ L.map (·.2) → slAt P w t k N ∉ t.place.toList → (∀ c, c < N → slAt P w t k c ∈ t.place.toList) → Q (.free (slAt P w t k N) false) s) :
    wpAny (model P w) A (setSearch a (.ref x) (thash P w k) ad) Q E s := by
  have few := R.rm
  obtain ⟨N, n1, n2, n3⟩ := R.tb.first (by rw [List.length_map]; omega) (thash P w k)
  have n4 : N < 100000 := by
    have e : 10 * SetTable.turns t.mask ≤ 1420 := by
      unfold SetTable.turns
      rcases R.tb.mok with e | e | e <;> omega
    omega
  unfold setSearch
  refine psearch R hx hu ad n1 n2 n3 yes (fun z => no N z n2 n3) 100000 0 none rfl (Nat.zero_le _) (by omega) fun i p gp e => ?_
  have g1 : (L.map fun p => thash P w p.2)[i]? = some (thash P w k) := by
    rw [List.getElem?_map, gp, ← e]
    rfl
  have g2 : i < t.place.toList.length := by
    rw [Array.length_toList, R.psz]
    exact (List.getElem?_eq_some_iff.mp gp).1
  obtain ⟨c, c1, c2⟩ := R.tb.before n2 g1 (List.getElem?_eq_getElem g2)
  refine ⟨c, Nat.zero_le _, c1, ?_⟩
  rw [List.getElem?_eq_getElem g2]
  exact congrArg some c2.symm
end

section
variable {P : Program} {w : World} {A : Around} {E : Value → Shared → Prop} {s : Shared}
variable {a : Addr} {L : List (Addr × List Int)} {es : Array (Int × Value)} {ep : Nat} {t : SetTable}
theorem PsR.ty (R : PsR P w s.heap a L es ep t) : s.TypeIs (.ref a) "set" := by
  obtain ⟨o, ho, hx, _⟩ := R.obj
  exact ⟨o, ho, hx.1⟩
theorem PsR.nodict (R : PsR P w s.heap a L es ep t) : ∀ b, Value.ref a = .ref b → ∃ ob, s.heap.get? b = some ob ∧ ob.dict = none := fun b e => by
  injection e with e
  subst e
  obtain ⟨o, ho, hx, _⟩ := R.obj
  exact ⟨o, ho, hx.2.1⟩
/-- who is sought among tuples -/
theorem pfind (R : PsR P w s.heap a L es ep t) {x : Addr} {k : List Int} (hx : IsT P w s.heap k x) (hu : A.units < cLine) {Q : Option Nat → Shared → Prop}
    (h : ∀ r : Option Nat, r.isSome = decide (k ∈ L.map (·.2)) → Q r s) : wpAny (model P w) A (setFind a (.ref x) (thash P w k)) Q E s := by
  obtain ⟨o, ho, hex, hd⟩ := R.obj
  show wpAny (model P w) A (setFindIn a (.ref x) (thash P w k) (99999 + 1)) Q E s
  unfold setFindIn
  refine wpAny_bind (wpAny_setState_of ho hd R.fts ?_)
  dsimp only
  refine wp_if_neg (by simp [byScan, Value.scannable]) ?_
  try refine wpAny_bind (wpAny_pure ?_)
  refine wpAny_bind (psearch0 R hx hu false (fun i m => ?_) fun N m _ _ => ?_)
  · dsimp only
    exact wpAny_pure (h (some i) (by rw [decide_eq_true m]; rfl))
  · dsimp only
    exact wpAny_pure (h none (by rw [decide_eq_false m]; rfl))
theorem pis_in (R : PsR P w s.heap a L es ep t) {x : Addr} {k : List Int} (hx : IsT P w s.heap k x) (hu : A.units + 4 < cLine) {Q : Value → Shared → Prop}
    (h : Q (.bool (decide (k ∈ L.map (·.2)))) { s with toks := s.toks + (k.length + 1) }) : wpAny (model P w) A (compareOp .In (.ref x) (.ref a)) Q E s := by
  have ty := R.ty
  have ask : wpAny (model P w) A.in1 (Builtin.«frozenset.__contains__» ⟨[.ref a, .ref x], []⟩) (fun fin s' => ∃ v, fin = .done (.ret v) ∧ wpAny (model P w) A (truthy v) (fun c s' => wpAny (model P w) A (pure (Value.bool c)) Q E s') E s') E s := by
    simp only [Builtin.«frozenset.__contains__», Builtin.Frozenset.oneOther, Builtin.Frozenset.addrOf, Builtin.Frozenset.withSetAsKey, setContains, List.isEmpty_nil, bind_assoc]
    refine wpAny_bind (wpAny_pure ?_); try dsimp only
    refine wpAny_bind (wpAny_pure ?_); try dsimp only
    refine wpAny_bind (wpAny_tryCatch (wpAny_holding (wpAny_bind (wpAny_pyHash_tuple (by show A.units + 1 < cLine; omega) hx ?_))))
    refine wpAny_bind (pfind (s := { s with toks := s.toks + (k.length + 1) }) R hx (by show A.units + 1 < cLine; omega) fun r er => wpAny_pure ?_)
    show wpAny _ _ (ret (Value.bool r.isSome)) _ _ _
    rw [er]
    exact wpAny_pure ⟨_, rfl, wpAny_truthy_bool (wpAny_pure h)⟩
  show wpAny _ _ (contains (.ref a) (.ref x) >>= fun b => pure (Value.bool b)) Q E s
  refine wpAny_bind ?_
  unfold contains
  try with_reducible refine wpAny_holding ?_
  refine wpAny_bind (wpAny_specialOf ty F.slot_set_contains.lookup ?_)
  refine wp_if_neg (by rw [beq_builtin_none]; decide) (wpAny_bind (wpAny_callSpecialUnlessNone?_slot (name := Str.ofString "__contains__") ty F.slot_set_contains (wpAny_call_entry F.slot_set_contains ty entry_set_contains ask (F.args_set_contains_2 _ _))))
end

section
variable {P : Program} {w : World} {A : Around} {E : Value → Shared → Prop} {s : Shared}
variable {a : Addr} {L : List (Addr × List Int)} {es : Array (Int × Value)} {ep : Nat} {t : SetTable}
theorem PsR.small {h : Heap} (R : PsR P w h a L es ep t) (few : L.length < 64) : SetTR P w h a L es ep t := ⟨R.obj, R.rw_, R.tb, R.nod, R.tps, R.pln, R.ld, R.rm, few⟩
theorem PsR.of {h : Heap} (R : SetTR P w h a L es ep t) : PsR P w h a L es ep t := ⟨R.ob, R.rows, R.tab, R.nd, R.tup, R.plain, R.led, R.room⟩
/-- one more tuple -/
theorem padd (R : PsR P w s.heap a L es ep t) {x : Addr} {k : List Int} (hx : IsT P w s.heap k x) (hu : A.units < cLine) (bnd : L.length + 1 ≤ 76) {Q : Bool → Shared → Prop}
    (h : ∀ b h' L' es' ep' t', Heap.SameBut a s.heap h' → PsR P w h' a L' es' ep' t' → (k ∈ L.map (·.2) → L' = L) → (k ∉ L.map (·.2) → L'.Perm ((x, k) :: L)) → Q b { s with heap := h' }) :
    wpAny (model P w) A (setAddHashed a (.ref x) (thash P w k)) Q E s := by
  by_cases few : L.length + 1 < 64
  · exact add_at (R.small (by omega)) hx hu few fun b h' L' es' ep' t' sb R' c1 c2 => h b h' L' es' ep' t' sb (PsR.of R') c1 c2
  · obtain ⟨o, ho, hex, hd⟩ := R.obj
    have m127 : t.mask = 127 := by
      have := R.rm
      rcases R.tb.mok with e | e | e <;> omega
    unfold setAddHashed
    refine wpAny_holding ?_
    show wpAny (model P w) A (setAddHashedIn a (.ref x) (thash P w k) (99999 + 1)) Q E s
    rw [setAddHashedIn_succ]
    refine wpAny_bind (wpAny_setState_of ho hd R.fts ?_)
    dsimp only
    refine wp_if_neg (by simp [byScan, Value.scannable]) ?_
    try refine wpAny_bind (wpAny_pure ?_)
    refine wpAny_bind (psearch0 R hx hu true (fun i m => ?_) fun N m n1 n2 => ?_)
    · dsimp only
      exact wpAny_pure (h false s.heap L es ep t (Heap.SameBut.refl a s.heap) R (fun _ => rfl) fun z => absurd m z)
    · dsimp only
      refine wpAny_bind (wpAny_setState_of ho hd R.fts ?_)
      dsimp only
      obtain ⟨q1, q2, q3, q4, q5, q6, q7, q8, q9⟩ := R.tb.put n1 n2
      have e0 : way t.mask (thash P w k) N = slAt P w t k N := rfl
      rw [e0] at q1 q2 q3 q4 q5 q6 q7 q8 q9
      generalize slAt P w t k N = sl at q1 q2 q3 q4 q5 q6 q7 q8 q9 ⊢
      rw [q1]
      generalize (t.put sl).1 = t1 at q3 q4 q5 q6 q7 q8 q9 ⊢
      generalize SetTable.below t.place sl = b at q2 q3 ⊢
      have plain1 : t1.plain = true := by rw [q6]; exact R.pln
      refine wp_if_pos plain1 (wpAny_bind (hashBy_tup hx ?_))
      simp only [if_true, Bool.not_false, Bool.true_and]
      have pm : (L.take b ++ (x, k) :: L.drop b).Perm ((x, k) :: L) := put_perm L b (x, k)
      have rows : (SetTable.insertAt es b (thash P w k, Value.ref x)).toList = rowsOf P w (L.take b ++ (x, k) :: L.drop b) := by
        rw [rows_put, ← R.rw_]
        exact SetTable.toList_insertAt _ _ _
      have tabs : TabOk t1 ((L.take b ++ (x, k) :: L.drop b).map fun p => thash P w p.2) := by
        rw [List.map_append, List.map_cons, List.map_take, List.map_drop]
        exact q3
      generalize SetTable.insertAt es b (thash P w k, Value.ref x) = es1 at rows ⊢
      generalize L.take b ++ (x, k) :: L.drop b = L1 at pm rows tabs
      have len1 : L1.length = L.length + 1 := pm.length_eq
      have size1 : es1.size = L.length + 1 := by
        have e := congrArg List.length rows
        rw [Array.length_toList] at e
        rw [e, ← len1]
        exact List.length_map _
      have notFull : ¬ t1.tooFull = true := fun z => by
        have z2 : decide (t1.fill * 5 ≥ t1.mask * 3) = true := z
        rw [decide_eq_true_eq, q9, List.length_map, q4, m127] at z2
        omega
      refine wpAny_bind (wpAny_storeSet_of ho hd ?_ (by rw [size1, sizeLine_eq]; omega))
      refine wp_if_neg notFull ?_
      have sb : Heap.SameBut a s.heap (s.heap.update a (Obj.putSet es1 t1)) := Heap.SameBut.update ..
      refine wpAny_pure (h true _ L1 es1 (ep + 1) t1 sb ⟨⟨_, store_at ho hd, ⟨hex.1, hex.2.1, hex.2.2⟩, rfl⟩, rows, tabs, ?_, fun p hp => ?_, plain1, by rw [q5]; exact R.ld, by rw [len1, q4, m127]; omega⟩ (fun z => absurd z m) fun _ => pm)
      · refine (pm.map (·.2)).nodup_iff.mpr ?_
        rw [List.map_cons]
        exact List.nodup_cons.mpr ⟨m, R.nod⟩
      · rcases List.mem_cons.mp (pm.mem_iff.mp hp) with e | hp2
        · rw [e]
          exact isT_same hx ho hd sb
        · exact isT_same (R.tps p hp2) ho hd sb
end

/-! ### as rules of the layer: a set of pairs of ints -/
theorem perm_map {α β : Type} {f : α → β} {l m : List β} (h : l.Perm m) : ∀ L : List α, m = L.map f → ∃ L' : List α, List.Perm L' L ∧ l = List.map f L' := by
  induction h with
  | nil => intro L e; exact ⟨[], by rw [List.map_eq_nil_iff.mp e.symm], rfl⟩
  | cons x _ ih =>
    intro L e
    cases L with
    | nil => cases e
    | cons y L =>
      obtain ⟨e1, e2⟩ := List.cons.inj e
      obtain ⟨L', p, e3⟩ := ih L e2
      exact ⟨y :: L', p.cons y, by rw [List.map_cons, e1, e3]⟩
  | swap x y l =>
    intro L e
    match L, e with
    | y' :: x' :: L, e =>
      obtain ⟨e1, e2⟩ := List.cons.inj e
      obtain ⟨e3, e4⟩ := List.cons.inj e2
      exact ⟨x' :: y' :: L, List.Perm.swap y' x' L, by rw [List.map_cons, List.map_cons, ← e1, ← e3, ← e4]⟩
  | trans _ _ ih1 ih2 =>
    intro L e
    obtain ⟨L1, p1, e1⟩ := ih2 L e
    obtain ⟨L2, p2, e2⟩ := ih1 L1 e1
    exact ⟨L2, p2.trans p1, e2⟩
def pr2 : List Int → Pr
  | [x, y] => (x, y)
  | _ => (0, 0)
section
variable {P : Program} {w : World} {A : Around} {E : Value → Shared → Prop} {s : Shared}
variable {a : Addr} {L : List (Addr × List Int)} {es : Array (Int × Value)} {ep : Nat} {t : SetTable}
theorem IsT.pair {h : Heap} {b : Addr} {x y : Int} (q : IsT P w h [x, y] b) : Srt.IsPair h (.ref b) x y := by
  obtain ⟨o, items, n, ho, hc, hd, hi⟩ := q
  obtain ⟨its⟩ := items
  cases hi with
  | cons h1 h2 =>
    cases h2 with
    | cons h3 h4 =>
      cases h4
      obtain ⟨t1, rfl⟩ := Value.isInt_shape h1
      obtain ⟨t2, rfl⟩ := Value.isInt_shape h3
      exact ⟨b, o, t1, t2, n, rfl, ho, hc, hd⟩
/-- the pair that stands at a value -/
def kL (L : List (Addr × List Int)) (v : Value) : Pr := match v with
  | .ref b => pr2 ((L.lookup b).getD [])
  | _ => (0, 0)
theorem kL_of {h : Heap} (tps : ∀ p ∈ L, IsT P w h p.2 p.1) {q : Addr × List Int} (m : q ∈ L) : kL L (.ref q.1) = pr2 q.2 := by
  have key : ∀ L : List (Addr × List Int), (∀ p ∈ L, IsT P w h p.2 p.1) → q ∈ L → L.lookup q.1 = some q.2 := by
    intro L
    induction L with
    | nil => intro _ z; cases z
    | cons p L ih =>
      intro tps m
      obtain ⟨b, k⟩ := p
      by_cases e : q.1 = b
      · have t1 := tps _ m
        have t2 := tps (b, k) List.mem_cons_self
        rw [e] at t1
        have e2 : q.2 = k := t1.inj t2
        rw [List.lookup_cons, e, beq_self_eq_true, e2]
      · have m2 : q ∈ L := by
          rcases List.mem_cons.mp m with z | z
          · rw [z] at e
            exact absurd rfl e
          · exact z
        rw [List.lookup_cons, beq_eq_false_iff_ne.mpr e]
        exact ih (fun p hp => tps p (List.mem_cons_of_mem _ hp)) m2
  show pr2 ((L.lookup q.1).getD []) = _
  rw [key L tps m]
  rfl
/-- sorted(set) -/
theorem psorted (R : PsR P w s.heap a L es ep t) (hh : A.handled = none) (two : ∀ p ∈ L, ∃ x y, p.2 = [x, y]) (few : L.length ≤ 1000) {Q : Value → Shared → Prop}
    (h : ∀ s' p c (L' : List (Addr × List Int)), (∀ b o, s.heap.get? b = some o → s'.heap.get? b = some o) → s'.gens = s.gens → s'.os = s.os → s.heap.objs.size ≤ p → s'.heap.get? p = some (seqObj "list" (L'.map fun q => Value.ref q.1).toArray c) → L'.Perm L →
      L'.Pairwise (fun q r => ¬ lt2 (pr2 r.2) (pr2 q.2)) → Q (.ref p) s') : wpAny (model P w) A (call (.builtin "sorted") [.ref a]) Q E s := by
  obtain ⟨o, ho, hex, hd⟩ := R.obj
  have sz := R.sz
  refine Calls.call_function_entry kind_sorted plain_sorted entry_sorted (args_sorted1 _) ?_
  unfold Builtin.«sorted»; refine wpAny_bind (m := checkCount "sorted" 1 1 _) (wpAny_pure ?_)
  refine wpAny_bind (collect_set (A := A.in1) hh ⟨o, ho, hex.1, hd⟩ R.fts (by rw [sz]; unfold scanBound; omega) R.tb.ris R.ld fun s1 vs keep grow g1 o1 pm => ?_)
  have e1 : es.toList.map (·.2) = L.map fun q => Value.ref q.1 := by
    rw [R.rw_]
    show List.map _ (L.map _) = _
    rw [List.map_map]
    rfl
  rw [e1] at pm
  have lv : vs.length ≤ sizeLine := by
    rw [pm.length_eq, List.length_map, sizeLine_eq]
    omega
  refine wpAny_bind (wpAny_newList ?_ lv)
  have new : (s1.heap.push (seqObj "list" vs.toArray 0)).get? s1.heap.objs.size = some (seqObj "list" vs.toArray 0) := Heap.get?_push_size _ rfl
  have pairs : ∀ v ∈ vs, Srt.IsPair (s1.heap.push (seqObj "list" vs.toArray 0)) v (kL L v).1 (kL L v).2 := fun v hv => by
    obtain ⟨q, hq, rfl⟩ := List.mem_map.mp (pm.mem_iff.mp hv)
    rw [kL_of R.tps hq]
    obtain ⟨x, y, e2⟩ := two q hq
    have t1 := R.tps q hq
    rw [e2] at t1 ⊢
    exact Srt.IsPair.keeps (IsT.pair t1) fun b u e _ => Heap.get?_push_of_some _ (keep b u e)
  refine wpAny_bind (wpAny_holding (wpAny_call_entry slot_list_sort ⟨_, new, rfl⟩ entry_list_sort (SrtO.list_sort_ord (s := { s1 with heap := s1.heap.push (seqObj "list" vs.toArray 0) }) (SrtO.swo_lex (kL L)) new lv (fun h2 => SrtO.pairs_sortableO (by omega) pairs fun o e c => ?_) fun out so st => ⟨_, rfl, ?_⟩) (args_list_sort _)))
  · have e3 : some o = some (seqObj "list" vs.toArray 0) := e.symm.trans new
    cases e3
    exact absurd (Value.type.inj c) (by decide)
  · obtain ⟨L', p1, p2⟩ := perm_map (st.perm.trans pm) L rfl
    obtain ⟨c, hc⟩ := sortedHeap_at (vs := vs) (out := out.toArray) new
    refine wpAny_pure ⟨_, rfl, h _ s1.heap.objs.size c L' (fun b u e => ?_) g1 o1 grow ?_ p1 ?_⟩
    · have e4 := keep b u e
      have lt := Heap.lt_size e4
      show (sortedHeap (s1.heap.push (seqObj "list" vs.toArray 0)) s1.heap.objs.size vs out.toArray).get? b = some u
      rw [sortedHeap_old (Nat.ne_of_lt lt) (by rw [size_push']; exact Nat.lt_succ_of_lt lt)]
      exact Heap.get?_push_of_some _ e4
    · rw [← p2]
      exact hc
    · rw [p2] at so
      refine List.Pairwise.imp_of_mem (fun {q r} hq hr z => ?_) (List.pairwise_map.mp so)
      have z2 : SrtO.lexB (kL L (Value.ref r.1)) (kL L (Value.ref q.1)) = false := z
      rw [kL_of R.tps (p1.mem_iff.mp hq), kL_of R.tps (p1.mem_iff.mp hr)] at z2
      exact SrtO.lexB_no.mp z2
end
/-- the set at a without its tuples -/
structure Ps0 (P : Program) (w : World) (h : Heap) (a : Addr) (L : List (Addr × List Int)) : Prop where
  ex : ∃ (es : Array (Int × Value)) (ep : Nat) (t : SetTable), (∃ o, h.get? a = some o ∧ o.ExactSet ∧ o.data = .set es ep t) ∧ es.toList = rowsOf P w L ∧ TabOk t (L.map fun p => thash P w p.2) ∧ (L.map (·.2)).Nodup ∧ t.plain = true ∧ (w.params.followText "set-order" = true ∨ t.led = true) ∧ L.length * 5 < t.mask * 3
def PsO (P : Program) (w : World) (a : Addr) (L : List (Addr × List Int)) : HO := .ext fun h => Ps0 P w h a L
theorem PsR.p0 {P : Program} {w : World} {h : Heap} {a : Addr} {L : List (Addr × List Int)} {es : Array (Int × Value)} {ep : Nat} {t : SetTable} (R : PsR P w h a L es ep t) : Ps0 P w h a L := ⟨es, ep, t, R.obj, R.rw_, R.tb, R.nod, R.pln, R.ld, R.rm⟩
theorem Ps0.full {P : Program} {w : World} {h : Heap} {a : Addr} {L : List (Addr × List Int)} (R : Ps0 P w h a L) (tp : ∀ p ∈ L, IsT P w h p.2 p.1) : ∃ es ep t, PsR P w h a L es ep t := by
  obtain ⟨es, ep, t, h1, h2, h3, h4, h5, h6, h7⟩ := R.ex
  exact ⟨es, ep, t, ⟨h1, h2, h3, h4, tp, h5, h6, h7⟩⟩
theorem psO_new {P : Program} {w : World} {H : Hp} {h : Heap} {a : Addr} {L : List (Addr × List Int)} (R : Ps0 P w h a L) : ObjOk P w H h a (PsO P w a L) := by
  refine ⟨R, ?_, fun h1 h2 p k => ?_⟩
  · obtain ⟨_, _, _, ⟨o, ho, _⟩, _⟩ := R.ex
    exact ⟨o, ho⟩
  · obtain ⟨es, ep, t, ⟨o, ho, r⟩, q⟩ := Ps0.ex p
    exact ⟨es, ep, t, ⟨o, k o ho, r⟩, q⟩
section
variable {X : Cx}
theorem ps_get {pins : List (Addr × Obj)} {σ : L2.St} {H : Hp} {s : Shared} {a : Addr} {L : List (Addr × List Int)} (I : Inv X pins σ H s) (ha : H a = some (PsO X.prog X.w a L)) (tp : ∀ p ∈ L, SqT X.K H p.1 (p.2.map V.int)) : ∃ es ep t, PsR X.prog X.w s.heap a L es ep t :=
  Ps0.full (I.hok a _ ha).1 fun p hp => I.isT (tp p hp)
/-- set(), to be filled with pairs -/
def rPs0 (P : Program) (w : World) : List V → Hp → VK → Prop := fun xs H Q => xs = [] ∧ ∀ p, H p = none → Q (.ref p) (upd H p (PsO P w p []))
theorem cr_ps0 : CallR X (.type "set") (rPs0 X.prog X.w) := by
  intro pins s σ H xs us Q I r h
  obtain ⟨rfl, q⟩ := h
  cases r
  refine setR_new fun _ => ?_
  exact ⟨.ref _, upd H s.heap.objs.size (PsO X.prog X.w s.heap.objs.size []), I.laid (t' := s.toks) (fun b u e => Heap.get?_push_of_some _ e) (Nat.le_refl _) (psO_new (PsR.of (setTR_fresh (Heap.get?_push_size _ rfl))).p0), rfl, q _ (I.hok.fresh (Nat.le_refl _))⟩
/-- (a, b) in seen -/
def rPsIn (K : PySem.W.Frag) (P : Program) (w : World) : V → V → Hp → VK → Prop := fun x y H Q => ∃ b k a L, x = V.ref b ∧ y = V.ref a ∧ H a = some (PsO P w a L) ∧ (∀ p ∈ L, SqT K H p.1 (p.2.map V.int)) ∧ SqT K H b (k.map V.int) ∧ Q (.bl (decide (k ∈ L.map (·.2)))) H
theorem op_psIn (hu : X.A.units + 64 < cLine) : OpR X (compareOp .In) (rPsIn X.K X.prog X.w) := by
  intro pins s σ H x y v u Q I rx ry h
  obtain ⟨b, k, a, L, rfl, rfl, ha, tp, hb, q⟩ := h
  cases (show v = Value.ref b from rx)
  cases (show u = Value.ref a from ry)
  obtain ⟨es, ep, t, R⟩ := ps_get I ha tp
  exact pis_in R (I.isT hb) (by omega) ⟨.bl _, H, I.tok _, rfl, q⟩
/-- seen.add((a, b)) -/
def rPsAdd (K : PySem.W.Frag) (P : Program) (w : World) : V → List V → Hp → VK → Prop := fun x xs H Q => ∃ b k a L, x = V.ref a ∧ xs = [V.ref b] ∧ H a = some (PsO P w a L) ∧ (∀ p ∈ L, SqT K H p.1 (p.2.map V.int)) ∧ SqT K H b (k.map V.int) ∧ L.length + 1 ≤ 76 ∧
  ∀ L', (k ∈ L.map (·.2) → L' = L) → (k ∉ L.map (·.2) → L'.Perm ((b, k) :: L)) → Q .non (upd H a (PsO P w a L'))
theorem mt_psAdd (hu : X.A.units + 64 < cLine) : MtR X "set.add" (rPsAdd X.K X.prog X.w) := by
  intro pins s σ H x xs v us Q I rx rxs h
  obtain ⟨b, k, a, L, rfl, rfl, ha, tp, hb, bnd, q⟩ := h
  cases rx
  cases rxs with
  | cons ry rt =>
    cases rt
    cases (show _ = Value.ref b from ry)
    obtain ⟨es, ep, t, R⟩ := ps_get I ha tp
    have hx := I.isT hb
    refine wpAny_call_entry F.slot_set_add R.ty F.entry_set_add ?_ (F.args_set_add_2 _ _)
    simp only [Builtin.«set.add», Builtin.Frozenset.oneOther, Builtin.Frozenset.addrOf, setAdd, List.isEmpty_nil, bind_assoc]
    refine wpAny_bind (wpAny_pure ?_); try dsimp only
    refine wpAny_bind (wpAny_pure ?_); try dsimp only
    refine wpAny_bind (wpAny_holding (wpAny_bind (wpAny_pyHash_tuple (by show X.A.units + 1 < cLine; omega) hx ?_)))
    refine padd (s := { s with toks := s.toks + (k.length + 1) }) R hx (by show X.A.units + 1 < cLine; omega) bnd fun c h' L' es' ep' t' sb R' c1 c2 => ?_
    show wpAny _ _ (ret Value.none) _ _ _
    have he : ∃ u, h'.get? a = some u := by
      obtain ⟨o, ho, _⟩ := R'.obj
      exact ⟨o, ho⟩
    exact wpAny_pure ⟨_, rfl, .non, upd H a (PsO X.prog X.w a L'), I.write (e := a) (t' := s.toks + (k.length + 1)) (by rw [ha]; trivial) (.inl rfl) (fun b u hb hu => (sb.2 b hb).trans hu) he (psO_new R'.p0), rfl, q L' c1 c2⟩
/-- sorted(seen) -/
def rPsSort (K : PySem.W.Frag) (P : Program) (w : World) : List V → Hp → VK → Prop := fun vs H Q => ∃ a L, vs = [V.ref a] ∧ H a = some (PsO P w a L) ∧ (∀ p ∈ L, SqT K H p.1 (p.2.map V.int)) ∧ (∀ p ∈ L, ∃ x y, p.2 = [x, y]) ∧ L.length ≤ 1000 ∧
  ∀ (L' : List (Addr × List Int)) (p : Addr), L'.Perm L → (L'.map (·.2)).Nodup → L'.Pairwise (fun q r => ¬ lt2 (pr2 r.2) (pr2 q.2)) → H p = none → Q (.ref p) (upd H p (.lst (L'.map fun q => V.ref q.1)))
theorem cr_psSort (hc : X.calm = true) : CallR X (.builtin "sorted") (rPsSort X.K X.prog X.w) := by
  intro pins s σ H vs us Q I r h
  obtain ⟨a, L, rfl, ha, tp, two, few, q⟩ := h
  obtain ⟨es, ep, t, R⟩ := ps_get I ha tp
  rw [Vals.ref1 r]
  refine psorted R (I.ok.hd hc) two few fun s' p c L' keep g o hp hg pm pw => ?_
  have hn : H p = none := I.hok.fresh hp
  have ll : (L'.map fun q => V.ref q.1).length ≤ sizeLine := by
    rw [List.length_map, pm.length_eq, sizeLine_eq]
    omega
  have J : Inv X pins σ (upd H p (.lst (L'.map fun q => V.ref q.1))) { s with heap := s'.heap, gens := s'.gens, drawn := s'.drawn, toks := s'.toks } :=
    I.call (ch := []) (Un.laid keep hp hn) (I.hok.laid keep hp ⟨ll, _, c, vals_of_refs L', hg⟩) (by rw [g]; exact I.bare) (fun _ z => nomatch z)
  have e : s' = { s with heap := s'.heap, gens := s'.gens, drawn := s'.drawn, toks := s'.toks } := by
    cases s'
    cases s
    cases o
    rfl
  rw [e]
  exact ⟨.ref p, _, J, rfl, q L' p pm ((pm.map (·.2)).nodup_iff.mpr R.nod) pw hn⟩
/-- the call of the method -/
def tPsAdd (K : PySem.W.Frag) (P : Program) (w : World) (to : TE) (t : TA) : TE := fun σ H Q => to σ H fun x H1 => (∃ a L, x = V.ref a ∧ H1 a = some (PsO P w a L)) ∧ t σ H1 fun xs H2 => rPsAdd K P w x xs H2 Q
theorem ps_look {pins : List (Addr × Obj)} {σ : L2.St} {H : Hp} {s : Shared} {a : Addr} {L : List (Addr × List Int)} (I : Inv X pins σ H s) (ha : H a = some (PsO X.prog X.w a L)) : s.TypeIs (.ref a) "set" ∧ ∀ b, Value.ref a = .ref b → ∃ ob, s.heap.get? b = some ob ∧ ob.dict = none := by
  obtain ⟨_, _, _, ⟨o, ho, hx, _⟩, _⟩ := Ps0.ex (I.hok a _ ha).1
  refine ⟨⟨o, ho, hx.1⟩, fun b e => ?_⟩
  injection e with e
  subst e
  exact ⟨o, ho, hx.2.1⟩
theorem pe_psAdd {o e : Expr} {es : List Expr} {to : TE} {t : TA} {apos cpos : Pos} (hu : X.A.units + 64 < cLine) (ho : PE X o to) (ha : PA X (e :: es) t)
    (b1 : attributeBase o "add" X.env (eval o X.env) = eval o X.env := by rfl)
    (b2 : ((backTo cpos (starEach (e :: es) X.env)).all (fun x => !x.1) && (backToKw cpos (keywordEach [] X.env)).all (fun x => x.1.isSome) && decide ((e :: es).length + ([] : List Keyword).length + (if ([] : List Keyword).isEmpty then 0 else 1) < 30)) = true := by rfl)
    (b3 : (apos.endLine == cpos.line) = true := by rfl) (b4 : starEach (e :: es) X.env = (false, eval e X.env) :: starEach es X.env := by rfl) (b5 : (backTo cpos (starEach es X.env)).any (·.1) = false := by rfl) :
    PE X (.Call (.Attribute o "add" apos) (e :: es) [] cpos) (tPsAdd X.K X.prog X.w to t) := by
  refine ⟨fun pins s σ H Q I h => wpAny_Call_method_late b1 b2 b3 rfl (thn (ho.run pins s σ H _ I h) ?_)⟩
  rintro v s1 ⟨x, H1, I1, r1, ⟨a, L, rfl, hka⟩, q1⟩
  cases r1
  obtain ⟨k1, k2⟩ := ps_look I1 hka
  refine ⟨"set", "set.add", F.plainAttrs_set, F.slot_set_add, F.type_set_add, k1, k2, ?_⟩
  have run := ha.run cpos pins s1 σ H1 _ I1 q1
  rw [b4] at run ⊢
  refine Calls.callWith_builtin ?_ (Calls.evalArgs_plain (thn run ?_))
  · show (false || (backTo cpos (starEach es X.env)).any (·.1)) = false
    rw [b5]
    rfl
  · rintro us s2 ⟨vs, H2, I2, r2, q2⟩
    exact mt_psAdd hu pins s2 σ H2 (.ref a) vs (.ref a) us Q I2 rfl r2 q2
end

abbrev sHouse : Stmt := topS 5
abbrev sHinit : Stmt := inClass sHouse 2
abbrev sHcount : Stmt := inClass sHouse 3
abbrev sHdoors : Stmt := inClass sHouse 4
abbrev sHnear : Stmt := inClass sHouse 5
abbrev sHhas : Stmt := inClass sHouse 6
abbrev sRoom : Stmt := topS 6
abbrev sChk : Stmt := topS 7
/-- what the walk asks of the class House -/
structure Hs (K : PySem.W.Frag) (mg : Str → Option Value) (C : Addr) : Prop where
  cl : Cls K C
  nR : NoAttr K C "rooms"
  nD : NoAttr K C "_doors"
  nN : NoAttr K C "_near"
  mgC : mg "House" = some (.ref C)
  rd : ∃ mc u, ClX.CRead K C mc ∧ ClX.CVal K C mc "MOST_ROOMS" (.int 12) u
theorem for_enum {K : PySem.W.Frag} {a : Addr} {xs : List V} {g : TG} {tb : TS} {D : Ends} {σ : L2.St} {H : Hp} (Pv : Nat → L2.St → Hp → Prop) (h0 : Pv 0 σ H) (hl : ∀ i σ H, Pv i σ H → SqL K H a xs)
    (hs : ∀ (i : Nat) (x : V) (t : Addr) (σ : L2.St) (H : Hp), xs[i]? = some x → Pv i σ H → H t = none → g (.ref t) σ (upd H t (.tup [.int (i : Nat), x])) fun σ2 H2 => tb { D with nx := Pv (i + 1), ct := Pv (i + 1), bk := D.nx } σ2 H2) (hd : ∀ σ H, Pv xs.length σ H → D.nx σ H) :
    tFor (fun _ H R => R (Ite K a) H) g tb D σ H := by
  refine ⟨fun i m σ H => m = xs.length - i ∧ i ≤ xs.length ∧ Pv i σ H, ⟨xs.length, rfl, Nat.zero_le _, h0⟩, ?_⟩
  rintro i m σ H ⟨rfl, hi, p⟩
  have q := hl i σ H p
  by_cases lt : i < xs.length
  · refine .inr ⟨⟨xs, xs[i], q, List.getElem?_eq_getElem lt⟩, Pv (i + 1), fun σ' H' p' => ⟨xs.length - (i + 1), by omega, rfl, lt, p'⟩, ?_⟩
    rintro v H' ⟨t, x, rfl, nt, rfl, f⟩
    exact hs i x t σ H (f xs q) p nt
  · have e : i = xs.length := by omega
    subst e
    exact .inl ⟨⟨xs, q, Nat.le_refl _⟩, hd σ H p⟩
section
variable {P : Program} {w : World} {K : PySem.W.Frag} {mg : Str → Option Value} {base : Heap}
theorem scRoom : FnScope ["rooms"] ["rooms"] (defScope sRoom) := ⟨rfl, rfl, rfl, by decide +kernel, rfl, by decide +kernel, by decide +kernel⟩
def spRoom : Sp := fun vs H Q _ => ∃ r : Int, vs = [.int r] ∧ 1 ≤ r ∧ r ≤ 12 ∧ Q .non H
theorem ok_room {f C : Addr} {fd : FuncData} (F : Fun K "check_room_count" "check_room_count" sRoom f fd) (T : Hs K mg C) : FnOk P w K mg base CX0 1 f fd ["rooms"] spRoom := by
  refine F.ok scRoom (fun vs H Q E h => ?_) (fun cdv A outer s H vs Q E hr h => ?_)
  · obtain ⟨r, rfl, _⟩ := h
    rfl
  · obtain ⟨r, rfl, h1, h2, q⟩ := h
    refine ⟨_, (pss_one (ps_if (pt_not (pt_chain op_le op_le pe_int (pv 0) (ClX.pe_cval (pe_glob (v := .ref C) (by rfl) T.mgC rfl))))
      (pss_one (ps_never))
      pss_nil)), ?_⟩
    obtain ⟨mc, u, c1, c2⟩ := T.rd
    walk_at "rd"
    rw [if_pos h1]
    refine ⟨C, mc, .int 12, u, rfl, c1, c2, 12, rfl, ?_⟩
    rw [decide_eq_true h2]
    exact iteF q
theorem scChk : FnScope ["rooms", "doors", "seen", "place", "a", "b"] ["rooms", "doors"] (defScope sChk) := ⟨rfl, rfl, rfl, by decide +kernel, rfl, by decide +kernel, by decide +kernel⟩
def two (d : Pr) : List Int := [d.1, d.2]
theorem psO_ne {P : Program} {w : World} {a : Addr} {L : List (Addr × List Int)} {xs : List V} : PsO P w a L ≠ .tup xs := fun h => by
  unfold PsO at h
  cases h
theorem two_inj {d e : Pr} (h : two d = two e) : d = e := by
  unfold two at h
  obtain ⟨h1, h2⟩ := List.cons.inj h
  exact Prod.ext h1 (List.cons.inj h2).1
theorem not_taken {D : List Pr} (nd : D.Nodup) {i : Nat} {d : Pr} (g : D[i]? = some d) : d ∉ D.take i := fun z => by
  obtain ⟨j, gj⟩ := List.getElem?_of_mem z
  have lt : j < (D.take i).length := (List.getElem?_eq_some_iff.mp gj).1
  rw [List.length_take] at lt
  rw [List.getElem?_take_of_lt (by omega)] at gj
  have := nd_ix nd gj g
  omega
def spChk : Sp := fun vs H Q _ => ∃ (r : Nat) (l : Addr) (us : List V) (D : List Pr), vs = [.int r, .ref l] ∧ H l = some (.lst us) ∧ PL H us D ∧ D.Nodup ∧ (∀ d ∈ D, 0 ≤ d.1 ∧ d.1 < d.2 ∧ d.2 < r) ∧ r ≤ 12 ∧
  ∀ D' ws p H', Asc D' → (∀ d, d ∈ D' ↔ d ∈ D) → Same H H' → H p = none → H' p = some (.lst ws) → PL H' ws D' → Q (.ref p) H'
theorem ok_chk {f : Addr} {fd : FuncData} (F : Fun K "checked_doors" "checked_doors" sChk f fd) (T : Bi mg) : FnOk P w K mg base CX0 1 f fd ["rooms", "doors"] spChk := by
  refine F.ok scChk (fun vs H Q E h => ?_) (fun cdv A outer s H vs Q E hr h => ?_)
  · obtain ⟨r, l, us, D, rfl, _⟩ := h
    rfl
  · obtain ⟨r, l, us, D, rfl, hl, pl, nd, ok, hr12, q⟩ := h
    refine ⟨_, (pss_cons (ps_set (i := 2) scChk.nd rfl (Or.inl rfl) (pe_callTy0 cr_ps0 (by rfl) T.set (by decide +kernel)))
      (pss_cons (ps_for PassesOwn.never rfl (pi_enum (by rfl) T.enumerate (pa_cons (pv 1) pa_nil)) (pg_tup rfl (pgs_cons (pg_name (i := 3) scChk.nd rfl (Or.inl rfl)) (pgs_cons (pg_tup rfl (pgs_cons (pg_name (i := 4) scChk.nd rfl (Or.inl rfl)) (pgs_cons (pg_name (i := 5) scChk.nd rfl (Or.inl rfl)) pgs_nil))) pgs_nil)))
      (pss_cons (ps_if (PW.pt (pw_or (pt_not (PW.pt (pw_and (pt_chain op_le op_lt pe_int (pv 4) (pv 0)) (pw_and1 (pt_chain op_le op_lt pe_int (pv 5) (pv 0)))))) (pw_or (pt_cmpR op_eqI (pv 4) (pv 5) (nomark _)) (pw_or1 (pt_cmpR (op_psIn hr.units) (pe_tup (pa_cons (pv 4) (pa_cons (pv 5) pa_nil))) (pv 2) (by rfl))))))
        (pss_one (ps_never))
        pss_nil)
        (pss_one (ps_expr (pe_psAdd hr.units (pv 2) (pa_cons (pe_tup (pa_cons (pv 4) (pa_cons (pv 5) pa_nil))) pa_nil))))))
      (pss_one (ps_ret (pe_callB (cr_psSort rfl) (by rfl) T.sorted (by decide +kernel) (pa_cons (pv 2) pa_nil)))))), ?_⟩
    walk_at "rd"
    refine ⟨rfl, fun p np => ?_⟩
    obtain ⟨Pv, hPv⟩ : ∃ Pv : Nat → L2.St → Hp → Prop, Pv = (fun i σ H' => ∃ (L : List (Addr × List Int)) (v3 v4 v5 : Option V), σ = [some (.int r), some (.ref l), some (.ref p), v3, v4, v5] ∧ Same H H' ∧ H' p = some (PsO P w p L) ∧ (∀ q ∈ L, H' q.1 = some (.tup (q.2.map V.int))) ∧ List.Perm (L.map (·.2)) ((D.take i).map two)) := ⟨_, rfl⟩
    have hul : us.length = D.length := pl.len
    have dlen := drs_len' hr12 nd ok
    refine ⟨_, rfl, l, us, rfl, SqL.of (same_upd np l _ hl), for_enum (xs := us) Pv (by rw [hPv]; exact ⟨[], none, none, none, rfl, same_upd np, upd_same, fun q hq => (by cases hq), List.Perm.refl _⟩) (fun i σ H' pv => ?_) ?_ ?_⟩
    · rw [hPv] at pv
      obtain ⟨L, v3, v4, v5, _, sm, _⟩ := pv
      exact SqL.of (sm l _ hl)
    · rintro i v t σ H' gv pv nt
      have nxt : ∀ (L : List (Addr × List Int)) (v3 v4 v5 : Option V) (H' : Hp), Same H H' → H' p = some (PsO P w p L) → (∀ q ∈ L, H' q.1 = some (.tup (q.2.map V.int))) → List.Perm (L.map (·.2)) ((D.take (i + 1)).map two) → Pv (i + 1) [some (.int r), some (.ref l), some (.ref p), v3, v4, v5] H' := fun L v3 v4 v5 H' h1 h2 h3 h4 => by
        rw [hPv]
        exact ⟨L, v3, v4, v5, rfl, h1, h2, h3, h4⟩
      rw [hPv] at pv
      obtain ⟨L, v3, v4, v5, rfl, sm, hp, tp, pm⟩ := pv
      obtain ⟨d, gd, td, rfl, htd⟩ := pl.get gv
      have hid : i < D.length := (List.getElem?_eq_some_iff.mp gd).1
      have md : d ∈ D := List.mem_of_getElem? gd
      have okd := ok d md
      have hl1 := sm l _ hl
      have htd1 := sm td _ htd
      have ntd : td ≠ t := ne_of_none htd1 nt
      have htd2 : upd H' t (HO.tup [V.int i, V.ref td]) td = some (.tup [.int d.1, .int d.2]) := by rw [upd_ne ntd]; exact htd1
      walk_at "rd"
      refine ⟨[.int i, .ref td], SqT.of upd_same, rfl, .int i, [.ref td], rfl, .ref td, [], rfl, td, rfl, [.int d.1, .int d.2], SqT.of htd2, rfl, .int d.1, [.int d.2], rfl, .int d.2, [], rfl, rfl, rfl, d.1, rfl, ?_⟩
      rw [if_pos okd.1]
      refine ⟨d.1, rfl, ?_⟩
      rw [if_pos (show d.1 < (r : Int) by omega)]
      refine ⟨d.2, rfl, ?_⟩
      rw [if_pos (show 0 ≤ d.2 by omega)]
      refine ⟨d.2, rfl, ?_⟩
      rw [decide_eq_true okd.2.2]
      refine iteF ?_
      refine ⟨d.1, rfl, d.2, rfl, ?_⟩
      rw [if_neg (show ¬ d.1 = d.2 by omega)]
      refine ⟨by decide, fun t1 nt1 => ?_⟩
      have ne1 : t1 ≠ p := fun e => by
        rw [e, upd_ne (show p ≠ t from ne_of_none hp nt), hp] at nt1
        cases nt1
      have s1 : Same H' (upd (upd H' t (HO.tup [V.int i, V.ref td])) t1 (HO.tup [V.int d.1, V.int d.2])) := (same_upd nt).trans (same_upd nt1)
      have out : two d ∉ L.map (·.2) := fun z => by
        obtain ⟨e, he, ee⟩ := List.mem_map.mp (pm.mem_iff.mp z)
        rw [two_inj ee] at he
        exact not_taken nd gd he
      have lenL : L.length ≤ 66 := by
        have e := pm.length_eq
        rw [List.length_map, List.length_map, List.length_take] at e
        omega
      refine ⟨t1, two d, p, L, rfl, rfl, s1 p _ hp, fun q hq => SqT.of (s1 _ _ (tp q hq)), SqT.of upd_same, ?_⟩
      rw [decide_eq_false out]
      refine ⟨false, rfl, iteF ?_⟩
      generalize upd (upd H' t (HO.tup [V.int i, V.ref td])) t1 (HO.tup [V.int d.1, V.int d.2]) = H1 at s1
      have hp1 := s1 p _ hp
      refine ⟨_, rfl, ⟨p, L, rfl, hp1⟩, _, rfl, _, rfl, (by show 2 ≤ sizeLine; decide), fun t2 nt2 => ?_⟩
      have s2 : Same H1 (upd H1 t2 (HO.tup [V.int d.1, V.int d.2])) := same_upd nt2
      have hp2 := s2 p _ hp1
      refine ⟨t2, two d, p, L, rfl, rfl, hp2, fun q hq => SqT.of (s2 _ _ (s1 _ _ (tp q hq))), SqT.of upd_same, by omega, fun L' _ c2 => ?_⟩
      have pm2 := c2 out
      have keep : ∀ b xs, upd H1 t2 (HO.tup [V.int d.1, V.int d.2]) b = some (.tup xs) → upd (upd H1 t2 (HO.tup [V.int d.1, V.int d.2])) p (PsO P w p L') b = some (.tup xs) := fun b xs e => by
        rw [upd_ne]
        · exact e
        · rintro rfl
          rw [hp2] at e
          exact psO_ne (Option.some.inj e)
      refine nxt L' _ _ _ _ (same_ch ((sm.trans s1).trans s2) np) upd_same (fun q hq => ?_) ?_
      · refine keep _ _ ?_
        rcases List.mem_cons.mp (pm2.mem_iff.mp hq) with e | hq2
        · rw [e]
          exact upd_same
        · exact s2 _ _ (s1 _ _ (tp q hq2))
      · refine (pm2.map (·.2)).trans ?_
        rw [List.map_cons, List.take_add_one, gd, List.map_append]
        exact (List.Perm.cons _ pm).trans (List.perm_append_singleton _ _).symm
    · intro σ H' pv
      rw [hPv] at pv
      obtain ⟨L, v3, v4, v5, rfl, sm, hp, tp, pm⟩ := pv
      rw [hul, List.take_length] at pm
      have shape : ∀ q ∈ L, ∃ d ∈ D, q.2 = two d := fun q hq => by
        obtain ⟨d, hd, e⟩ := List.mem_map.mp (pm.mem_iff.mp (List.mem_map.mpr ⟨q, hq, rfl⟩))
        exact ⟨d, hd, e.symm⟩
      have lenL : L.length = D.length := by
        have e := pm.length_eq
        rw [List.length_map, List.length_map] at e
        exact e
      walk_at "rd"
      refine ⟨p, L, rfl, hp, fun q hq => SqT.of (tp q hq), fun q hq => ?_, by omega, fun L' t p1 n1 w1 nt => ?_⟩
      · obtain ⟨d, _, e⟩ := shape q hq
        exact ⟨d.1, d.2, e⟩
      · have hl' : ∀ q ∈ L', pr2 q.2 ∈ D ∧ H' q.1 = some (.tup [.int (pr2 q.2).1, .int (pr2 q.2).2]) := fun q hq => by
          have hq2 := p1.mem_iff.mp hq
          obtain ⟨d, hd, e⟩ := shape q hq2
          have e2 := tp q hq2
          rw [e] at e2 ⊢
          exact ⟨hd, e2⟩
        have back : ∀ q ∈ L', two (pr2 q.2) = q.2 := fun q hq => by
          obtain ⟨d, hd, e⟩ := shape q (p1.mem_iff.mp hq)
          rw [e]
          rfl
        refine q (L'.map fun q => pr2 q.2) (L'.map fun q => V.ref q.1) t _ (asc_of ?_ ?_) (fun d => ?_) (sm.trans (same_upd nt)) (sm.free nt) upd_same ?_
        · refine List.pairwise_map.mpr (List.Pairwise.imp_of_mem (fun {x y} hx hy hne e => hne ?_) (List.pairwise_map.mp n1))
          rw [← back x hx, ← back y hy, e]
        · exact List.pairwise_map.mpr w1
        · constructor
          · intro hd
            obtain ⟨q, hq, rfl⟩ := List.mem_map.mp hd
            exact (hl' q hq).1
          · intro hd
            have m1 : two d ∈ L.map (·.2) := pm.mem_iff.mpr (List.mem_map.mpr ⟨d, hd, rfl⟩)
            obtain ⟨q, hq, e⟩ := List.mem_map.mp m1
            refine List.mem_map.mpr ⟨q, p1.mem_iff.mpr hq, ?_⟩
            rw [e]
            rfl
        · have all : ∀ M : List (Addr × List Int), (∀ q ∈ M, H' q.1 = some (.tup [.int (pr2 q.2).1, .int (pr2 q.2).2])) → PL H' (M.map fun q => V.ref q.1) (M.map fun q => pr2 q.2) := by
            intro M
            induction M with
            | nil => intro _; exact Paired.nil
            | cons q M ih => intro h; exact Paired.cons ⟨q.1, rfl, h q List.mem_cons_self⟩ (ih fun z hz => h z (List.mem_cons_of_mem _ hz))
          exact (all L' fun q hq => (hl' q hq).2).kt (KT.new nt)
end

/-! ### the house as an object -/
def hf (r : Int) (l m : Addr) : List (Str × V) := putF "_near" (.ref m) (putF "_doors" (.ref l) (putF "rooms" (.int r) []))
theorem hn1 : ¬ (("rooms" : Str) = "_doors") := by decide +kernel
theorem hn2 : ¬ (("rooms" : Str) = "_near") := by decide +kernel
theorem hn3 : ¬ (("_doors" : Str) = "_near") := by decide +kernel
theorem hf_rooms (r : Int) (l m : Addr) : (hf r l m).lookup ("rooms" : Str) = some (.int r) := by
  unfold hf
  rw [lookup_putF, if_neg hn2, lookup_putF, if_neg hn1, lookup_putF, if_pos rfl]
theorem hf_doors (r : Int) (l m : Addr) : (hf r l m).lookup ("_doors" : Str) = some (.ref l) := by
  unfold hf
  rw [lookup_putF, if_neg hn3, lookup_putF, if_pos rfl]
theorem hf_near (r : Int) (l m : Addr) : (hf r l m).lookup ("_near" : Str) = some (.ref m) := by
  unfold hf
  rw [lookup_putF, if_pos rfl]
theorem hf_no (r : Int) (l m : Addr) {x : Str} (h1 : ¬ x = "_near") (h2 : ¬ x = "_doors") (h3 : ¬ x = "rooms") : (hf r l m).lookup x = none := by
  unfold hf
  rw [lookup_putF, if_neg h1, lookup_putF, if_neg h2, lookup_putF, if_neg h3]
  rfl
/-- the neighbours of room i by the doors D, in the order in which they are met -/
def nearF (i : Int) (D : List Pr) : List Int := D.filterMap fun d => if d.1 = i then some d.2 else if d.2 = i then some d.1 else none
/-- a house with these rooms and doors stands at p -/
structure HouseAt (C : Addr) (H : Hp) (p : Addr) (r : Nat) (D : List Pr) (own : List Addr) : Prop where
  ex : ∃ (dx l m : Addr) (ls : List V) (ns : List Addr), H p = some (.ins C dx (hf r l m)) ∧ H l = some (.lst ls) ∧ PL H ls D ∧ H m = some (.lst (ns.map V.ref)) ∧ ns.length = r ∧ (∀ i n, ns[i]? = some n → H n = some (.lst ((nearF (i : Nat) D).map V.int))) ∧ own = p :: l :: m :: ns
  ok : Drs r D
  r1 : 1 ≤ r
  r12 : r ≤ 12
theorem nearF_snoc (j : Int) (D : List Pr) (d : Pr) : nearF j (D ++ [d]) = nearF j D ++ (if d.1 = j then [d.2] else if d.2 = j then [d.1] else []) := by
  unfold nearF
  rw [List.filterMap_append]
  congr 1
  show List.filterMap _ [d] = _
  rw [List.filterMap_cons]
  by_cases h1 : d.1 = j
  · simp [h1]
  · by_cases h2 : d.2 = j
    · simp [h1, h2]
    · simp [h1, h2]
def mm2 (d : Pr) : Pr := (if d.2 < d.1 then d.2 else d.1, if d.2 > d.1 then d.2 else d.1)
section
variable {P : Program} {w : World} {K : PySem.W.Frag} {mg : Str → Option Value} {base : Heap}
theorem scHinit : FnScope ["self", "rooms", "doors", "a", "b", "_"] ["self", "rooms", "doors"] (defScope sHinit) := ⟨rfl, rfl, rfl, by decide +kernel, rfl, by decide +kernel, by decide +kernel⟩
def spHinit (C : Addr) : Sp := fun vs H Q _ => ∃ (p dx l : Addr) (r : Nat) (us : List V) (D E : List Pr), vs = [.ref p, .int r, .ref l] ∧ H p = some (.ins C dx []) ∧ H l = some (.lst us) ∧ PL H us D ∧ D.map mm2 = E ∧ E.Nodup ∧ (∀ d ∈ E, 0 ≤ d.1 ∧ d.1 < d.2 ∧ d.2 < r) ∧ 1 ≤ r ∧ r ≤ 12 ∧
  ∀ D' own H', (∀ d, d ∈ D' ↔ d ∈ E) → HouseAt C H' p r D' own → (∀ b o, H b = some o → b ≠ p → H' b = some o) → (∀ b ∈ own, b ≠ p → H b = none) → Q .non H'
theorem ok_hinit {f C fR fC : Addr} {fd fdR fdC : FuncData} (F : Fun K "__init__" "House.__init__" sHinit f fd) (T : Bi mg) (U : Hs K mg C) (d_check_room_count : Df P w K mg base "check_room_count" ["rooms"] 1 spRoom fR fdR)
    (d_checked_doors : Df P w K mg base "checked_doors" ["rooms", "doors"] 1 spChk fC fdC) : FnOk P w K mg base CX0 2 f fd ["self", "rooms", "doors"] (spHinit C) := by
  refine F.ok scHinit (fun vs H Q E h => ?_) (fun cdv A outer s H vs Q E hr h => ?_)
  · obtain ⟨p, dx, l, r, us, D, E, rfl, _⟩ := h
    rfl
  · obtain ⟨p, dx, l, r, us, D, E, rfl, hp, hl, pl, eE, nd, ok, hr1, hr12, q⟩ := h
    refine ⟨_, (pss_cons (ps_expr (pe_call d_check_room_count.ok (hr.mono (by decide)) (by rfl) d_check_room_count.at_ d_check_room_count.kp d_check_room_count.b .nil pass0 (pa_cons (pv 1) pa_nil)))
      (pss_cons (ps_fld (pv 0) (pv 1) rfl)
      (pss_cons (ps_fld (pv 0) (pe_call d_checked_doors.ok (hr.mono (by decide)) (by rfl) d_checked_doors.at_ d_checked_doors.kp d_checked_doors.b .nil pass0 (pa_cons (pv 1) (pa_cons (pe_lc (own := [("a", 3), ("b", 4)]) (g := gTup K 2 (gCons (gName 3) (gCons (gName 4) gNil))) (by rfl) scHinit.nd (pi_list (pv 2)) (blkOk_by (N := ["self", "rooms", "doors", "a", "b", "_"]) (sc := defScope sHinit) (by decide +kernel)) (fun _ _ _ _ _ => pg_tup rfl (pgs_cons (pg_name (i := 3) scHinit.nd rfl (Or.inl rfl)) (pgs_cons (pg_name (i := 4) scHinit.nd rfl (Or.inl rfl)) pgs_nil))) (fun _ _ _ _ _ => pts_nil) (fun _ _ _ _ _ => (pe_tup (pa_cons (pe_callB (call_min2 rfl) (by rfl) T.min (by decide +kernel) (pa_cons (pv 3) (pa_cons (pv 4) pa_nil))) (pa_cons (pe_callB (call_max2 rfl) (by rfl) T.max (by decide +kernel) (pa_cons (pv 3) (pa_cons (pv 4) pa_nil))) pa_nil))))) pa_nil))) rfl)
      (pss_cons (ps_fld (pv 0) (pe_lc (own := [("_", 5)]) (by rfl) scHinit.nd (pi_range1 (by rfl) T.range (pa_cons (pv 1) pa_nil)) (blkOk_by (N := ["self", "rooms", "doors", "a", "b", "_"]) (sc := defScope sHinit) (by decide +kernel)) (fun _ _ _ _ _ => pg_name (i := 5) scHinit.nd rfl (Or.inl rfl)) (fun _ _ _ _ _ => pts_nil) (fun _ _ _ _ _ => (pe_lst pa_nil))) rfl)
      (pss_one (ps_for PassesOwn.never rfl (pi_list (pe_fld (pv 0) rfl)) (pg_tup rfl (pgs_cons (pg_name (i := 3) scHinit.nd rfl (Or.inl rfl)) (pgs_cons (pg_name (i := 4) scHinit.nd rfl (Or.inl rfl)) pgs_nil)))
      (pss_cons (ps_expr (pe_bm PySem.F.plainAttrs_list PySem.F.slot_list_append PySem.F.type_list_append mt_append (pe_ix ix_list (pe_fld (pv 0) rfl) (pv 3) (fun _ _ => rfl)) (pa_cons (pv 4) pa_nil)))
        (pss_one (ps_expr (pe_bm PySem.F.plainAttrs_list PySem.F.slot_list_append PySem.F.type_list_append mt_append (pe_ix ix_list (pe_fld (pv 0) rfl) (pv 4) (fun _ _ => rfl)) (pa_cons (pv 3) pa_nil))))))))))), ?_⟩
    walk_at "rd"
    refine ⟨r, rfl, by omega, by omega, ?_⟩
    have npl : l ≠ p := ne_of hl hp (by intro z; cases z)
    refine ⟨C, dx, [], hp, U.cl, U.nR, (by show 0 < 1000; decide), ?_⟩
    have hl1 : upd H p (HO.ins C dx (putF "rooms" (V.int r) [])) l = some (.lst us) := by rw [upd_ne npl]; exact hl
    have pl1 : PL (upd H p (HO.ins C dx (putF "rooms" (V.int r) []))) us D := pl.kt (KT.ch hp (fun _ z => by cases z))
    have hp1 : upd H p (HO.ins C dx (putF "rooms" (V.int r) [])) p = some (HO.ins C dx (putF "rooms" (V.int r) [])) := upd_same
    have old1 : ∀ b o, H b = some o → b ≠ p → upd H p (HO.ins C dx (putF "rooms" (V.int r) [])) b = some o := fun b o e h => by rw [upd_ne h]; exact e
    have free1 : ∀ b, upd H p (HO.ins C dx (putF "rooms" (V.int r) [])) b = none → H b = none ∧ b ≠ p := fun b e => by
      have h : b ≠ p := fun z => by
        rw [z, upd_same] at e
        cases e
      rw [upd_ne h] at e
      exact ⟨e, h⟩
    generalize upd H p (HO.ins C dx (putF "rooms" (V.int r) [])) = H1 at hl1 pl1 hp1 old1 free1
    have dlen : D.length ≤ 66 := by
      have e := drs_len' hr12 nd ok
      rw [← eE, List.length_map] at e
      exact e
    have ul : us.length = D.length := pl.len
    -- [(min(a, b), max(a, b)) for a, b in doors]
    refine ⟨_, rfl, l, rfl, ⟨_, SqL.of hl1⟩, fun c nc => ?_⟩
    obtain ⟨Pv, hPv⟩ : ∃ Pv : Nat → Hp → Prop, Pv = (fun i H' => ∃ ws, Same H1 H' ∧ H' c = some (.lst ws) ∧ PL H' ws ((D.take i).map mm2)) := ⟨_, rfl⟩
    refine lc_list (K := K) (a := l) (xs := us) Pv (by rw [hPv]; exact ⟨[], same_upd nc, upd_same, PL.nil0 _⟩) (fun i H' _ pv => by rw [hPv] at pv; obtain ⟨_, sm, _⟩ := pv; exact SqL.of (sm _ _ hl1)) (fun i v H' gv pv => ?_) (fun H' pv => ?_)
    · have nxt : ∀ ws H', Same H1 H' → H' c = some (.lst ws) → PL H' ws ((D.take (i + 1)).map mm2) → Pv (i + 1) H' := fun ws H' h1 h2 h3 => by
        rw [hPv]
        exact ⟨ws, h1, h2, h3⟩
      rw [hPv] at pv
      obtain ⟨ws, sm, hc, pw⟩ := pv
      obtain ⟨d, gd, td, rfl, htd⟩ := pl1.get gv
      have hid : i < D.length := (List.getElem?_eq_some_iff.mp gd).1
      have htd1 := sm _ _ htd
      have lw : ws.length ≤ 66 := by
        rw [pw.len, List.length_map, List.length_take]
        omega
      simp only [wipe]
      walk_at "rd"
      refine ⟨_, SqT.of htd1, rfl, _, _, rfl, _, _, rfl, rfl, ?_⟩
      walk_at "rd"
      refine ⟨(by show 2 ≤ sizeLine; decide), fun t nt => ?_⟩
      have nct : c ≠ t := ne_of_none hc nt
      refine ⟨ws, by rw [upd_ne nct]; exact hc, len_big (by omega), nxt (ws ++ [.ref t]) _ (same_ch (sm.trans (same_upd nt)) nc) upd_same ?_⟩
      rw [List.take_add_one, gd, List.map_append]
      refine PL.snoc ((pw.kt (KT.new nt)).kt (KT.lst (by rw [upd_ne nct]; exact hc))) ⟨t, rfl, ?_⟩
      rw [upd_ne nct.symm, upd_same]
      rfl
    · rw [hPv] at pv
      obtain ⟨ws, s2, hc, pw⟩ := pv
      rw [ul, List.take_length, eE] at pw
      -- checked_doors
      refine ⟨r, c, ws, E, rfl, hc, pw, nd, ok, hr12, fun D' ls q0 H2 asc mem s3 nq hq pq => ?_⟩
      have s13 : Same H1 H2 := s2.trans s3
      have hp2 := s13 _ _ hp1
      have nqp : q0 ≠ p := ne_of hq hp2 (by intro z; cases z)
      refine ⟨C, dx, _, hp2, U.cl, U.nD, (by show 1 < 1000; decide), ?_⟩
      have hq3 : upd H2 p (HO.ins C dx (putF "_doors" (V.ref q0) (putF "rooms" (V.int r) []))) q0 = some (.lst ls) := by rw [upd_ne nqp]; exact hq
      have hp3 : upd H2 p (HO.ins C dx (putF "_doors" (V.ref q0) (putF "rooms" (V.int r) []))) p = some (HO.ins C dx (putF "_doors" (V.ref q0) (putF "rooms" (V.int r) []))) := upd_same
      have pq3 : PL (upd H2 p (HO.ins C dx (putF "_doors" (V.ref q0) (putF "rooms" (V.int r) [])))) ls D' := pq.kt (KT.ch hp2 (fun _ z => by cases z))
      have old3 : ∀ b o, H b = some o → b ≠ p → upd H2 p (HO.ins C dx (putF "_doors" (V.ref q0) (putF "rooms" (V.int r) []))) b = some o := fun b o e h => by
        rw [upd_ne h]
        exact s13 _ _ (old1 b o e h)
      have free3 : ∀ b, upd H2 p (HO.ins C dx (putF "_doors" (V.ref q0) (putF "rooms" (V.int r) []))) b = none → H b = none ∧ b ≠ p := fun b e => by
        have h : b ≠ p := fun z => by
          rw [z, upd_same] at e
          cases e
        rw [upd_ne h] at e
        exact free1 b (s13.free e)
      have fq : H q0 = none := (free1 q0 (s2.free nq)).1
      generalize upd H2 p (HO.ins C dx (putF "_doors" (V.ref q0) (putF "rooms" (V.int r) []))) = H3 at hq3 hp3 pq3 old3 free3
      -- [[] for _ in range(rooms)]
      refine ⟨_, rfl, r, rfl, by omega, by omega, fun m nm => ?_⟩
      obtain ⟨Pv, hPv⟩ : ∃ Pv : Nat → Hp → Prop, Pv = (fun i H' => ∃ ns : List Addr, Same H3 H' ∧ H' m = some (.lst (ns.map V.ref)) ∧ ns.length = i ∧ ns.Nodup ∧ (∀ n ∈ ns, H' n = some (.lst []) ∧ H3 n = none ∧ n ≠ m)) := ⟨_, rfl⟩
      refine lc_range (lo := 0) (n := ((r : Nat) : Int).toNat) Pv (by rw [hPv]; exact ⟨[], same_upd nm, upd_same, rfl, List.nodup_nil, fun n hn => by cases hn⟩) (fun i H' hi pv => ?_) (fun H' pv => ?_)
      · have nxt : ∀ (ns : List Addr) H', Same H3 H' → H' m = some (.lst (ns.map V.ref)) → ns.length = i + 1 → ns.Nodup → (∀ n ∈ ns, H' n = some (.lst []) ∧ H3 n = none ∧ n ≠ m) → Pv (i + 1) H' := fun ns H' h1 h2 h3 h4 h5 => by
          rw [hPv]
          exact ⟨ns, h1, h2, h3, h4, h5⟩
        rw [hPv] at pv
        obtain ⟨ns, sm, hm, ln, nn, hn⟩ := pv
        simp only [wipe]
        walk_at "rd"
        refine ⟨by decide, fun e ne => ?_⟩
        have nem : m ≠ e := ne_of_none hm ne
        refine ⟨ns.map V.ref, by rw [upd_ne nem]; exact hm, len_big (by rw [List.length_map]; omega), nxt (ns ++ [e]) _ (same_ch (sm.trans (same_upd ne)) nm) (by rw [upd_same, List.map_append]; rfl) (by rw [List.length_append, ln]; rfl) ?_ fun n hn2 => ?_⟩
        · refine List.nodup_append.mpr ⟨nn, by simp, fun a ha b hb => ?_⟩
          rw [List.mem_singleton.mp hb]
          exact ne_of_none (hn a ha).1 ne
        · rcases List.mem_append.mp hn2 with h | h
          · obtain ⟨h1, h2, h3⟩ := hn n h
            refine ⟨?_, h2, h3⟩
            rw [upd_ne h3, upd_ne (ne_of_none h1 ne)]
            exact h1
          · rw [List.mem_singleton.mp h]
            refine ⟨?_, sm.free ne, nem.symm⟩
            rw [upd_ne nem.symm, upd_same]
      · rw [hPv] at pv
        obtain ⟨ns, s4, hm, ln, nn, hn⟩ := pv
        have hp4 := s4 _ _ hp3
        have nmp : m ≠ p := (ne_of_none hp3 nm).symm
        refine ⟨C, dx, _, hp4, U.cl, U.nN, (by show 2 < 1000; decide), ?_⟩
        have ehf : putF "_near" (V.ref m) (putF "_doors" (V.ref q0) (putF "rooms" (V.int r) [])) = hf r q0 m := rfl
        rw [ehf]
        have npn : ∀ n ∈ ns, n ≠ p := fun n h => (ne_of_none hp3 (hn n h).2.1).symm
        have nqn : ∀ n ∈ ns, n ≠ q0 := fun n h => (ne_of_none hq3 (hn n h).2.1).symm
        have hp5 : upd H' p (HO.ins C dx (hf r q0 m)) p = some (HO.ins C dx (hf r q0 m)) := upd_same
        have hq5 : upd H' p (HO.ins C dx (hf r q0 m)) q0 = some (.lst ls) := by rw [upd_ne nqp]; exact s4 _ _ hq3
        have hm5 : upd H' p (HO.ins C dx (hf r q0 m)) m = some (.lst (ns.map V.ref)) := by rw [upd_ne nmp]; exact hm
        have hn5 : ∀ n ∈ ns, upd H' p (HO.ins C dx (hf r q0 m)) n = some (.lst []) := fun n h => by rw [upd_ne (npn n h)]; exact (hn n h).1
        have pq5 : PL (upd H' p (HO.ins C dx (hf r q0 m))) ls D' := (pq3.kt (KT.same s4)).kt (KT.ch hp4 (fun _ z => by cases z))
        have old5 : ∀ b o, H b = some o → b ≠ p → upd H' p (HO.ins C dx (hf r q0 m)) b = some o := fun b o e h => by
          rw [upd_ne h]
          exact s4 _ _ (old3 b o e h)
        have fm : H m = none := (free3 m nm).1
        have fn : ∀ n ∈ ns, H n = none := fun n h => (free3 n (hn n h).2.1).1
        have nmn : ∀ n ∈ ns, n ≠ m := fun n h => (hn n h).2.2
        generalize upd H' p (HO.ins C dx (hf r q0 m)) = H5 at hp5 hq5 hm5 hn5 pq5 old5
        have drs : Drs r D' := ⟨asc, fun d hd => ok d ((mem d).mp hd)⟩
        have dl : D'.length ≤ 66 := drs.len hr12
        have ll : ls.length = D'.length := pq.len
        -- the rooms' neighbours
        obtain ⟨Pw, hPw⟩ : ∃ Pw : Nat → L2.St → Hp → Prop, Pw = (fun i σ H' => ∃ v3 v4 : Option V, σ = [some (.ref p), some (.int r), some (.ref l), v3, v4, none] ∧ (∀ b o, H5 b = some o → b ∉ ns → H' b = some o) ∧ (∀ (j : Nat) n, ns[j]? = some n → H' n = some (.lst ((nearF (j : Nat) (D'.take i)).map V.int)))) := ⟨_, rfl⟩
        refine ⟨_, rfl, p, C, dx, _, .ref q0, rfl, hp5, U.cl, U.nD, hf_doors _ _ _, q0, rfl, ⟨_, SqL.of hq5⟩, for_list (K := K) (a := q0) (xs := ls) Pw (by rw [hPw]; exact ⟨none, none, rfl, fun b o e _ => e, fun j n g => hn5 n (List.mem_of_getElem? g)⟩) (fun i σ H' _ pv => ?_) (fun i v σ H' gv pv => ?_) (fun σ H' pv => ?_)⟩
        · rw [hPw] at pv
          obtain ⟨_, _, _, k1, _⟩ := pv
          exact SqL.of (k1 _ _ hq5 fun z => nqn _ z rfl)
        · have nxt : ∀ v3 v4 H', (∀ b o, H5 b = some o → b ∉ ns → H' b = some o) → (∀ (j : Nat) n, ns[j]? = some n → H' n = some (.lst ((nearF (j : Nat) (D'.take (i + 1))).map V.int))) → Pw (i + 1) [some (.ref p), some (.int r), some (.ref l), v3, v4, none] H' := fun v3 v4 H' h1 h2 => by
            rw [hPw]
            exact ⟨v3, v4, rfl, h1, h2⟩
          rw [hPw] at pv
          obtain ⟨v3, v4, rfl, k1, k2⟩ := pv
          obtain ⟨d, gd, td, rfl, htd⟩ := pq5.get gv
          have okd := drs.ok d (List.mem_of_getElem? gd)
          have htd1 : H' td = some (.tup [.int d.1, .int d.2]) := k1 _ _ htd fun z => by
            have e := hn5 td z
            rw [htd] at e
            cases e
          obtain ⟨ja, eja⟩ : ∃ ja : Nat, d.1 = ja := ⟨d.1.toNat, by omega⟩
          obtain ⟨jb, ejb⟩ : ∃ jb : Nat, d.2 = jb := ⟨d.2.toNat, by omega⟩
          obtain ⟨na, gna⟩ : ∃ n, ns[ja]? = some n := ⟨_, List.getElem?_eq_getElem (by omega)⟩
          obtain ⟨nb, gnb⟩ : ∃ n, ns[jb]? = some n := ⟨_, List.getElem?_eq_getElem (by omega)⟩
          have nab : na ≠ nb := fun z => by
            rw [← z] at gnb
            have := nd_ix nn gna gnb
            omega
          have mna := List.mem_of_getElem? gna
          have mnb := List.mem_of_getElem? gnb
          have hp6 := k1 _ _ hp5 fun z => npn _ z rfl
          have hm6 := k1 _ _ hm5 fun z => nmn _ z rfl
          have short : ∀ j : Int, (nearF j (D'.take i)).length ≤ 66 := fun j => by
            have := List.length_filterMap_le (fun d : Pr => if d.1 = j then some d.2 else if d.2 = j then some d.1 else none) (D'.take i)
            rw [List.length_take] at this
            show (List.filterMap _ _).length ≤ 66
            omega
          have ga := k2 ja na gna
          have gb := k2 jb nb gnb
          walk_at "rd"
          refine ⟨_, SqT.of htd1, rfl, _, _, rfl, _, _, rfl, rfl, ?_⟩
          walk_at "rd"
          have npa : p ≠ na := fun z => npn na mna z.symm
          have nma : m ≠ na := fun z => nmn na mna z.symm
          have big : ∀ j : Int, ((nearF j (D'.take i)).map V.int).length < sizeLine := fun j => len_big (by rw [List.length_map]; have := short j; omega)
          refine ⟨C, dx, _, hp6, U.cl, U.nN, .ref m, hf_near _ _ _, m, rfl, _, SqL.of hm6, .ref na, at_of (j := ja) eja (by rw [List.getElem?_map, gna]; rfl), .inl ⟨rfl, _, SqL.of ga⟩, na, rfl, _, ga, big _, ?_⟩
          refine ⟨C, dx, _, by rw [upd_ne npa]; exact hp6, U.cl, U.nN, .ref m, hf_near _ _ _, m, rfl, _, SqL.of (by rw [upd_ne nma]; exact hm6), .ref nb, at_of (j := jb) ejb (by rw [List.getElem?_map, gnb]; rfl), ?_⟩
          have gb2 : upd H' na (HO.lst ((nearF (ja : Nat) (D'.take i)).map V.int ++ [V.int d.2])) nb = some (.lst ((nearF (jb : Nat) (D'.take i)).map V.int)) := by rw [upd_ne nab.symm]; exact gb
          refine ⟨.inl ⟨rfl, _, SqL.of gb2⟩, nb, rfl, _, gb2, big _, ?_⟩
          refine nxt _ _ _ (fun b o e h => ?_) (fun j n gn => ?_)
          · rw [upd_ne (show b ≠ nb from fun z => h (by rw [z]; exact mnb)), upd_ne (show b ≠ na from fun z => h (by rw [z]; exact mna))]
            exact k1 b o e h
          · rw [List.take_add_one, gd]
            show _ = some (HO.lst ((nearF (j : Nat) (D'.take i ++ [d])).map V.int))
            rw [nearF_snoc]
            by_cases e1 : n = nb
            · subst e1
              have ej := nd_ix nn gn gnb
              subst ej
              rw [upd_same, if_neg (by omega), if_pos ejb, List.map_append, eja]
              rfl
            · rw [upd_ne e1]
              by_cases e2 : n = na
              · subst e2
                have ej := nd_ix nn gn gna
                subst ej
                rw [upd_same, if_pos eja, List.map_append]
                rfl
              · have j1 : ¬ d.1 = (j : Int) := fun z => e2 (by
                  have ej : j = ja := by omega
                  rw [ej, gna] at gn
                  exact (Option.some.inj gn).symm)
                have j2 : ¬ d.2 = (j : Int) := fun z => e1 (by
                  have ej : j = jb := by omega
                  rw [ej, gnb] at gn
                  exact (Option.some.inj gn).symm)
                rw [upd_ne e2, if_neg j1, if_neg j2, List.append_nil]
                exact k2 j n gn
        · rw [hPw] at pv
          obtain ⟨v3, v4, rfl, k1, k2⟩ := pv
          rw [ll, List.take_length] at k2
          refine q D' (p :: q0 :: m :: ns) H' mem ⟨⟨dx, q0, m, ls, ns, k1 _ _ hp5 fun z => npn _ z rfl, k1 _ _ hq5 fun z => nqn _ z rfl, ?_, k1 _ _ hm5 fun z => nmn _ z rfl, by omega, k2, rfl⟩, drs, hr1, hr12⟩ (fun b o e h => ?_) fun b hb h => ?_
          · refine Paired.mapP pq5 fun v d ⟨t, e, ht⟩ => ⟨t, e, k1 _ _ ht fun z => ?_⟩
            have e2 := hn5 t z
            rw [ht] at e2
            cases e2
          · refine k1 _ _ (old5 b o e h) fun z => ?_
            rw [fn b z] at e
            cases e
          · rcases List.mem_cons.mp hb with z | hb
            · exact absurd z h
            · rcases List.mem_cons.mp hb with z | hb
              · rw [z]; exact fq
              · rcases List.mem_cons.mp hb with z | hb
                · rw [z]; exact fm
                · exact fn b hb
end

theorem HouseAt.keep {C : Addr} {H H' : Hp} {p : Addr} {r : Nat} {D : List Pr} {own : List Addr} (h : HouseAt C H p r D own) (k : ∀ b o, b ∈ own → H b = some o → H' b = some o) (kt : KT H H') : HouseAt C H' p r D own := by
  obtain ⟨dx, l, m, ls, ns, h1, h2, h3, h4, h5, h6, rfl⟩ := h.ex
  refine ⟨⟨dx, l, m, ls, ns, k _ _ List.mem_cons_self h1, k _ _ (by simp) h2, h3.kt kt, k _ _ (by simp) h4, h5, fun i n g => k _ _ (by have := List.mem_of_getElem? g; simp [this]) (h6 i n g), rfl⟩, h.ok, h.r1, h.r12⟩
theorem HouseAt.same {C : Addr} {H H' : Hp} {p : Addr} {r : Nat} {D : List Pr} {own : List Addr} (h : HouseAt C H p r D own) (s : Same H H') : HouseAt C H' p r D own := h.keep (fun b o _ e => s b o e) (KT.same s)
theorem HouseAt.stands {C : Addr} {H : Hp} {p : Addr} {r : Nat} {D : List Pr} {own : List Addr} (h : HouseAt C H p r D own) : ∀ b ∈ own, ∃ o, H b = some o := by
  obtain ⟨dx, l, m, ls, ns, h1, h2, h3, h4, h5, h6, rfl⟩ := h.ex
  intro b hb
  rcases List.mem_cons.mp hb with z | hb
  · exact ⟨_, by rw [z]; exact h1⟩
  · rcases List.mem_cons.mp hb with z | hb
    · exact ⟨_, by rw [z]; exact h2⟩
    · rcases List.mem_cons.mp hb with z | hb
      · exact ⟨_, by rw [z]; exact h4⟩
      · obtain ⟨i, g⟩ := List.getElem?_of_mem hb
        exact ⟨_, h6 i b g⟩
section
variable {P : Program} {w : World} {K : PySem.W.Frag} {mg : Str → Option Value} {base : Heap}
theorem scHdoors : FnScope ["self"] ["self"] (defScope sHdoors) := ⟨rfl, rfl, rfl, by decide +kernel, rfl, by decide +kernel, by decide +kernel⟩
def spHdoors (C : Addr) : Sp := fun vs H Q _ => ∃ (p : Addr) (r : Nat) (D : List Pr) (own : List Addr), vs = [.ref p] ∧ HouseAt C H p r D own ∧ ∀ ls q, PL H ls D → H q = none → Q (.ref q) (upd H q (.lst ls))
theorem ok_hdoors {f C : Addr} {fd : FuncData} (F : Fun K "doors" "House.doors" sHdoors f fd) (T : Bi mg) (U : Hs K mg C) : FnOk P w K mg base CX0 1 f fd ["self"] (spHdoors C) := by
  refine F.ok scHdoors (fun vs H Q E h => ?_) (fun cdv A outer s H vs Q E hr h => ?_)
  · obtain ⟨p, r, D, own, rfl, _⟩ := h
    rfl
  · obtain ⟨p, r, D, own, rfl, hh, q⟩ := h
    obtain ⟨dx, l, m, ls, ns, h1, h2, h3, h4, h5, h6, rfl⟩ := hh.ex
    refine ⟨_, (pss_one (ps_ret (pe_callTy call_list_of (by rfl) T.list (by decide +kernel) (pa_cons (pe_fld (pv 0) rfl) pa_nil)))), ?_⟩
    walk_at "rd"
    exact ⟨C, dx, _, h1, U.cl, U.nD, .ref l, hf_doors _ _ _, l, rfl, _, .inl (SqL.of h2), fun t nt => q ls t h3 nt⟩
theorem scHnear : FnScope ["self", "room"] ["self", "room"] (defScope sHnear) := ⟨rfl, rfl, rfl, by decide +kernel, rfl, by decide +kernel, by decide +kernel⟩
def spHnear (C : Addr) : Sp := fun vs H Q _ => ∃ (p : Addr) (r : Nat) (D : List Pr) (own : List Addr) (i : Nat), vs = [.ref p, .int i] ∧ HouseAt C H p r D own ∧ i < r ∧ ∀ q, H q = none → Q (.ref q) (upd H q (.lst ((nearF (i : Nat) D).map V.int)))
theorem ok_hnear {f C : Addr} {fd : FuncData} (F : Fun K "neighbours" "House.neighbours" sHnear f fd) (T : Bi mg) (U : Hs K mg C) : FnOk P w K mg base CX0 1 f fd ["self", "room"] (spHnear C) := by
  refine F.ok scHnear (fun vs H Q E h => ?_) (fun cdv A outer s H vs Q E hr h => ?_)
  · obtain ⟨p, r, D, own, i, rfl, _⟩ := h
    rfl
  · obtain ⟨p, r, D, own, i, rfl, hh, hi, q⟩ := h
    obtain ⟨dx, l, m, ls, ns, h1, h2, h3, h4, h5, h6, rfl⟩ := hh.ex
    obtain ⟨n, gn⟩ : ∃ n, ns[i]? = some n := ⟨_, List.getElem?_eq_getElem (by omega)⟩
    refine ⟨_, (pss_one (ps_ret (pe_callTy call_list_of (by rfl) T.list (by decide +kernel) (pa_cons (pe_ix ix_list (pe_fld (pv 0) rfl) (pv 1) (fun _ _ => rfl)) pa_nil)))), ?_⟩
    walk_at "rd"
    refine ⟨C, dx, _, h1, U.cl, U.nN, .ref m, hf_near _ _ _, m, rfl, _, SqL.of h4, .ref n, atI_nat (by rw [List.getElem?_map, gn]; rfl), n, rfl, _, .inl (SqL.of (h6 i n gn)), fun t nt => q t nt⟩
end

/-! ### a bound method as a value, and its call -/
def tBnd (C : Addr) (m : Str) (g : Addr) (ta : TE) : TE := fun σ H Q => ta σ H fun x H1 => ∃ a dx fs, x = .ref a ∧ H1 a = some (.ins C dx fs) ∧ fs.lookup m = none ∧ ∀ q, H1 q = none → Q (.ref q) (upd H1 q (.met g a))
theorem pe_bnd {X : Cx} {C g : Addr} {m : Str} {e : Expr} {ta : TE} {pos : Pos} (he : PE X e ta) (c : Cls X.K C) (k : BMeth X.K C m g) (hb : attributeBase e m X.env (eval e X.env) = eval e X.env := by rfl) : PE X (.Attribute e m pos) (tBnd C m g ta) := by
  refine ⟨fun pins s σ H Q I h => ?_⟩
  refine attr_of hb (thn (he.run pins s σ H _ I h) fun u s1 ⟨x, H1, I1, rx, a, dx, fs, ex, ea, l, q⟩ => ?_)
  subst ex
  obtain rfl : u = Value.ref a := rx
  exact getbound_ok I1 ea c k l fun p s2 hp I2 => ⟨.ref p, _, I2, rfl, q p hp⟩
/-- f(e, ..), the i-th slot a bound method of the def at g -/
def tCallM (i : Nat) (g : Addr) (sp : Sp) (E : XK) (t : TA) : TE := fun σ H Q => ∃ q a, σ[i]? = some (some (.ref q)) ∧ t σ H fun vs H1 => H1 q = some (.met g a) ∧ sp (.ref a :: vs) H1 Q E
theorem pe_callM {X : Cx} {CX : CXT} {k i : Nat} {g : Addr} {sp : Sp} {E : XK} {x : Str} {p pos : Pos} {e : Expr} {es : List Expr} {t : TA} (F : FnR X.prog X.w X.K X.mg X.base CX k g sp) (hr : Room k X.A) (hN : X.N[i]? = some x) (hv : L2.Vis X.env.scope x) (hf : PySem.W.fnIn X.K g = true) (hx : Passes CX X E) (ha : PA X (e :: es) t)
    (hdb : (x == ("__debug__" : Str)) = false := by decide) (hcd : (x == ("__classdict__" : Str)) = false := by decide)
    (he : starEach (e :: es) X.env = (false, eval e X.env) :: starEach es X.env := by rfl) (hpl : (backTo pos (starEach es X.env)).any (·.1) = false := by rfl) : PE X (.Call (.Name x p) (e :: es) [] pos) (tCallM i g sp E t) := by
  refine ⟨fun pins s σ H Q I h => ?_⟩
  obtain ⟨q, a, hs, ht⟩ := h
  refine wpAny_Call_Name_kw (thn ((pe_var (pos := p) hN hv hdb hcd).run pins s σ H (fun v H1 => v = .ref q ∧ H1 = H) I ⟨.ref q, hs, rfl, rfl⟩) fun u s1 ⟨v, H1, I1, r1, q1⟩ => ?_)
  obtain ⟨rfl, rfl⟩ := q1
  cases r1
  have h2 : wpAny (model X.prog X.w) X.A (spliced (backTo pos (starEach (e :: es) X.env))) (fun us s2 => PySem.W.MethP X.K q g (.ref a) s2.heap ∧ wpAny (model X.prog X.w) X.A (call (.ref q) ([] ++ us)) (EP X pins σ Q) X.xe s2) X.xe s1 :=
    thn (ha.run pos pins s1 σ _ _ I1 ht) fun us s2 ⟨vs, H2, I2, r, hm, hsp⟩ => ⟨met_P I2 hm, wpAny_call (call_met I2 hm (run_fnR (us := Value.ref a :: us) (vs := V.ref a :: vs) F hr hx I2 (.cons rfl r) hsp))⟩
  rw [he] at h2 ⊢
  exact PySem.W.callWith_of (P := PySem.W.MethP X.K q g (.ref a)) (by show ((false || (backTo pos (starEach es X.env)).any (·.1)) || false) = false; rw [hpl]; rfl) (PySem.W.keeps_M hf) (PySem.Calls.evalArgs_plain h2)

/-! ### pieces of a house -/
def Adj (D : List Pr) (a b : Int) : Prop := (a, b) ∈ D ∨ (b, a) ∈ D
theorem mem_nearF {D : List Pr} {a b : Int} (ok : ∀ d ∈ D, d.1 < d.2) : b ∈ nearF a D ↔ Adj D a b := by
  unfold nearF Adj
  rw [List.mem_filterMap]
  constructor
  · rintro ⟨d, hd, e⟩
    by_cases h1 : d.1 = a
    · rw [if_pos h1] at e
      have e := Option.some.inj e
      subst h1
      subst e
      exact .inl hd
    · rw [if_neg h1] at e
      by_cases h2 : d.2 = a
      · rw [if_pos h2] at e
        have e := Option.some.inj e
        subst h2
        subst e
        exact .inr hd
      · rw [if_neg h2] at e
        cases e
  · rintro (h | h)
    · exact ⟨_, h, if_pos rfl⟩
    · have := ok _ h
      refine ⟨_, h, ?_⟩
      rw [if_neg (by simp only at this ⊢; omega), if_pos rfl]
inductive Rch (D : List Pr) (R : List Int) (s : Int) : Int → Prop
  | base : s ∈ R → Rch D R s s
  | step {a b : Int} : Rch D R s a → Adj D a b → b ∈ R → Rch D R s b
theorem Rch.mem {D : List Pr} {R : List Int} {s x : Int} (h : Rch D R s x) : x ∈ R := by
  cases h with
  | base h => exact h
  | step _ _ h => exact h
theorem Rch.start {D : List Pr} {R : List Int} {s x : Int} (h : Rch D R s x) : s ∈ R := by
  induction h with
  | base h => exact h
  | step _ _ _ ih => exact ih
theorem Rch.trans {D : List Pr} {R : List Int} {s x y : Int} (h : Rch D R s x) (k : Rch D R x y) : Rch D R s y := by
  induction k with
  | base _ => exact h
  | step _ a b ih => exact ih.step a b
theorem Rch.symm {D : List Pr} {R : List Int} {s x : Int} (h : Rch D R s x) : Rch D R x s := by
  induction h with
  | base h => exact .base h
  | step k a b ih => exact Rch.trans (.step (.base b) a.symm k.mem) ih
theorem Rch.mono {D : List Pr} {R R' : List Int} {s x : Int} (h : Rch D R s x) (m : ∀ x, x ∈ R → x ∈ R') : Rch D R' s x := by
  induction h with
  | base h => exact .base (m _ h)
  | step _ a b ih => exact ih.step a (m _ b)
theorem pw_uniq {α : Type} {r : α → α → Prop} (asy : ∀ a b, r a b → r b a → False) : ∀ {D E : List α}, D.Pairwise r → E.Pairwise r → (∀ p, p ∈ D ↔ p ∈ E) → D = E
  | [], [], _, _, _ => rfl
  | [], q :: E, _, _, h => by
    have := (h q).mpr List.mem_cons_self
    cases this
  | p :: D, [], _, _, h => by
    have := (h p).mp List.mem_cons_self
    cases this
  | p :: D, q :: E, hD, hE, h => by
    obtain ⟨a1, a2⟩ := List.pairwise_cons.mp hD
    obtain ⟨b1, b2⟩ := List.pairwise_cons.mp hE
    have e : p = q := by
      rcases List.mem_cons.mp ((h p).mp List.mem_cons_self) with e | hp
      · exact e
      · rcases List.mem_cons.mp ((h q).mpr List.mem_cons_self) with e | hq
        · exact e.symm
        · exact (asy _ _ (b1 p hp) (a1 q hq)).elim
    subst e
    rw [pw_uniq asy a2 b2 fun z => ?_]
    constructor
    · intro hz
      rcases List.mem_cons.mp ((h z).mp (List.mem_cons_of_mem _ hz)) with e | m
      · subst e
        exact (asy _ _ (a1 z hz) (a1 z hz)).elim
      · exact m
    · intro hz
      rcases List.mem_cons.mp ((h z).mpr (List.mem_cons_of_mem _ hz)) with e | m
      · subst e
        exact (asy _ _ (b1 z hz) (b1 z hz)).elim
      · exact m
def Up (ys : List Int) : Prop := ys.Pairwise (· < ·)
theorem up_uniq {ys zs : List Int} (h1 : Up ys) (h2 : Up zs) (h : ∀ x, x ∈ ys ↔ x ∈ zs) : ys = zs := pw_uniq (fun a b h1 h2 => by omega) h1 h2 h
def hdI : List Int → Int
  | [] => 0
  | x :: _ => x
theorem hdI_mem {ys : List Int} {x : Int} (h : x ∈ ys) : hdI ys ∈ ys := by
  cases ys with
  | nil => cases h
  | cons y ys => exact List.mem_cons_self
theorem hdI_le {ys : List Int} {x : Int} (u : Up ys) (h : x ∈ ys) : hdI ys ≤ x := by
  cases ys with
  | nil => cases h
  | cons y ys =>
    rcases List.mem_cons.mp h with e | m
    · rw [e]; exact Int.le_refl _
    · exact Int.le_of_lt ((List.pairwise_cons.mp u).1 x m)
/-- the piece of s among the rooms R -/
def Pc (D : List Pr) (R : List Int) (s : Int) (ys : List Int) : Prop := Up ys ∧ ∀ x, x ∈ ys ↔ Rch D R s x
/-- all pieces of the rooms R, by their least rooms -/
structure Pcs (D : List Pr) (R : List Int) (P : List (List Int)) : Prop where
  pc : ∀ ys ∈ P, ∃ s ∈ R, Pc D R s ys
  cov : ∀ s ∈ R, ∃ ys ∈ P, s ∈ ys
  asc : P.Pairwise fun a b => hdI a < hdI b
theorem Pc.of {D : List Pr} {R : List Int} {s t : Int} {ys : List Int} (h : Pc D R s ys) (m : t ∈ ys) : Pc D R t ys :=
  ⟨h.1, fun x => ⟨fun hx => (((h.2 t).mp m).symm).trans ((h.2 x).mp hx), fun hx => (h.2 x).mpr (((h.2 t).mp m).trans hx)⟩⟩
theorem Pc.congr {D : List Pr} {R R' : List Int} {s : Int} {ys : List Int} (h : Pc D R s ys) (e : ∀ x, x ∈ R ↔ x ∈ R') : Pc D R' s ys :=
  ⟨h.1, fun x => (h.2 x).trans ⟨fun z => z.mono fun x => (e x).mp, fun z => z.mono fun x => (e x).mpr⟩⟩
theorem Pc.uniq {D : List Pr} {R : List Int} {s : Int} {ys zs : List Int} (h : Pc D R s ys) (k : Pc D R s zs) : ys = zs := up_uniq h.1 k.1 fun x => (h.2 x).trans (k.2 x).symm
theorem Pc.self {D : List Pr} {R : List Int} {s : Int} {ys : List Int} (h : Pc D R s ys) (m : s ∈ R) : s ∈ ys := (h.2 s).mpr (.base m)
theorem Pcs.sub {D : List Pr} {R R' : List Int} {P P' : List (List Int)} (h : Pcs D R P) (k : Pcs D R' P') (e : ∀ x, x ∈ R ↔ x ∈ R') {ys : List Int} (m : ys ∈ P) : ys ∈ P' := by
  obtain ⟨s, hs, hc⟩ := h.pc ys m
  obtain ⟨zs, hz, sz⟩ := k.cov s ((e s).mp hs)
  obtain ⟨t, ht, hk⟩ := k.pc zs hz
  rw [(hc.congr e).uniq (hk.of sz)]
  exact hz
theorem Pcs.uniq {D : List Pr} {R R' : List Int} {P P' : List (List Int)} (h : Pcs D R P) (k : Pcs D R' P') (e : ∀ x, x ∈ R ↔ x ∈ R') : P = P' :=
  pw_uniq (fun a b h1 h2 => by omega) h.asc k.asc fun ys => ⟨fun m => h.sub k e m, fun m => k.sub h (fun x => (e x).symm) m⟩
theorem Pcs.nil (D : List Pr) : Pcs D [] [] := ⟨fun ys m => (by cases m), fun s m => (by cases m), List.Pairwise.nil⟩
/-- a piece is one piece -/
theorem Pc.one {D : List Pr} {R R' : List Int} {s : Int} {ys : List Int} (h : Pc D R s ys) (m : s ∈ R) (e : ∀ x, x ∈ R' ↔ x ∈ ys) : Pcs D R' [ys] := by
  have key : ∀ x, Rch D R s x → Rch D R' s x := fun x k => by
    induction k with
    | base k => exact .base ((e s).mpr (h.self m))
    | step k a b ih => exact ih.step a ((e _).mpr ((h.2 _).mpr (k.step a b)))
  refine ⟨fun zs hz => ?_, fun t ht => ⟨ys, List.mem_cons_self, (e t).mp ht⟩, List.pairwise_singleton _ _⟩
  rw [List.mem_singleton.mp hz]
  exact ⟨s, (e s).mpr (h.self m), h.1, fun x => ⟨fun hx => key x ((h.2 x).mp hx), fun hx => (e x).mp hx.mem⟩⟩
/-- two pieces are not one -/
theorem Pc.two {D : List Pr} {R R' : List Int} {s t : Int} {ys zs : List Int} {P : List (List Int)} (h : Pc D R s ys) (k : Pc D R t zs) (hs : s ∈ R) (ht : t ∈ R) (ne : ys ≠ zs) (e : ∀ x, x ∈ R' ↔ x ∈ ys ∨ x ∈ zs) (p : Pcs D R' P) : P.length ≠ 1 := by
  intro z
  obtain ⟨c, rfl⟩ : ∃ c, P = [c] := by
    cases P with
    | nil => cases z
    | cons c P =>
      cases P with
      | nil => exact ⟨c, rfl⟩
      | cons d P => exact absurd z (by rw [List.length_cons, List.length_cons]; omega)
  obtain ⟨c1, m1, s1⟩ := p.cov s ((e s).mpr (.inl (h.self hs)))
  obtain ⟨c2, m2, t2⟩ := p.cov t ((e t).mpr (.inr (k.self ht)))
  rw [List.mem_singleton.mp m1] at s1
  rw [List.mem_singleton.mp m2] at t2
  obtain ⟨u, hu, hc⟩ := p.pc c List.mem_cons_self
  have st : Rch D R' s t := (((hc.2 s).mp s1).symm).trans ((hc.2 t).mp t2)
  have st2 : Rch D R s t := st.mono fun x hx => by
    rcases (e x).mp hx with m | m
    · exact ((h.2 x).mp m).mem
    · exact ((k.2 x).mp m).mem
  exact ne ((h.of ((h.2 t).mpr st2)).uniq k)
/-! the program's way -/
structure PInv (D : List Pr) (R : List Int) (P : List (List Int)) (Lf : List Int) : Prop where
  pc : ∀ ys ∈ P, ∃ s ∈ R, Pc D R s ys
  lf : ∀ x, x ∈ Lf ↔ x ∈ R ∧ ∀ ys ∈ P, x ∉ ys
  asc : P.Pairwise fun a b => hdI a < hdI b
  lo : ∀ ys ∈ P, ∀ x ∈ Lf, hdI ys < x
  up : Lf.Pairwise (· ≤ ·)
theorem PInv.start {D : List Pr} {R Lf : List Int} (m : ∀ x, x ∈ Lf ↔ x ∈ R) (u : Lf.Pairwise (· ≤ ·)) : PInv D R [] Lf :=
  ⟨fun ys h => (by cases h), fun x => ⟨fun h => ⟨(m x).mp h, fun ys z => (by cases z)⟩, fun h => (m x).mpr h.1⟩, List.Pairwise.nil, fun ys h => (by cases h), u⟩
theorem PInv.done {D : List Pr} {R : List Int} {P : List (List Int)} (h : PInv D R P []) : Pcs D R P :=
  ⟨h.pc, fun s hs => Classical.byContradiction fun z => List.not_mem_nil ((h.lf s).mpr ⟨hs, fun ys hy m => z ⟨ys, hy, m⟩⟩), h.asc⟩
theorem PInv.rch {D : List Pr} {R : List Int} {P : List (List Int)} {Lf : List Int} (h : PInv D R P Lf) {s x : Int} : Rch D Lf s x ↔ s ∈ Lf ∧ Rch D R s x := by
  constructor
  · exact fun k => ⟨k.start, k.mono fun x hx => ((h.lf x).mp hx).1⟩
  · rintro ⟨m, k⟩
    induction k with
    | base _ => exact .base m
    | step k a b ih =>
      rename_i a' b'
      refine ih.step a ((h.lf _).mpr ⟨b, fun ys hy z => ?_⟩)
      obtain ⟨t, ht, hc⟩ := h.pc ys hy
      exact ((h.lf _).mp ih.mem).2 ys hy ((hc.2 _).mpr (((hc.2 _).mp z).step a.symm k.mem))
theorem PInv.step {D : List Pr} {R : List Int} {P : List (List Int)} {l0 : Int} {Lf ys : List Int} (h : PInv D R P (l0 :: Lf)) (k : Pc D (l0 :: Lf) l0 ys) : PInv D R (P ++ [ys]) ((l0 :: Lf).filter fun x => decide (x ∉ ys)) := by
  have m0 : l0 ∈ l0 :: Lf := List.mem_cons_self
  have r0 := ((h.lf l0).mp m0).1
  have kR : Pc D R l0 ys := ⟨k.1, fun x => (k.2 x).trans (h.rch.trans ⟨fun z => z.2, fun z => ⟨m0, z⟩⟩)⟩
  have hd : hdI ys = l0 := by
    have a1 := hdI_le k.1 (k.self m0)
    have a2 := ((k.2 _).mp (hdI_mem (k.self m0))).mem
    rcases List.mem_cons.mp a2 with e | e
    · exact e
    · have := (List.pairwise_cons.mp h.up).1 _ e
      omega
  refine ⟨fun zs hz => ?_, fun x => ?_, ?_, fun zs hz x hx => ?_, h.up.filter _⟩
  · rcases List.mem_append.mp hz with m | m
    · exact h.pc zs m
    · rw [List.mem_singleton.mp m]
      exact ⟨l0, r0, kR⟩
  · rw [List.mem_filter, h.lf x]
    constructor
    · rintro ⟨⟨h1, h2⟩, h3⟩
      refine ⟨h1, fun zs hz => ?_⟩
      rcases List.mem_append.mp hz with m | m
      · exact h2 zs m
      · rw [List.mem_singleton.mp m]
        exact of_decide_eq_true h3
    · rintro ⟨h1, h2⟩
      exact ⟨⟨h1, fun zs hz => h2 zs (List.mem_append_left _ hz)⟩, decide_eq_true (h2 ys (List.mem_append_right _ List.mem_cons_self))⟩
  · refine List.pairwise_append.mpr ⟨h.asc, List.pairwise_singleton _ _, fun a ha b hb => ?_⟩
    rw [List.mem_singleton.mp hb, hd]
    exact h.lo a ha l0 m0
  · obtain ⟨hx1, hx2⟩ := List.mem_filter.mp hx
    rcases List.mem_append.mp hz with m | m
    · exact h.lo zs m x hx1
    · rw [List.mem_singleton.mp m, hd]
      rcases List.mem_cons.mp hx1 with e | e
      · exact absurd (k.self m0) (by rw [← e]; exact of_decide_eq_true hx2)
      · have := (List.pairwise_cons.mp h.up).1 _ e
        have ne : x ≠ l0 := fun z => of_decide_eq_true hx2 (by rw [z]; exact k.self m0)
        omega
/-! the law's way -/
structure LInv (D : List Pr) (R S : List Int) (j : Nat) (P : List (List Int)) (dn : List Int) : Prop where
  pc : ∀ ys ∈ P, ∃ s ∈ R, Pc D R s ys
  dnm : ∀ x, x ∈ dn ↔ ∃ ys ∈ P, x ∈ ys
  asc : P.Pairwise fun a b => hdI a < hdI b
  seen : ∀ x ∈ S.take j, x ∈ dn
  hds : ∀ ys ∈ P, hdI ys ∈ S.take j
theorem LInv.start (D : List Pr) (R S : List Int) : LInv D R S 0 [] [] :=
  ⟨fun ys h => (by cases h), fun x => ⟨fun h => (by cases h), fun ⟨ys, h, _⟩ => (by cases h)⟩, List.Pairwise.nil, fun x h => (by rw [List.take_zero] at h; cases h), fun ys h => (by cases h)⟩
theorem LInv.skip {D : List Pr} {R S : List Int} {j : Nat} {P : List (List Int)} {dn : List Int} {x : Int} (h : LInv D R S j P dn) (g : S[j]? = some x) (m : x ∈ dn) : LInv D R S (j + 1) P dn := by
  refine ⟨h.pc, h.dnm, h.asc, fun y hy => ?_, fun ys hy => ?_⟩
  · rw [List.take_add_one, g] at hy
    rcases List.mem_append.mp hy with z | z
    · exact h.seen y z
    · rw [show y = x from List.mem_singleton.mp z]
      exact m
  · rw [List.take_add_one]
    exact List.mem_append_left _ (h.hds ys hy)
theorem LInv.step {D : List Pr} {R S : List Int} {j : Nat} {P : List (List Int)} {dn ys : List Int} {x : Int} (h : LInv D R S j P dn) (g : S[j]? = some x) (sm : ∀ x, x ∈ S ↔ x ∈ R) (su : S.Pairwise (· ≤ ·)) (m : x ∉ dn) (k : Pc D R x ys) : LInv D R S (j + 1) (P ++ [ys]) (dn ++ ys) := by
  have xR : x ∈ R := (sm x).mp (List.mem_of_getElem? g)
  have hj : j < S.length := (List.getElem?_eq_some_iff.mp g).1
  have split : S = S.take j ++ x :: S.drop (j + 1) := by
    have e := (List.take_append_drop j S).symm
    rw [List.drop_eq_getElem_cons hj] at e
    rw [List.getElem?_eq_getElem hj] at g
    rw [Option.some.inj g] at e
    exact e
  have su2 := su
  rw [split] at su2
  obtain ⟨_, sb, sc⟩ := List.pairwise_append.mp su2
  have hd : hdI ys = x := by
    have a1 := hdI_le k.1 (k.self xR)
    have a2 := (k.2 _).mp (hdI_mem (k.self xR))
    have a3 := (sm _).mpr a2.mem
    rw [split] at a3
    rcases List.mem_append.mp a3 with e | e
    · obtain ⟨zs, hz, mz⟩ := (h.dnm _).mp (h.seen _ e)
      obtain ⟨t, ht, hc⟩ := h.pc zs hz
      exact absurd ((h.dnm x).mpr ⟨zs, hz, (hc.2 x).mpr (((hc.2 _).mp mz).trans a2.symm)⟩) m
    · rcases List.mem_cons.mp e with e | e
      · exact e
      · have := (List.pairwise_cons.mp sb).1 _ e
        omega
  refine ⟨fun zs hz => ?_, fun y => ?_, ?_, fun y hy => ?_, fun zs hz => ?_⟩
  · rcases List.mem_append.mp hz with q | q
    · exact h.pc zs q
    · rw [List.mem_singleton.mp q]
      exact ⟨x, xR, k⟩
  · rw [List.mem_append, h.dnm y]
    constructor
    · rintro (⟨zs, hz, mz⟩ | z)
      · exact ⟨zs, List.mem_append_left _ hz, mz⟩
      · exact ⟨ys, List.mem_append_right _ List.mem_cons_self, z⟩
    · rintro ⟨zs, hz, mz⟩
      rcases List.mem_append.mp hz with q | q
      · exact .inl ⟨zs, q, mz⟩
      · rw [List.mem_singleton.mp q] at mz
        exact .inr mz
  · refine List.pairwise_append.mpr ⟨h.asc, List.pairwise_singleton _ _, fun a ha b hb => ?_⟩
    rw [List.mem_singleton.mp hb, hd]
    have m1 := h.hds a ha
    have le := sc _ m1 x List.mem_cons_self
    have ne : hdI a ≠ x := fun z => m (by rw [← z]; exact h.seen _ m1)
    omega
  · rw [List.take_add_one, g] at hy
    rcases List.mem_append.mp hy with z | z
    · exact List.mem_append_left _ (h.seen y z)
    · rw [show y = x from List.mem_singleton.mp z]
      exact List.mem_append_right _ (k.self xR)
  · rw [List.take_add_one, g]
    rcases List.mem_append.mp hz with q | q
    · exact List.mem_append_left _ (h.hds zs q)
    · rw [List.mem_singleton.mp q, hd]
      exact List.mem_append_right _ (by simp)
theorem LInv.fin {D : List Pr} {R S : List Int} {P : List (List Int)} {dn : List Int} (h : LInv D R S S.length P dn) (sm : ∀ x, x ∈ S ↔ x ∈ R) : Pcs D R P :=
  ⟨h.pc, fun s hs => (h.dnm s).mp (h.seen s (by rw [List.take_length]; exact (sm s).mpr hs)), h.asc⟩
/-! reaching by rounds -/
structure FInv (D : List Pr) (R : List Int) (s : Int) (F : List Int) : Prop where
  nd : F.Nodup
  rc : ∀ x ∈ F, Rch D R s x
  st : s ∈ R → s ∈ F
def Clo (D : List Pr) (R F : List Int) : Prop := ∀ a ∈ F, ∀ b ∈ R, Adj D a b → b ∈ F
theorem FInv.all {D : List Pr} {R F : List Int} {s : Int} (h : FInv D R s F) (c : Clo D R F) (x : Int) : x ∈ F ↔ Rch D R s x := by
  refine ⟨h.rc x, fun k => ?_⟩
  induction k with
  | base m => exact h.st m
  | step _ a b ih => exact c _ ih _ b a
theorem FInv.add {D : List Pr} {R F : List Int} {s a b : Int} (h : FInv D R s F) (ha : a ∈ F) (hb : b ∈ R) (ab : Adj D a b) (n : b ∉ F) : FInv D R s (F ++ [b]) := by
  refine ⟨?_, fun x hx => ?_, fun m => List.mem_append_left _ (h.st m)⟩
  · refine List.nodup_append.mpr ⟨h.nd, by simp, fun x hx y hy z => ?_⟩
    rw [List.mem_singleton.mp hy] at z
    exact n (by rw [← z]; exact hx)
  · rcases List.mem_append.mp hx with z | z
    · exact h.rc x z
    · rw [List.mem_singleton.mp z]
      exact (h.rc a ha).step ab hb

theorem nearF_lt {i : Int} {D : List Pr} (asc : Asc D) (ok : ∀ d ∈ D, d.1 < d.2) : (nearF i D).Pairwise (· < ·) := by
  unfold nearF
  refine List.Pairwise.filterMap _ (fun d e h b hb c hc => ?_) (List.Pairwise.imp_of_mem (fun {x y} hx hy h => (⟨h, ok x hx, ok y hy⟩ : lt2 x y ∧ x.1 < x.2 ∧ y.1 < y.2)) asc)
  obtain ⟨h, h1, h2⟩ := h
  unfold lt2 at h
  by_cases c1 : d.1 = i
  · rw [if_pos c1] at hb
    have eb := Option.some.inj hb
    by_cases c2 : e.1 = i
    · rw [if_pos c2] at hc
      have ec := Option.some.inj hc
      omega
    · rw [if_neg c2] at hc
      by_cases c3 : e.2 = i
      · rw [if_pos c3] at hc
        have ec := Option.some.inj hc
        omega
      · rw [if_neg c3] at hc
        cases hc
  · rw [if_neg c1] at hb
    by_cases c4 : d.2 = i
    · rw [if_pos c4] at hb
      have eb := Option.some.inj hb
      by_cases c2 : e.1 = i
      · rw [if_pos c2] at hc
        have ec := Option.some.inj hc
        omega
      · rw [if_neg c2] at hc
        by_cases c3 : e.2 = i
        · rw [if_pos c3] at hc
          have ec := Option.some.inj hc
          omega
        · rw [if_neg c3] at hc
          cases hc
    · rw [if_neg c4] at hb
      cases hb
/-! ### least paths -/
def ltL : List Int → List Int → Prop
  | [], [] => False
  | [], _ :: _ => True
  | _ :: _, [] => False
  | a :: s, b :: t => a < b ∨ (a = b ∧ ltL s t)
theorem ltL_irr : ∀ p, ¬ ltL p p
  | [], h => h
  | a :: s, h => by
    rcases h with h | ⟨_, h⟩
    · omega
    · exact ltL_irr s h
theorem ltL_trans : ∀ {p q r}, ltL p q → ltL q r → ltL p r
  | [], [], _, h, _ => h.elim
  | [], _ :: _, [], _, k => k.elim
  | [], _ :: _, _ :: _, _, _ => trivial
  | _ :: _, [], _, h, _ => h.elim
  | _ :: _, _ :: _, [], _, k => k.elim
  | a :: s, b :: t, c :: u, h, k => by
    rcases h with h | ⟨h1, h2⟩
    · rcases k with k | ⟨k1, k2⟩
      · exact .inl (by omega)
      · exact .inl (by omega)
    · rcases k with k | ⟨k1, k2⟩
      · exact .inl (by omega)
      · exact .inr ⟨by omega, ltL_trans h2 k2⟩
theorem ltL_tri : ∀ p q, p = q ∨ ltL p q ∨ ltL q p
  | [], [] => .inl rfl
  | [], _ :: _ => .inr (.inl trivial)
  | _ :: _, [] => .inr (.inr trivial)
  | a :: s, b :: t => by
    rcases Int.lt_trichotomy a b with h | h | h
    · exact .inr (.inl (.inl h))
    · subst h
      rcases ltL_tri s t with e | e | e
      · exact .inl (by rw [e])
      · exact .inr (.inl (.inr ⟨rfl, e⟩))
      · exact .inr (.inr (.inr ⟨rfl, e⟩))
    · exact .inr (.inr (.inl h))
theorem ltL_app : ∀ {p q : List Int} (x y : List Int), p.length = q.length → ltL p q → ltL (p ++ x) (q ++ y)
  | [], [], _, _, _, h => h.elim
  | [], _ :: _, _, _, e, _ => by cases e
  | _ :: _, [], _, _, e, _ => by cases e
  | a :: s, b :: t, x, y, e, h => by
    rcases h with h | ⟨h1, h2⟩
    · exact .inl h
    · exact .inr ⟨h1, ltL_app x y (Nat.succ.inj e) h2⟩
theorem ltL_last : ∀ (p : List Int) {x y : Int}, x < y → ltL (p ++ [x]) (p ++ [y])
  | [], _, _, h => .inl h
  | a :: s, _, _, h => .inr ⟨rfl, ltL_last s h⟩
/-- fewer rooms, or as many and less -/
def slt (p q : List Int) : Prop := p.length < q.length ∨ (p.length = q.length ∧ ltL p q)
theorem slt_irr (p : List Int) : ¬ slt p p := fun h => by
  rcases h with h | ⟨_, h⟩
  · omega
  · exact ltL_irr p h
theorem slt_trans {p q r : List Int} (h : slt p q) (k : slt q r) : slt p r := by
  rcases h with h | ⟨h1, h2⟩ <;> rcases k with k | ⟨k1, k2⟩
  · exact .inl (by omega)
  · exact .inl (by omega)
  · exact .inl (by omega)
  · exact .inr ⟨by omega, ltL_trans h2 k2⟩
theorem slt_tri (p q : List Int) : p = q ∨ slt p q ∨ slt q p := by
  rcases Nat.lt_trichotomy p.length q.length with h | h | h
  · exact .inr (.inl (.inl h))
  · rcases ltL_tri p q with e | e | e
    · exact .inl e
    · exact .inr (.inl (.inr ⟨h, e⟩))
    · exact .inr (.inr (.inr ⟨h.symm, e⟩))
  · exact .inr (.inr (.inl h))
theorem slt_app {p q : List Int} (x y : Int) (h : slt p q) : slt (p ++ [x]) (q ++ [y]) := by
  rcases h with h | ⟨h1, h2⟩
  · exact .inl (by rw [List.length_append, List.length_append]; exact Nat.add_lt_add_right h 1)
  · exact .inr ⟨by rw [List.length_append, List.length_append, h1]; rfl, ltL_app [x] [y] h1 h2⟩
theorem slt_last (p : List Int) {x y : Int} (h : x < y) : slt (p ++ [x]) (p ++ [y]) := .inr ⟨by rw [List.length_append, List.length_append]; rfl, ltL_last p h⟩
def sle (p q : List Int) : Prop := p = q ∨ slt p q
theorem sle_trans {p q r : List Int} (h : sle p q) (k : sle q r) : sle p r := by
  rcases h with h | h
  · rw [h]; exact k
  · rcases k with k | k
    · rw [← k]; exact .inr h
    · exact .inr (slt_trans h k)
theorem sle_len {p q : List Int} (h : sle p q) : p.length ≤ q.length := by
  rcases h with h | h | h
  · rw [h]; exact Nat.le_refl _
  · omega
  · omega
theorem sle_app {p q : List Int} (x : Int) (h : sle p q) : sle (p ++ [x]) (q ++ [x]) := by
  rcases h with h | h
  · exact .inl (by rw [h])
  · exact .inr (slt_app x x h)
theorem sle_anti {p q : List Int} (h : sle p q) (k : sle q p) : p = q := by
  rcases h with h | h
  · exact h
  · rcases k with k | k
    · exact k.symm
    · exact (slt_irr _ (slt_trans h k)).elim
theorem sle_of_len {p q : List Int} (h : p.length < q.length) : sle p q := .inr (.inl h)
inductive Pth (D : List Pr) (R : List Int) (s : Int) : Int → List Int → Prop
  | base : s ∈ R → Pth D R s s [s]
  | step {a b : Int} {p : List Int} : Pth D R s a p → Adj D a b → b ∈ R → Pth D R s b (p ++ [b])
theorem Pth.mem {D : List Pr} {R : List Int} {s x : Int} {p : List Int} (h : Pth D R s x p) : x ∈ R := by
  cases h with
  | base h => exact h
  | step _ _ h => exact h
theorem Pth.start {D : List Pr} {R : List Int} {s x : Int} {p : List Int} (h : Pth D R s x p) : s ∈ R := by
  induction h with
  | base h => exact h
  | step _ _ _ ih => exact ih
theorem Pth.ne {D : List Pr} {R : List Int} {s x : Int} {p : List Int} (h : Pth D R s x p) : 1 ≤ p.length := by
  cases h with
  | base h => exact Nat.le_refl _
  | step _ _ h => rw [List.length_append]; exact Nat.le_add_left _ _
theorem Pth.one {D : List Pr} {R : List Int} {s x : Int} {p : List Int} (h : Pth D R s x p) (l : p.length ≤ 1) : x = s ∧ p = [s] := by
  cases h with
  | base h => exact ⟨rfl, rfl⟩
  | step k _ h =>
    rw [List.length_append] at l
    have := k.ne
    have l2 : _ + 1 ≤ 1 := l
    omega
theorem Pth.inR {D : List Pr} {R : List Int} {s x : Int} {p : List Int} (h : Pth D R s x p) : ∀ y ∈ p, y ∈ R := by
  induction h with
  | base h => intro y hy; rw [List.mem_singleton.mp hy]; exact h
  | step _ _ h ih =>
    intro y hy
    rcases List.mem_append.mp hy with m | m
    · exact ih y m
    · rw [List.mem_singleton.mp m]; exact h
/-- the first path -/
def Lst (D : List Pr) (R : List Int) (s x : Int) (p : List Int) : Prop := Pth D R s x p ∧ ∀ q, Pth D R s x q → sle p q
theorem Lst.uniq {D : List Pr} {R : List Int} {s x : Int} {p q : List Int} (h : Lst D R s x p) (k : Lst D R s x q) : p = q := sle_anti (h.2 _ k.1) (k.2 _ h.1)
abbrev En := Int × List Int
def keysE (L : List En) : List Int := L.map (·.1)
theorem keysE_mem {L : List En} {x : Int} {p : List Int} (h : (x, p) ∈ L) : x ∈ keysE L := List.mem_map.mpr ⟨_, h, rfl⟩
theorem of_keysE {L : List En} {x : Int} (h : x ∈ keysE L) : ∃ p, (x, p) ∈ L := by
  obtain ⟨e, m, rfl⟩ := List.mem_map.mp h
  exact ⟨e.2, m⟩
/-- all first paths -/
structure AllP (D : List Pr) (R : List Int) (s : Int) (L : List En) : Prop where
  nd : (keysE L).Nodup
  le : ∀ e ∈ L, Lst D R s e.1 e.2
  all : ∀ x p, Pth D R s x p → x ∈ keysE L
theorem AllP.get {D : List Pr} {R : List Int} {s x : Int} {p : List Int} {L : List En} (h : AllP D R s L) : (x, p) ∈ L ↔ Lst D R s x p := by
  constructor
  · exact fun m => h.le _ m
  · intro k
    obtain ⟨q, m⟩ := of_keysE (h.all x p k.1)
    rw [k.uniq (h.le _ m)]
    exact m
theorem AllP.no {D : List Pr} {R : List Int} {s x : Int} {L : List En} (h : AllP D R s L) : x ∉ keysE L ↔ ∀ p, ¬ Pth D R s x p := by
  constructor
  · exact fun m p k => m (h.all x p k)
  · intro k m
    obtain ⟨q, m⟩ := of_keysE m
    exact k _ (h.le _ m).1
/-- in the midst of the search: A done, a at work (its neighbours N already seen), W waiting -/
structure BIn (D : List Pr) (R : List Int) (s : Int) (A : List En) (a : En) (W : List En) (N : List Int) : Prop where
  nd : (keysE (A ++ a :: W)).Nodup
  le : ∀ e ∈ A ++ a :: W, Lst D R s e.1 e.2
  srt : (A ++ a :: W).Pairwise fun e f => slt e.2 f.2
  cl : ∀ e ∈ A, ∀ b ∈ R, Adj D e.1 b → b ∈ keysE (A ++ a :: W)
  cn : ∀ b ∈ N, b ∈ R → b ∈ keysE (A ++ a :: W)
  st : s ∈ keysE (A ++ a :: W)
  par : ∀ e ∈ A ++ a :: W, e.2.length = 1 ∨ (∃ c ∈ A, ∃ b, e.2 = c.2 ++ [b]) ∨ ∃ b ∈ N, e.2 = a.2 ++ [b]
/-- between two rooms at work -/
structure BOut (D : List Pr) (R : List Int) (s : Int) (A W : List En) : Prop where
  nd : (keysE (A ++ W)).Nodup
  le : ∀ e ∈ A ++ W, Lst D R s e.1 e.2
  srt : (A ++ W).Pairwise fun e f => slt e.2 f.2
  cl : ∀ e ∈ A, ∀ b ∈ R, Adj D e.1 b → b ∈ keysE (A ++ W)
  st : s ∈ R → s ∈ keysE (A ++ W)
  par : ∀ e ∈ A ++ W, e.2.length = 1 ∨ ∃ c ∈ A, ∃ b, e.2 = c.2 ++ [b]
theorem BOut.go {D : List Pr} {R : List Int} {s : Int} {A W : List En} {a : En} (h : BOut D R s A (a :: W)) : BIn D R s A a W [] :=
  ⟨h.nd, h.le, h.srt, h.cl, fun b m => (by cases m), h.st (h.le a (by simp)).1.start, fun e m => (h.par e m).imp id Or.inl⟩
theorem BIn.done {D : List Pr} {R : List Int} {s : Int} {A W : List En} {a : En} {N : List Int} (h : BIn D R s A a W N) (n : ∀ b ∈ R, Adj D a.1 b → b ∈ N) : BOut D R s (A ++ [a]) W := by
  have e : A ++ [a] ++ W = A ++ a :: W := by rw [List.append_assoc]; rfl
  refine ⟨by rw [e]; exact h.nd, by rw [e]; exact h.le, by rw [e]; exact h.srt, ?_, fun _ => by rw [e]; exact h.st, ?_⟩
  · rw [e]
    intro c hc b hb ab
    rcases List.mem_append.mp hc with m | m
    · exact h.cl c m b hb ab
    · rw [List.mem_singleton.mp m] at ab
      exact h.cn b (n b hb ab) hb
  · rw [e]
    intro f hf
    rcases h.par f hf with m | ⟨c, hc, b, e2⟩ | ⟨b, _, e2⟩
    · exact .inl m
    · exact .inr ⟨c, List.mem_append_left _ hc, b, e2⟩
    · exact .inr ⟨a, by simp, b, e2⟩
theorem BIn.skip {D : List Pr} {R : List Int} {s : Int} {A W : List En} {a : En} {N : List Int} {b : Int} (h : BIn D R s A a W N) (k : b ∈ R → b ∈ keysE (A ++ a :: W)) : BIn D R s A a W (N ++ [b]) :=
  ⟨h.nd, h.le, h.srt, h.cl, fun c m hc => (by
    rcases List.mem_append.mp m with m | m
    · exact h.cn c m hc
    · have := List.mem_singleton.mp m
      subst this
      exact k hc), h.st, fun e m => by
    rcases h.par e m with m | m | ⟨b, hb, e2⟩
    · exact .inl m
    · exact .inr (.inl m)
    · exact .inr (.inr ⟨b, List.mem_append_left _ hb, e2⟩)⟩
/-- a path that leaves what is done goes through a room that waits -/
theorem BIn.front {D : List Pr} {R : List Int} {s : Int} {A W : List En} {a : En} {N : List Int} (h : BIn D R s A a W N) {c : Int} {q : List Int} (k : Pth D R s c q) (n : c ∉ keysE A) : sle a.2 q := by
  have key : ∀ {c : Int} {q : List Int}, Pth D R s c q → c ∉ keysE A → ∃ e ∈ a :: W, ∃ q', Pth D R s e.1 q' ∧ (q' = q ∨ q'.length < q.length) := by
    intro c q k
    have inK : ∀ x, x ∈ keysE (A ++ a :: W) → x ∉ keysE A → ∃ e ∈ a :: W, e.1 = x := by
      intro x hx hn
      obtain ⟨p, hp⟩ := of_keysE hx
      rcases List.mem_append.mp hp with m | m
      · exact absurd (keysE_mem m) hn
      · exact ⟨_, m, rfl⟩
    induction k with
    | base hs =>
      intro n
      obtain ⟨e, he, rfl⟩ := inK _ h.st n
      exact ⟨e, he, _, .base hs, .inl rfl⟩
    | @step x y p k ab hb ih =>
      intro n
      by_cases m : x ∈ keysE A
      · obtain ⟨p', hp'⟩ := of_keysE m
        obtain ⟨e, he, rfl⟩ := inK _ (h.cl _ hp' _ hb ab) n
        exact ⟨e, he, _, k.step ab hb, .inl rfl⟩
      · obtain ⟨e, he, q', h1, h2⟩ := ih m
        refine ⟨e, he, q', h1, .inr ?_⟩
        rw [List.length_append]
        show _ < _ + 1
        rcases h2 with h2 | h2
        · rw [h2]; omega
        · omega
  obtain ⟨e, he, q', h1, h2⟩ := key k n
  have l1 : sle e.2 q' := (h.le e (List.mem_append_right _ he)).2 _ h1
  have l2 : sle a.2 e.2 := by
    rcases List.mem_cons.mp he with m | m
    · rw [m]; exact .inl rfl
    · exact .inr ((List.pairwise_cons.mp (List.pairwise_append.mp h.srt).2.1).1 e m)
  refine sle_trans l2 (sle_trans l1 ?_)
  rcases h2 with h2 | h2
  · exact .inl h2
  · exact sle_of_len h2
theorem BIn.add {D : List Pr} {R : List Int} {s : Int} {A W : List En} {a : En} {N : List Int} {b : Int} (h : BIn D R s A a W N) (ab : Adj D a.1 b) (bR : b ∈ R) (bn : b ∉ keysE (A ++ a :: W)) (up : ∀ c ∈ N, c < b) : BIn D R s A a (W ++ [(b, a.2 ++ [b])]) (N ++ [b]) := by
  have e : A ++ a :: (W ++ [(b, a.2 ++ [b])]) = (A ++ a :: W) ++ [(b, a.2 ++ [b])] := by rw [List.append_assoc]; rfl
  have ke : keysE (A ++ a :: (W ++ [(b, a.2 ++ [b])])) = keysE (A ++ a :: W) ++ [b] := by rw [e]; unfold keysE; rw [List.map_append]; rfl
  have aL := h.le a (by simp)
  have new : Lst D R s b (a.2 ++ [b]) := by
    refine ⟨aL.1.step ab bR, fun q k => ?_⟩
    cases k with
    | base _ => exact absurd h.st bn
    | @step c _ p k cb _ =>
      refine sle_app b (h.front k fun m => ?_)
      obtain ⟨p', hp'⟩ := of_keysE m
      exact bn (h.cl _ hp' _ bR cb)
  refine ⟨?_, ?_, ?_, ?_, ?_, ?_, ?_⟩
  · rw [ke]
    refine List.nodup_append.mpr ⟨h.nd, List.pairwise_singleton _ _, fun x hx y hy e => ?_⟩
    rw [List.mem_singleton.mp hy] at e
    rw [e] at hx
    exact bn hx
  · rw [e]
    intro f hf
    rcases List.mem_append.mp hf with m | m
    · exact h.le f m
    · rw [List.mem_singleton.mp m]; exact new
  · rw [e]
    refine List.pairwise_append.mpr ⟨h.srt, List.pairwise_singleton _ _, fun f hf g hg => ?_⟩
    rw [List.mem_singleton.mp hg]
    show slt f.2 (a.2 ++ [b])
    rcases h.par f hf with m | ⟨c, hc, x, e2⟩ | ⟨x, hx, e2⟩
    · refine .inl ?_
      have := aL.1.ne
      rw [List.length_append, m]
      show 1 < _ + 1
      omega
    · rw [e2]
      exact slt_app _ _ ((List.pairwise_append.mp h.srt).2.2 c hc a List.mem_cons_self)
    · rw [e2]
      exact slt_last _ (up x hx)
  · intro c hc x hx cx
    rw [ke]
    exact List.mem_append_left _ (h.cl c hc x hx cx)
  · intro x hx xR
    rw [ke]
    rcases List.mem_append.mp hx with m | m
    · exact List.mem_append_left _ (h.cn x m xR)
    · exact List.mem_append_right _ m
  · rw [ke]; exact List.mem_append_left _ h.st
  · rw [e]
    intro f hf
    rcases List.mem_append.mp hf with m | m
    · rcases h.par f m with m | m | ⟨x, hx, e2⟩
      · exact .inl m
      · exact .inr (.inl m)
      · exact .inr (.inr ⟨x, List.mem_append_left _ hx, e2⟩)
    · rw [List.mem_singleton.mp m]
      exact .inr (.inr ⟨b, by simp, rfl⟩)
theorem BOut.end {D : List Pr} {R : List Int} {s : Int} {A : List En} (h : BOut D R s A []) : AllP D R s A := by
  have e : A ++ [] = A := List.append_nil A
  refine ⟨by have := h.nd; rw [e] at this; exact this, by have := h.le; rw [e] at this; exact this, fun x p k => ?_⟩
  have cl := h.cl
  have st := h.st
  rw [e] at cl st
  induction k with
  | base hs => exact st hs
  | step k ab hb ih =>
    obtain ⟨p', hp'⟩ := of_keysE ih
    exact cl _ hp' _ hb ab
theorem BOut.start {D : List Pr} {R : List Int} {s : Int} (m : s ∈ R) : BOut D R s [] [(s, [s])] := by
  refine ⟨by simp [keysE], fun e he => ?_, List.pairwise_singleton _ _, fun e he => (by cases he), fun _ => by simp [keysE], fun e he => ?_⟩
  · rw [List.mem_singleton.mp he]
    refine ⟨.base m, fun q k => ?_⟩
    have := k.ne
    by_cases l : q.length ≤ 1
    · exact .inl (k.one l).2.symm
    · exact sle_of_len (show 1 < q.length by omega)
  · rw [List.mem_singleton.mp he]
    exact .inl rfl
theorem BOut.none {D : List Pr} {R : List Int} {s : Int} (m : s ∉ R) : BOut D R s [] [] :=
  ⟨List.nodup_nil, fun e he => (by cases he), List.Pairwise.nil, fun e he => (by cases he), fun h => absurd h m, fun e he => (by cases he)⟩

/-! the layers of the law -/
/-- k layers are found: L all, M those of the last layer -/
structure Lay (D : List Pr) (R : List Int) (s : Int) (k : Nat) (L M : List En) : Prop where
  nd : (keysE L).Nodup
  le : ∀ e ∈ L, Lst D R s e.1 e.2 ∧ e.2.length ≤ k
  all : ∀ x p, Pth D R s x p → p.length ≤ k → x ∈ keysE L
  mm : ∀ e, e ∈ M ↔ e ∈ L ∧ e.2.length = k
  sz : s ∈ R → k ≤ L.length
/-- the next layer, the steps E taken -/
structure Fur (R : List Int) (L M : List En) (E : Int → Int → Prop) (F : List En) : Prop where
  nd : (keysE F).Nodup
  of : ∀ e ∈ F, e.1 ∈ R ∧ e.1 ∉ keysE L ∧ ∃ u ∈ M, E u.1 e.1 ∧ e.2 = u.2 ++ [e.1]
  all : ∀ u ∈ M, ∀ v, E u.1 v → v ∈ R → v ∉ keysE L → ∃ p, (v, p) ∈ F ∧ sle p (u.2 ++ [v])
theorem Lay.start {D : List Pr} {R : List Int} {s : Int} (m : s ∈ R) : Lay D R s 1 [(s, [s])] [(s, [s])] := by
  refine ⟨by simp [keysE], fun e he => ?_, fun x p k l => ?_, fun e => ?_, fun _ => Nat.le_refl _⟩
  · have := (BOut.start (D := D) m).le e he
    rw [List.mem_singleton.mp he] at this ⊢
    exact ⟨this, Nat.le_refl _⟩
  · rw [(k.one l).1]
    simp [keysE]
  · constructor
    · intro h
      refine ⟨h, ?_⟩
      rw [List.mem_singleton.mp h]
      rfl
    · exact fun h => h.1
theorem Lay.none {D : List Pr} {R : List Int} {s : Int} (m : s ∉ R) (k : Nat) : Lay D R s k [] [] :=
  ⟨List.nodup_nil, fun e he => (by cases he), fun x p k l => absurd k.start m, fun e => ⟨fun h => (by cases h), fun h => (by cases h.1)⟩, fun h => absurd h m⟩
theorem Lay.via {D : List Pr} {R : List Int} {s : Int} {k : Nat} {L M : List En} (h : Lay D R s k L M) {v : Int} {q : List Int} (p : Pth D R s v q) (n : v ∉ keysE L) : k < q.length ∧ (q.length = k + 1 → 1 ≤ k → ∃ u ∈ M, Adj D u.1 v ∧ sle (u.2 ++ [v]) q) := by
  have l0 : k < q.length := Nat.lt_of_not_le fun l => n (h.all v q p l)
  refine ⟨l0, fun l k1 => ?_⟩
  cases p with
  | base hs =>
    have : 1 = k + 1 := l
    omega
  | @step c _ p kc ab hb =>
    rw [List.length_append] at l
    have l2 : p.length = k := Nat.succ.inj l
    obtain ⟨pc, hc⟩ := of_keysE (h.all c p kc (Nat.le_of_eq l2))
    obtain ⟨lc, lk⟩ := h.le _ hc
    have lk2 : pc.length = k := by
      rcases Nat.lt_or_ge pc.length k with g | g
      · refine absurd (h.all v _ (lc.1.step ab hb) ?_) n
        rw [List.length_append]
        exact g
      · exact Nat.le_antisymm lk g
    exact ⟨(c, pc), (h.mm _).mpr ⟨hc, lk2⟩, ab, sle_app v (lc.2 _ kc)⟩
theorem Lay.next {D : List Pr} {R : List Int} {s : Int} {k : Nat} {L M F : List En} (h : Lay D R s k L M) (k1 : 1 ≤ k) (f : Fur R L M (Adj D) F) (ne : F ≠ []) : Lay D R s (k + 1) (L ++ F) F := by
  have ke : keysE (L ++ F) = keysE L ++ keysE F := List.map_append
  have fl : ∀ e ∈ F, Lst D R s e.1 e.2 ∧ e.2.length = k + 1 := by
    intro e he
    obtain ⟨h1, h2, u, hu, h3, h4⟩ := f.of e he
    obtain ⟨hu1, hu2⟩ := (h.mm u).mp hu
    have el : e.2.length = k + 1 := by rw [h4, List.length_append, hu2]; rfl
    refine ⟨⟨by rw [h4]; exact (h.le u hu1).1.1.step h3 h1, fun q p => ?_⟩, el⟩
    obtain ⟨g1, g2⟩ := h.via p h2
    rcases Nat.lt_or_ge (k + 1) q.length with g | g
    · exact sle_of_len (by omega)
    · obtain ⟨w, hw, ab, l⟩ := g2 (by omega) k1
      obtain ⟨p', hp', l'⟩ := f.all w hw e.1 ab h1 h2
      have : e.2 = p' := by
        have : ∀ {G : List En}, (keysE G).Nodup → ∀ {x : Int} {a b : List Int}, (x, a) ∈ G → (x, b) ∈ G → a = b := by
          intro G
          induction G with
          | nil => intro _ x a b m; cases m
          | cons g G ih =>
            intro nd x a b ma mb
            obtain ⟨n1, n2⟩ := List.nodup_cons.mp nd
            rcases List.mem_cons.mp ma with ma | ma
            · rcases List.mem_cons.mp mb with mb | mb
              · have := ma.trans mb.symm
                exact congrArg Prod.snd this
              · rw [← ma] at n1
                exact absurd (keysE_mem mb) n1
            · rcases List.mem_cons.mp mb with mb | mb
              · rw [← mb] at n1
                exact absurd (keysE_mem ma) n1
              · exact ih n2 ma mb
        exact this f.nd (show (e.1, e.2) ∈ F from he) hp'
      rw [this]
      exact sle_trans l' l
  refine ⟨?_, ?_, ?_, ?_, ?_⟩
  · rw [ke]
    refine List.nodup_append.mpr ⟨h.nd, f.nd, fun x hx y hy e => ?_⟩
    obtain ⟨p, hp⟩ := of_keysE hy
    rw [e] at hx
    exact (f.of _ hp).2.1 hx
  · intro e he
    rcases List.mem_append.mp he with m | m
    · exact ⟨(h.le e m).1, Nat.le_succ_of_le (h.le e m).2⟩
    · exact ⟨(fl e m).1, Nat.le_of_eq (fl e m).2⟩
  · intro x p kp l
    rw [ke]
    by_cases m : x ∈ keysE L
    · exact List.mem_append_left _ m
    · obtain ⟨g1, g2⟩ := h.via kp m
      obtain ⟨w, hw, ab, l⟩ := g2 (by omega) k1
      obtain ⟨p', hp', _⟩ := f.all w hw x ab kp.mem m
      exact List.mem_append_right _ (keysE_mem hp')
  · intro e
    constructor
    · exact fun m => ⟨List.mem_append_right _ m, (fl e m).2⟩
    · rintro ⟨m, l⟩
      rcases List.mem_append.mp m with m | m
      · have := (h.le e m).2
        omega
      · exact m
  · intro m
    rw [List.length_append]
    have := h.sz m
    have : 1 ≤ F.length := by
      cases F with
      | nil => exact absurd rfl ne
      | cons _ _ => exact Nat.le_add_left _ _
    omega
theorem Lay.stop {D : List Pr} {R : List Int} {s : Int} {k : Nat} {L M : List En} (h : Lay D R s k L M) (k1 : 1 ≤ k) (f : Fur R L M (Adj D) []) : AllP D R s L := by
  refine ⟨h.nd, fun e he => (h.le e he).1, fun x p kp => ?_⟩
  induction kp with
  | base hs => exact h.all s [s] (.base hs) k1
  | @step c v p kc ab hb ih =>
    obtain ⟨pc, hc⟩ := of_keysE ih
    obtain ⟨lc, lk⟩ := h.le _ hc
    by_cases m : v ∈ keysE L
    · exact m
    · exfalso
      obtain ⟨g1, _⟩ := h.via (lc.1.step ab hb) m
      rw [List.length_append] at g1
      have g3 : k < pc.length + 1 := g1
      obtain ⟨p', hp', _⟩ := f.all (c, pc) ((h.mm _).mpr ⟨hc, Nat.le_antisymm lk (Nat.lt_succ_iff.mp g3)⟩) v ab hb m
      cases hp'
theorem Lay.full {D : List Pr} {R : List Int} {s : Int} {k : Nat} {L M : List En} (h : Lay D R s k L M) (l : R.length < k) (sub : ∀ l : List Int, l.Nodup → (∀ x ∈ l, x ∈ R) → l.length ≤ R.length) : AllP D R s L := by
  refine ⟨h.nd, fun e he => (h.le e he).1, fun x p kp => ?_⟩
  have h1 := h.sz kp.start
  have h2 := sub (keysE L) h.nd fun x hx => by
    obtain ⟨p, hp⟩ := of_keysE hx
    exact (h.le _ hp).1.1.mem
  unfold keysE at h2
  rw [List.length_map] at h2
  omega
theorem Fur.start (R : List Int) (L M : List En) : Fur R L M (fun _ _ => False) [] :=
  ⟨List.nodup_nil, fun e he => (by cases he), fun _ _ _ h => h.elim⟩
theorem Fur.more {R : List Int} {L M F : List En} {E E' : Int → Int → Prop} (h : Fur R L M E F) (i : ∀ x y, E x y ↔ E' x y) : Fur R L M E' F :=
  ⟨h.nd, fun e he => by
    obtain ⟨h1, h2, u, hu, h3, h4⟩ := h.of e he
    exact ⟨h1, h2, u, hu, (i _ _).mp h3, h4⟩, fun u hu v e => h.all u hu v ((i _ _).mpr e)⟩
/-- a step that is none -/
theorem Fur.skip {R : List Int} {L M F : List En} {E : Int → Int → Prop} (h : Fur R L M E F) (u v : Int) (n : u ∉ keysE M ∨ v ∉ R ∨ v ∈ keysE L) : Fur R L M (fun x y => E x y ∨ x = u ∧ y = v) F :=
  ⟨h.nd, fun e he => by
    obtain ⟨h1, h2, u, hu, h3, h4⟩ := h.of e he
    exact ⟨h1, h2, u, hu, .inl h3, h4⟩, fun w hw v' e h1 h2 => by
    rcases e with e | ⟨rfl, rfl⟩
    · exact h.all w hw v' e h1 h2
    · rcases n with n | n | n
      · exact absurd (keysE_mem (p := w.2) hw) n
      · exact absurd h1 n
      · exact absurd n h2⟩
/-- a step that does not better -/
theorem Fur.worse {R : List Int} {L M F : List En} {E : Int → Int → Prop} (h : Fur R L M E F) {u v : Int} {pu p : List Int} (ndM : ∀ w ∈ M, w.1 = u → w.2 = pu) (m : (v, p) ∈ F) (l : sle p (pu ++ [v])) : Fur R L M (fun x y => E x y ∨ x = u ∧ y = v) F :=
  ⟨h.nd, fun e he => by
    obtain ⟨h1, h2, u, hu, h3, h4⟩ := h.of e he
    exact ⟨h1, h2, u, hu, .inl h3, h4⟩, fun w hw v' e h1 h2 => by
    rcases e with e | ⟨e1, rfl⟩
    · exact h.all w hw v' e h1 h2
    · rw [ndM w hw e1]
      exact ⟨p, m, l⟩⟩
theorem Fur.new {R : List Int} {L M F : List En} {E : Int → Int → Prop} (h : Fur R L M E F) {u v : Int} {pu : List Int} (ndM : ∀ w ∈ M, w.1 = u → w.2 = pu) (um : (u, pu) ∈ M) (vR : v ∈ R) (vL : v ∉ keysE L) (n : v ∉ keysE F) : Fur R L M (fun x y => E x y ∨ x = u ∧ y = v) (F ++ [(v, pu ++ [v])]) := by
  refine ⟨?_, fun e he => ?_, fun w hw v' e h1 h2 => ?_⟩
  · show (List.map _ _).Nodup
    rw [List.map_append]
    refine List.nodup_append.mpr ⟨h.nd, List.pairwise_singleton _ _, fun x hx y hy e => ?_⟩
    rw [List.mem_singleton.mp hy] at e
    rw [e] at hx
    exact n hx
  · rcases List.mem_append.mp he with m | m
    · obtain ⟨h1, h2, u, hu, h3, h4⟩ := h.of e m
      exact ⟨h1, h2, u, hu, .inl h3, h4⟩
    · rw [List.mem_singleton.mp m]
      exact ⟨vR, vL, _, um, .inr ⟨rfl, rfl⟩, rfl⟩
  · rcases e with e | ⟨e1, rfl⟩
    · obtain ⟨p, hp, l⟩ := h.all w hw v' e h1 h2
      exact ⟨p, List.mem_append_left _ hp, l⟩
    · rw [ndM w hw e1]
      exact ⟨_, List.mem_append_right _ (List.mem_singleton.mpr rfl), .inl rfl⟩
def setE (L : List En) (x : Int) (p : List Int) : List En := L.map fun e => if e.1 = x then (x, p) else e
theorem setE_keys (L : List En) (x : Int) (p : List Int) : keysE (setE L x p) = keysE L := by
  unfold keysE setE
  rw [List.map_map]
  refine List.map_congr_left fun e _ => ?_
  show (if e.1 = x then (x, p) else e).1 = e.1
  by_cases h : e.1 = x
  · rw [if_pos h]; exact h.symm
  · rw [if_neg h]
theorem mem_setE {L : List En} {x : Int} {p : List Int} {e : En} (h : e ∈ setE L x p) : e = (x, p) ∨ (e ∈ L ∧ e.1 ≠ x) := by
  obtain ⟨f, hf, e2⟩ := List.mem_map.mp h
  by_cases c : f.1 = x
  · rw [if_pos c] at e2; exact .inl e2.symm
  · rw [if_neg c] at e2; rw [← e2]; exact .inr ⟨hf, c⟩
theorem setE_mem {L : List En} {x : Int} {p : List Int} (h : x ∈ keysE L) : (x, p) ∈ setE L x p := by
  obtain ⟨q, hq⟩ := of_keysE h
  exact List.mem_map.mpr ⟨_, hq, if_pos rfl⟩
theorem setE_old {L : List En} {x : Int} {p : List Int} {e : En} (h : e ∈ L) (n : e.1 ≠ x) : e ∈ setE L x p := List.mem_map.mpr ⟨e, h, if_neg n⟩
theorem Fur.better {R : List Int} {L M F : List En} {E : Int → Int → Prop} (h : Fur R L M E F) {u v : Int} {pu p : List Int} (ndM : ∀ w ∈ M, w.1 = u → w.2 = pu) (um : (u, pu) ∈ M) (vR : v ∈ R) (vL : v ∉ keysE L) (m : (v, p) ∈ F) (uq : ∀ q, (v, q) ∈ F → q = p) (l : sle (pu ++ [v]) p) : Fur R L M (fun x y => E x y ∨ x = u ∧ y = v) (setE F v (pu ++ [v])) := by
  refine ⟨by rw [setE_keys]; exact h.nd, fun e he => ?_, fun w hw v' e h1 h2 => ?_⟩
  · rcases mem_setE he with m | ⟨m, _⟩
    · rw [m]
      exact ⟨vR, vL, _, um, .inr ⟨rfl, rfl⟩, rfl⟩
    · obtain ⟨h1, h2, u, hu, h3, h4⟩ := h.of e m
      exact ⟨h1, h2, u, hu, .inl h3, h4⟩
  · have here : (v, pu ++ [v]) ∈ setE F v (pu ++ [v]) := setE_mem (keysE_mem m)
    rcases e with e | ⟨e1, rfl⟩
    · obtain ⟨q, hq, l2⟩ := h.all w hw v' e h1 h2
      by_cases c : v' = v
      · subst c
        rw [uq q hq] at l2
        exact ⟨_, here, sle_trans l l2⟩
      · exact ⟨q, setE_old hq c, l2⟩
    · rw [ndM w hw e1]
      exact ⟨_, here, .inl rfl⟩

abbrev sFp : Stmt := topS 10
abbrev sRea : Stmt := topS 0
abbrev sPcs : Stmt := topS 0
theorem u1 {u : Nat} (h : u + 64 < cLine) : u + 1 < cLine := by omega
theorem ints_len {r : Nat} {l : List Int} (nd : l.Nodup) (h : ∀ x ∈ l, 0 ≤ x ∧ x < r) : l.length ≤ r := by
  have h1 : (l.map Int.toNat).Nodup := by
    refine List.pairwise_map.mpr (List.Pairwise.imp_of_mem (fun {x y} hx hy ne e => ?_) nd)
    have b1 := h x hx
    have b2 := h y hy
    omega
  have h2 := nat_nodup_len _ (List.range r) h1 fun c hc => by
    obtain ⟨x, hx, rfl⟩ := List.mem_map.mp hc
    have := h x hx
    exact List.mem_range.mpr (by omega)
  rw [List.length_map, List.length_range] at h2
  exact h2
theorem inI (j : Int) (l : List Int) : inV (.int j) (l.map V.int) = decide (j ∈ l) := by
  induction l with
  | nil => rfl
  | cons x l ih =>
    have e : inV (.int j) ((x :: l).map V.int) = (eqV (.int x) (.int j) || inV (.int j) (l.map V.int)) := rfl
    rw [e, ih]
    have e2 : eqV (.int x) (.int j) = decide (x = j) := by
      unfold eqV
      by_cases h : x = j
      · subst h
        simp
      · simp [h]
    rw [e2]
    by_cases h : j = x
    · subst h
      simp
    · have h' : ¬ x = j := fun z => h z.symm
      simp [h, h']
theorem flI (l : List Int) : (l.map V.int).all flatV = true := by
  rw [List.all_eq_true]
  intro v hv
  obtain ⟨x, _, rfl⟩ := List.mem_map.mp hv
  rfl
theorem same_sqT {K : PySem.W.Frag} {H H' : Hp} {a : Addr} {xs : List V} (e : Same H H') (h : SqT K H a xs) : SqT K H' a xs := by
  rcases h with (h | ⟨o, h⟩) | h
  · exact .inl (.inl (e _ _ h))
  · exact .inl (.inr ⟨o, e _ _ h⟩)
  · exact .inr h
/-- what the dict of first_paths holds: rooms and their paths -/
def IsE (H : Hp) (kv : Key × V) (e : En) : Prop := kv.1 = Sum.inl e.1 ∧ ∃ t, kv.2 = V.ref t ∧ H t = some (.tup (e.2.map V.int))
structure Dq (H : Hp) (d : Addr) (kvs : List (Key × V)) (L : List En) : Prop where
  at_ : H d = some (.dK kvs)
  pr : Paired (IsE H) kvs L
  vl : ∀ e ∈ L, e.2.length ≤ L.length
theorem Dq.len {H : Hp} {d : Addr} {kvs : List (Key × V)} {L : List En} (h : Dq H d kvs L) : kvs.length = L.length := Paired.length h.pr
theorem pr_keys {H : Hp} : ∀ {kvs : List (Key × V)} {L : List En}, Paired (IsE H) kvs L → kvs.map (·.1) = (keysE L).map Sum.inl
  | _, _, .nil => rfl
  | _, _, .cons h t => by
    have e : _ :: _ = _ :: _ := congr (congrArg List.cons h.1) (pr_keys t)
    exact e
theorem pr_get {H : Hp} {x : Int} : ∀ {kvs : List (Key × V)} {L : List En}, Paired (IsE H) kvs L → (valV kvs (Sum.inl x : Key) = none ∧ x ∉ keysE L) ∨ ∃ p t, (x, p) ∈ L ∧ valV kvs (Sum.inl x : Key) = some (V.ref t) ∧ H t = some (.tup (p.map V.int))
  | _, _, .nil => .inl ⟨rfl, fun h => by cases h⟩
  | kv :: kvs, e :: L, .cons h t => by
    obtain ⟨h1, u, h2, h3⟩ := h
    by_cases c : e.1 = x
    · refine .inr ⟨e.2, u, ?_, ?_, h3⟩
      · rw [← c]; exact List.mem_cons_self
      · rw [valV_pos (h1.trans (by rw [c])), h2]
    · have n : ¬ kv.1 = (Sum.inl x : Key) := fun z => c (Sum.inl.inj (h1.symm.trans z))
      rw [valV_neg n]
      rcases pr_get t with ⟨g1, g2⟩ | ⟨p, w, g1, g2, g3⟩
      · refine .inl ⟨g1, fun m => ?_⟩
        rcases List.mem_cons.mp m with m | m
        · exact c m.symm
        · exact g2 m
      · exact .inr ⟨p, w, List.mem_cons_of_mem _ g1, g2, g3⟩
theorem Dq.same {H H' : Hp} {d : Addr} {kvs : List (Key × V)} {L : List En} (h : Dq H d kvs L) (s : Same H H') : Dq H' d kvs L := ⟨s _ _ h.at_, Paired.mapP h.pr fun _ _ q => ⟨q.1, by
  obtain ⟨t, e1, e2⟩ := q.2
  exact ⟨t, e1, s _ _ e2⟩⟩, h.vl⟩
theorem pr_upd {H : Hp} {a : Addr} {o o' : HO} {kvs : List (Key × V)} {L : List En} (h : Paired (IsE H) kvs L) (ha : H a = some o) (n : ∀ xs, o ≠ .tup xs) : Paired (IsE (upd H a o')) kvs L := Paired.mapP h fun _ _ q => ⟨q.1, by
  obtain ⟨t, e1, e2⟩ := q.2
  exact ⟨t, e1, by rw [upd_ne (ne_of e2 ha (n _).symm)]; exact e2⟩⟩
theorem Dq.ch {H : Hp} {d wt : Addr} {us vs : List V} {kvs : List (Key × V)} {L : List En} (h : Dq H d kvs L) (ne : d ≠ wt) (hw : H wt = some (.lst us)) : Dq (upd H wt (.lst vs)) d kvs L := ⟨by rw [upd_ne ne]; exact h.at_, pr_upd h.pr hw (fun _ z => by cases z), h.vl⟩
theorem Dq.put {H : Hp} {d t : Addr} {b : Int} {p : List Int} {kvs : List (Key × V)} {L : List En} (h : Dq H d kvs L) (n : valV kvs (Sum.inl b : Key) = none) (ht : H t = some (.tup (p.map V.int))) (hx : p.length ≤ L.length + 1) : Dq (upd H d (.dK (putK kvs (Sum.inl b) (.ref t)))) d (putK kvs (Sum.inl b) (.ref t)) (L ++ [(b, p)]) := by
  have e := putK_new (V.ref t) n
  refine ⟨upd_same, ?_, fun f hf => ?_⟩
  · rw [e]
    exact Paired.snoc (pr_upd h.pr h.at_ (fun _ z => by cases z)) ⟨rfl, t, rfl, by rw [upd_ne (ne_of ht h.at_ (by intro z; cases z))]; exact ht⟩
  · rw [List.length_append]
    rcases List.mem_append.mp hf with m | m
    · have := h.vl f m
      exact Nat.le_add_right_of_le this
    · rw [List.mem_singleton.mp m]
      exact hx
theorem for_iterW {wi : TI} {g : TG} {tb : TS} {D : Ends} {σ : L2.St} {H : Hp} (h : wi σ H fun J H1 => tFor (fun _ H R => R J H) g tb D σ H1) : tFor wi g tb D σ H := h
def SeqI (K : PySem.W.Frag) (H : Hp) (o : Addr) (R : List Int) : Prop := SqL K H o (R.map V.int) ∨ SqT K H o (R.map V.int)
section
variable {P : Program} {w : World} {K : PySem.W.Frag} {mg : Str → Option Value} {base : Heap}
theorem scFp : FnScope ["steps", "start", "inside", "paths", "waiting", "room", "other"] ["steps", "start", "inside"] (defScope sFp) := ⟨rfl, rfl, rfl, by decide +kernel, rfl, by decide +kernel, by decide +kernel⟩
def spFq (K : PySem.W.Frag) (C g : Addr) : Sp := fun vs H Q _ => ∃ (q o p : Addr) (s : Int) (R : List Int) (r : Nat) (D : List Pr) (own : List Addr), vs = [.ref q, .int s, .ref o] ∧ H q = some (.met g p) ∧ HouseAt C H p r D own ∧ SeqI K H o R ∧ (∀ x ∈ R, 0 ≤ x ∧ x < r) ∧
  ∀ (d : Addr) (kvs : List (Key × V)) (L : List En) (H' : Hp), Same H H' → H d = none → Dq H' d kvs L → AllP D R s L → Q (.ref d) H'
theorem ok_fq {f C g : Addr} {fd fdn : FuncData} (F : Fun K "first_paths" "first_paths" sFp f fd) (T : Bi mg) (U : Hs K mg C) (bm : BMeth K C "neighbours" g) (Gn : FnOk P w K mg base CX0 1 g fdn ["self", "room"] (spHnear C)) (bn : Binds K fdn ["self", "room"] []) : FnOk P w K mg base CX0 2 f fd ["steps", "start", "inside"] (spFq K C g) := by
  refine F.ok scFp (fun vs H Q E h => ?_) (fun cdv A outer s0 H vs Q E hr h => ?_)
  · obtain ⟨q, o, p, s, R, r, D, own, rfl, _⟩ := h
    rfl
  · obtain ⟨q, o, p, s, R, r, D, own, rfl, hq, hh, ho, hR, ret⟩ := h
    refine ⟨_, (pss_cons (ps_set (i := 3) scFp.nd rfl (Or.inl rfl) pe_dnewK)
      (pss_cons (ps_if (pt_cmpR op_in_seq (pv 1) (pv 2) (by rfl))
      (pss_one (ps_dput (u1 hr.units) (pv 3) (pv 1) (pe_tup (pa_cons (pv 1) pa_nil)) rfl))
      pss_nil)
      (pss_cons (ps_set (i := 4) scFp.nd rfl (Or.inl rfl) (pe_callTy (call_listD rfl) (by rfl) T.list (by decide +kernel) (pa_cons (pv 3) pa_nil)))
      (pss_cons (ps_while PassesOwn.never (pt_truth (pv 4) (by intro _; rfl))
      (pss_cons (ps_set (i := 5) scFp.nd rfl (Or.inl rfl) (pe_bm PySem.F.plainAttrs_list PySem.F.slot_list_pop PySem.F.type_list_pop mt_popAt (pv 4) (pa_cons pe_int pa_nil)))
        (pss_one (ps_for PassesOwn.never rfl (pi_list (pe_callM (i := 0) (Gn.raw bn .nil) (hr.mono (by decide)) (by rfl) (.inl rfl) bm.fi pass0 (pa_cons (pv 5) pa_nil))) (pg_name (i := 6) scFp.nd rfl (Or.inl rfl))
        (pss_one (ps_if (PW.pt (pw_and (pt_cmpR op_in_seq (pv 6) (pv 2) (by rfl)) (pw_and1 (pt_cmp (pc_dnotin (u1 hr.units) (pv 6) (pv 3))))))
          (pss_cons (ps_dput (u1 hr.units) (pv 3) (pv 6) (pe_op op_catT (pe_dget (u1 hr.units) (pv 3) (pv 5) (fun _ _ => rfl)) (pe_tup (pa_cons (pv 6) pa_nil))) rfl)
            (pss_one (ps_expr (pe_bm PySem.F.plainAttrs_list PySem.F.slot_list_append PySem.F.type_list_append mt_append (pv 4) (pa_cons (pv 6) pa_nil)))))
          pss_nil))))))
      (pss_one (ps_ret (pv 3))))))), ?_⟩
    walk_at "rd"
    intro d nd
    have s1 : Same H (upd H d (HO.dK [])) := same_upd nd
    have hd1 : upd H d (HO.dK []) d = some (.dK []) := upd_same
    have hoS : ∀ H', Same H H' → SeqI K H' o R := fun H' sm => by
      rcases ho with h | h
      · exact .inl (sm.seq h)
      · exact .inr (same_sqT sm h)
    refine ⟨o, _, rfl, hoS _ s1, rfl, flI _, ?_⟩
    rw [inI]
    refine ⟨_, rfl, ?_⟩
    by_cases m : s ∈ R
    rw [decide_eq_true m]
    refine iteT ⟨_, rfl, (by show 1 ≤ sizeLine; decide), fun t nt => ⟨_, rfl, _, rfl, d, _, rfl, DPut.k (k := Sum.inl s) (same_upd nt _ _ hd1) (by decide), ?_⟩⟩
    have s2 : Same H (upd (upd (upd H d (HO.dK [])) t (HO.tup [V.int s])) d (HO.dK (putK [] (Sum.inl s) (V.ref t)))) := same_ch (s1.trans (same_upd nt)) nd
    have pk : ∃ kvs L, Dq (upd (upd (upd H d (HO.dK [])) t (HO.tup [V.int s])) d (HO.dK (putK [] (Sum.inl s) (V.ref t)))) d kvs L ∧ BOut D R s [] L := by
      have ntd : t ≠ d := fun z => by
        rw [z, upd_same] at nt
        cases nt
      refine ⟨[(Sum.inl s, V.ref t)], [(s, [s])], ⟨upd_same, .cons ⟨rfl, t, rfl, by rw [upd_ne ntd]; exact upd_same⟩ .nil, fun e he => ?_⟩, BOut.start m⟩
      rw [List.mem_singleton.mp he]
      exact Nat.le_refl _
    generalize upd (upd (upd H d (HO.dK [])) t (HO.tup [V.int s])) d (HO.dK (putK [] (Sum.inl s) (V.ref t))) = H1 at s2 pk
    clear nt hd1
    rotate_left
    rw [decide_eq_false m]
    refine iteF ?_
    have s2 := s1
    have pk : ∃ kvs L, Dq (upd H d (HO.dK [])) d kvs L ∧ BOut D R s [] L := ⟨[], [], ⟨upd_same, .nil, fun e he => by cases he⟩, BOut.none m⟩
    generalize upd H d (HO.dK []) = H1 at s1 s2 hd1 pk
    clear hd1
    all_goals
      clear s1
      obtain ⟨kvs, L, dk, fi⟩ := pk
      walk_at "rd"
      refine ⟨_, .inl dk.at_, fun wt nwt => ?_⟩
      have r12 := hh.r12
      have dok : ∀ d ∈ D, d.1 < d.2 := fun d hd => (hh.ok.ok d hd).2.1
      have klen : ∀ L : List En, (keysE L).Nodup → (∀ e ∈ L, Lst D R s e.1 e.2) → L.length ≤ r := fun L nd le => by
        have := ints_len nd fun x hx => by
          obtain ⟨p, hp⟩ := of_keysE hx
          exact hR x (le _ hp).1.mem
        unfold keysE at this
        rw [List.length_map] at this
        exact this
      have dwt : d ≠ wt := ne_of_none dk.at_ nwt
      have nw0 : H wt = none := s2.free nwt
      have e0 : kvs.map (fun kv => kV kv.1) = (keysE L).map V.int := by
        rw [show kvs.map (fun kv => kV kv.1) = (kvs.map (·.1)).map kV by rw [List.map_map]; rfl, pr_keys dk.pr, List.map_map]
        rfl
      rw [e0]
      obtain ⟨Pv, hPv⟩ : ∃ Pv : L2.St → Hp → Prop, Pv = (fun σ H' => ∃ (kvs : List (Key × V)) (A W : List En) (v5 v6 : Option V), σ = [some (.ref q), some (.int s), some (.ref o), some (.ref d), some (.ref wt), v5, v6] ∧ Same H H' ∧ Dq H' d kvs (A ++ W) ∧ BOut D R s A W ∧ H' wt = some (.lst ((keysE W).map V.int)) ∧ 2 * (r - kvs.length) + W.length ≤ 100) := ⟨_, rfl⟩
      obtain ⟨mu, hmu⟩ : ∃ mu : L2.St → Hp → Nat, mu = (fun _ H' => match H' d, H' wt with
        | some (.dK kvs), some (.lst ws) => 2 * (r - kvs.length) + ws.length
        | _, _ => 0) := ⟨_, rfl⟩
      refine while_by Pv mu ?h0 (fun σ H2 pv => ?hs) (fun σ H2 Q1 Q2 hi h => ?mono)
      case h0 =>
        rw [hPv]
        have kl := klen L fi.nd fi.le
        have dl := dk.len
        exact ⟨kvs, [], L, none, none, rfl, s2.trans (same_upd nwt), dk.same (same_upd nwt), fi, upd_same, by omega⟩
      case mono =>
        obtain ⟨v, g1, k, tv, q1⟩ := h
        exact ⟨v, g1, k, tv, hi _ _ q1⟩
      case hs =>
        rw [hPv] at pv
        obtain ⟨kvs, A, W, v5, v6, rfl, sm, dk, fi, hw, bd⟩ := pv
        refine ⟨.ref wt, rfl, !((keysE W).map V.int).isEmpty, .inl ⟨_, SqL.of hw, rfl⟩, ?_⟩
        cases W with
        | nil =>
          refine iteF ?_
          walk_at "rd"
          rw [List.append_nil] at dk
          exact ret d kvs A H2 sm nd dk fi.end
        | cons w0 ws =>
          have w0R := hR w0.1 (fi.le w0 (by simp)).1.mem
          obtain ⟨w0, p0⟩ := w0
          obtain ⟨n0, rfl⟩ : ∃ n : Nat, w0 = (n : Int) := ⟨w0.toNat, by have := w0R.1; simp only at this; omega⟩
          have fi := fi.go
          refine iteT ?_
          walk_at "rd"
          refine ⟨.inl ⟨rfl, _, SqL.of hw⟩, ?_⟩
          walk_at "rd"
          have sq : PySem.seqIndex? 0 ((keysE (((n0 : Int), p0) :: ws)).map V.int).length = some 0 := by
            unfold PySem.seqIndex?
            simp [keysE]
          refine ⟨wt, _, 0, 0, .int n0, rfl, rfl, hw, by decide, by decide, sq, rfl, ?_⟩
          have mu0 : mu [some (V.ref q), some (V.int s), some (V.ref o), some (V.ref d), some (V.ref wt), v5, v6] H2 = 2 * (r - kvs.length) + (ws.length + 1) := by
            rw [hmu]
            show (match H2 d, H2 wt with
              | some (.dK kvs), some (.lst ws) => 2 * (r - kvs.length) + ws.length
              | _, _ => 0) = _
            rw [dk.at_, hw]
            show _ + (List.map V.int _).length = _
            unfold keysE
            rw [List.length_map, List.length_map]
            rfl
          rw [mu0]
          have bd2 : 2 * (r - kvs.length) + (ws.length + 1) ≤ 100 := bd
          generalize hM : 2 * (r - kvs.length) + (ws.length + 1) = M at bd2
          show tFor _ _ _ _ _ (upd H2 wt (HO.lst ((keysE ws).map V.int)))
          have s3 : Same H (upd H2 wt (HO.lst ((keysE ws).map V.int))) := same_ch sm nw0
          have hw3 : upd H2 wt (HO.lst ((keysE ws).map V.int)) wt = some (.lst ((keysE ws).map V.int)) := upd_same
          have dk3 : Dq (upd H2 wt (HO.lst ((keysE ws).map V.int))) d kvs (A ++ ((n0 : Int), p0) :: ws) := dk.ch dwt hw
          generalize upd H2 wt (HO.lst ((keysE ws).map V.int)) = H3 at s3 hw3 dk3 ⊢
          refine for_iterW ?_
          refine ⟨q, p, rfl, _, rfl, s3 _ _ hq, p, r, D, own, n0, rfl, hh.same s3, by omega, fun nb nnb => ?_⟩
          have nb0 : H nb = none := s3.free nnb
          have nbw : wt ≠ nb := ne_of_none hw3 nnb
          have nbd : d ≠ nb := ne_of_none dk3.at_ nnb
          obtain ⟨Pw, hPw⟩ : ∃ Pw : Nat → L2.St → Hp → Prop, Pw = (fun j σ H' => ∃ (kvs' : List (Key × V)) (W' : List En) (v6 : Option V), σ = [some (.ref q), some (.int s), some (.ref o), some (.ref d), some (.ref wt), some (.int n0), v6] ∧ Same H H' ∧ H' nb = some (.lst ((nearF (n0 : Nat) D).map V.int)) ∧ Dq H' d kvs' (A ++ ((n0 : Int), p0) :: W') ∧ BIn D R s A ((n0 : Int), p0) W' ((nearF (n0 : Nat) D).take j) ∧ H' wt = some (.lst ((keysE W').map V.int)) ∧ 2 * (r - kvs'.length) + W'.length + 1 ≤ M) := ⟨_, rfl⟩
          refine ⟨nb, rfl, ⟨_, SqL.of upd_same⟩, for_list (K := K) (a := nb) (xs := (nearF (n0 : Nat) D).map V.int) Pw ?i0 (fun j σ H' _ pv => ?il) (fun j v σ H' gv pv => ?ib) (fun σ H' pv => ?ie)⟩
          case i0 =>
            rw [hPw]
            exact ⟨kvs, ws, v6, rfl, s3.trans (same_upd nnb), upd_same, dk3.same (same_upd nnb), (by rw [List.take_zero]; exact fi), same_upd nnb _ _ hw3, by omega⟩
          case il =>
            rw [hPw] at pv
            obtain ⟨_, _, _, _, _, hn, _⟩ := pv
            exact SqL.of hn
          case ie =>
            rw [hPw] at pv
            obtain ⟨kvs', W', v6, rfl, s5, hn, dk5, fi5, hw5, le5⟩ := pv
            rw [List.length_map, List.take_length] at fi5
            refine ⟨?_, ?_⟩
            · rw [hPv]
              refine ⟨kvs', A ++ [((n0 : Int), p0)], W', some (.int n0), v6, rfl, s5, (by rw [List.append_assoc]; exact dk5), fi5.done (fun b _ ab => (mem_nearF dok).mpr ab), hw5, by omega⟩
            · rw [hmu]
              show (match H' d, H' wt with
                | some (.dK kvs), some (.lst ws) => 2 * (r - kvs.length) + ws.length
                | _, _ => 0) < _
              rw [dk5.at_, hw5]
              show _ + (List.map V.int _).length < _
              unfold keysE
              rw [List.length_map, List.length_map]
              omega
          case ib =>
            have nxt : ∀ (kvs' : List (Key × V)) (W' : List En) (v6 : Option V) (H' : Hp), Same H H' → H' nb = some (.lst ((nearF (n0 : Nat) D).map V.int)) → Dq H' d kvs' (A ++ ((n0 : Int), p0) :: W') → BIn D R s A ((n0 : Int), p0) W' ((nearF (n0 : Nat) D).take (j + 1)) → H' wt = some (.lst ((keysE W').map V.int)) → 2 * (r - kvs'.length) + W'.length + 1 ≤ M → Pw (j + 1) [some (.ref q), some (.int s), some (.ref o), some (.ref d), some (.ref wt), some (.int n0), v6] H' := fun kvs' W' v6 H' h1 h2 h3 h4 h5 h6 => by
              rw [hPw]
              exact ⟨kvs', W', v6, rfl, h1, h2, h3, h4, h5, h6⟩
            rw [hPw] at pv
            obtain ⟨kvs', W', v6, rfl, s5, hn, dk5, fi5, hw5, le5⟩ := pv
            rw [List.getElem?_map] at gv
            cases gd : (nearF (n0 : Nat) D)[j]? with
            | none => rw [gd] at gv; cases gv
            | some b =>
              rw [gd] at gv
              have ev := Option.some.inj gv
              subst ev
              have adj : Adj D n0 b := (mem_nearF dok).mp (List.mem_of_getElem? gd)
              have tk : (nearF (n0 : Nat) D).take (j + 1) = (nearF (n0 : Nat) D).take j ++ [b] := by rw [List.take_add_one, gd]; rfl
              rw [tk] at nxt
              walk_at "rd"
              refine ⟨o, _, rfl, hoS _ s5, rfl, flI _, ?_⟩
              rw [inI]
              refine ⟨_, rfl, ?_⟩
              by_cases bR : b ∈ R
              · rw [decide_eq_true bR]
                refine iteT ?_
                refine ⟨_, rfl, _, rfl, d, _, rfl, DGet.k (k := Sum.inl b) dk5.at_, ?_⟩
                refine ⟨_, rfl, ?_⟩
                rcases pr_get (x := b) dk5.pr with ⟨vn, bk⟩ | ⟨pb, tb, mb, vb, _⟩
                · rw [vn]
                  refine iteT ?_
                  rcases pr_get (x := (n0 : Int)) dk5.pr with ⟨_, nk⟩ | ⟨pp, t0, mp, ev0, ht0⟩
                  · exact absurd (keysE_mem (p := p0) (by simp)) nk
                  have pe : pp = p0 := (fi5.le _ mp).uniq (fi5.le ((n0 : Int), p0) (by simp))
                  subst pe
                  have fi6 := fi5.add adj bR bk (fun c hc => by
                    obtain ⟨i, hi, e⟩ := List.getElem?_of_mem hc |>.imp fun i h => (⟨(List.getElem?_eq_some_iff.mp h).1, h⟩ : i < _ ∧ _)
                    have lt := nearF_lt (i := (n0 : Int)) hh.ok.asc dok
                    rw [List.length_take] at hi
                    rw [List.getElem?_take_of_lt (by omega)] at e
                    have h1 := List.getElem?_eq_some_iff.mp e
                    have h2 := List.getElem?_eq_some_iff.mp gd
                    have := List.pairwise_iff_getElem.mp lt i j h1.1 h2.1 (by omega)
                    rw [h1.2, h2.2] at this
                    exact this)
                  have kl := klen _ fi6.nd fi6.le
                  have dl := dk5.len
                  have kl2 : kvs'.length + 1 ≤ r := by
                    rw [dl]
                    rw [List.length_append, List.length_cons] at kl ⊢
                    rw [List.length_append] at kl
                    exact kl
                  have pl0 := dk5.vl _ mp
                  have pz : pp ≠ [] := fun z => by
                    have := (fi5.le _ mp).1.ne
                    rw [z] at this
                    exact Nat.not_succ_le_zero 0 this
                  refine ⟨_, rfl, _, rfl, d, .ref t0, rfl, (by rw [← ev0]; exact DGet.k (k := Sum.inl (n0 : Int)) dk5.at_), _, rfl, (by show 1 ≤ sizeLine; decide), fun t1 nt1 => ?_⟩
                  refine ⟨t0, t1, pp.map V.int, [.int b], rfl, rfl, SqT.of (same_upd nt1 _ _ ht0), SqT.of upd_same, (fun z => pz (List.map_eq_nil_iff.mp z)), Nat.le_of_lt (len_big (by rw [List.length_map]; show pp.length + 1 ≤ 100000; simp only at pl0; omega)), (fun z => by cases z), fun _ t2 nt2 => ?_⟩
                  have s56 : Same H' (upd (upd H' t1 (HO.tup [V.int b])) t2 (HO.tup (pp.map V.int ++ [V.int b]))) := (same_upd nt1).trans (same_upd nt2)
                  have ht2 : upd (upd H' t1 (HO.tup [V.int b])) t2 (HO.tup (pp.map V.int ++ [V.int b])) t2 = some (.tup ((pp ++ [b]).map V.int)) := by rw [List.map_append]; exact upd_same
                  generalize upd (upd H' t1 (HO.tup [V.int b])) t2 (HO.tup (pp.map V.int ++ [V.int b])) = H6 at s56 ht2
                  have dk6 := dk5.same s56
                  refine ⟨_, rfl, _, rfl, d, _, rfl, DPut.k (k := Sum.inl b) dk6.at_ (len_big (by omega)), ?_⟩
                  have dk7 := dk6.put vn ht2 (by rw [List.length_append]; simp only at pl0; show pp.length + 1 ≤ _; omega)
                  have s7 := same_ch (o := HO.dK (putK kvs' (Sum.inl b) (V.ref t2))) (s5.trans s56) nd
                  have hw7 : upd H6 d (HO.dK (putK kvs' (Sum.inl b) (V.ref t2))) wt = some (.lst ((keysE W').map V.int)) := by
                    rw [upd_ne dwt.symm]
                    exact s56 _ _ hw5
                  have hn7 : upd H6 d (HO.dK (putK kvs' (Sum.inl b) (V.ref t2))) nb = some (.lst ((nearF (n0 : Nat) D).map V.int)) := by
                    rw [upd_ne nbd.symm]
                    exact s56 _ _ hn
                  have pl : (putK kvs' (Sum.inl b : Key) (V.ref t2)).length = kvs'.length + 1 := by rw [putK_new _ vn, List.length_append]; rfl
                  generalize upd H6 d (HO.dK (putK kvs' (Sum.inl b) (V.ref t2))) = H7 at dk7 s7 hw7 hn7
                  generalize putK kvs' (Sum.inl b : Key) (V.ref t2) = kv7 at dk7 pl
                  walk_at "rd"
                  have wl : W'.length ≤ 100 := by omega
                  refine ⟨.inl ⟨rfl, _, SqL.of hw7⟩, _, hw7, len_big (by unfold keysE; rw [List.length_map, List.length_map]; omega), ?_⟩
                  refine nxt kv7 (W' ++ [(b, pp ++ [b])]) _ _ (same_ch s7 nw0) (by rw [upd_ne nbw.symm]; exact hn7) (by rw [List.append_assoc] at dk7; exact dk7.ch dwt hw7) fi6 (by rw [upd_same]; unfold keysE; rw [List.map_append, List.map_append]; rfl) (by rw [pl, List.length_append]; show _ + (W'.length + 1) + 1 ≤ M; omega)
                · rw [vb]
                  refine iteF ?_
                  exact nxt kvs' W' _ H' s5 hn dk5 (fi5.skip fun _ => keysE_mem mb) hw5 le5
              · rw [decide_eq_false bR]
                refine iteF ?_
                exact nxt kvs' W' _ H' s5 hn dk5 (fi5.skip fun h => absurd h bR) hw5 le5
end

abbrev sFst : Stmt := topS 9
abbrev sPdr : Stmt := topS 11
section
variable {K : PySem.W.Frag} {a b : Addr} {xs ys : List V}
theorem walk_zipT {n : Nat} (hn : n = min xs.length ys.length) : Walk (RZ.ItzT K a b) n (fun H => SqT K H a xs ∧ SqT K H b ys) (YPair (fun i => xs[i]?) (fun i => ys[i]?)) := by
  subst hn
  refine ⟨fun i _ hi q => ?_, fun _ q => ⟨xs, ys, q.1, q.2, by omega⟩, fun i H v H' _ q y => ?_⟩
  · have h1 : i < xs.length := by omega
    have h2 : i < ys.length := by omega
    exact ⟨xs, ys, xs[i], ys[i], q.1, q.2, by simp [h1], by simp [h2]⟩
  · obtain ⟨T, x, z, h1, h2, h3, h4, h5⟩ := y
    exact ⟨T, x, z, h1, h2, h3, h4 xs q.1, h5 ys q.2⟩
end
/-! ### the doors along a path -/
def dOf (a b : Int) : Pr := (if b < a then b else a, if b > a then b else a)
def alongI (ps : List Int) (i : Nat) : List Pr := (List.range i).map fun k => dOf (ps.getD k 0) (ps.getD (k + 1) 0)
def along (ps : List Int) : List Pr := alongI ps (ps.length - 1)
theorem alongI_succ (ps : List Int) (i : Nat) : alongI ps (i + 1) = alongI ps i ++ [dOf (ps.getD i 0) (ps.getD (i + 1) 0)] := by
  unfold alongI
  rw [List.range_succ, List.map_append]
  rfl
theorem dOf_comm (a b : Int) : dOf a b = dOf b a := by
  unfold dOf
  rcases Int.lt_trichotomy a b with h | h | h
  · rw [if_neg (show ¬ b < a by omega), if_pos (show b > a from h), if_pos (show a < b from h), if_neg (show ¬ a > b by omega)]
  · rw [h]
  · rw [if_pos (show b < a from h), if_neg (show ¬ b > a by omega), if_neg (show ¬ a < b by omega), if_pos (show a > b from h)]
theorem along_rev (ps : List Int) : along ps.reverse = (along ps).reverse := by
  unfold along alongI
  rw [List.length_reverse]
  refine List.ext_getElem (by simp) fun i h1 h2 => ?_
  rw [List.length_map, List.length_range] at h1
  rw [List.getElem_map, List.getElem_range, List.getElem_reverse, List.getElem_map, List.getElem_range]
  simp only [List.length_map, List.length_range]
  have g : ∀ k, k < ps.length → ps.reverse.getD k 0 = ps.getD (ps.length - 1 - k) 0 := fun k hk => by
    rw [List.getD_eq_getElem?_getD, List.getD_eq_getElem?_getD, List.getElem?_reverse hk]
  rw [g _ (by omega), g _ (by omega), dOf_comm]
  congr 2 <;> omega
/-- sorted, each as often as it comes -/
def SrtE (E : List Pr) (ps : List Int) : Prop := E.Perm (along ps) ∧ E.Pairwise fun x y => ¬ lt2 y x
theorem SrtE.uniq {E F : List Pr} {ps qs : List Int} (h : SrtE E ps) (k : SrtE F qs) (p : (along ps).Perm (along qs)) : E = F := by
  refine List.Perm.eq_of_pairwise (fun a b _ _ h1 h2 => ?_) h.2 k.2 (h.1.trans (p.trans k.1.symm))
  unfold lt2 at h1 h2
  obtain ⟨a1, a2⟩ := a
  obtain ⟨b1, b2⟩ := b
  simp only at h1 h2
  have : a1 = b1 ∧ a2 = b2 := by omega
  rw [this.1, this.2]
theorem SrtE.len {E : List Pr} {ps : List Int} (h : SrtE E ps) : E.length = ps.length - 1 := by
  rw [h.1.length_eq]
  unfold along alongI
  rw [List.length_map, List.length_range]
theorem srtE_of {H : Hp} {ys : List V} {us : List V} {ps : List Int} (pm : ys.Perm us) (e : us.map (kH H) = along ps) (h : SrtO.Srtd (ltP (kH H)) ys) : SrtE (ys.map (kH H)) ps := by
  refine ⟨?_, List.pairwise_map.mpr (List.Pairwise.imp (fun {x y} h => ?_) h)⟩
  · rw [← e]
    exact pm.map _
  · exact SrtO.lexB_no.mp h
section
variable {P : Program} {w : World} {K : PySem.W.Frag} {mg : Str → Option Value} {base : Heap}
theorem scFst : FnScope ["house", "start", "goal", "inside"] ["house", "start", "goal", "inside"] (defScope sFst) := ⟨rfl, rfl, rfl, by decide +kernel, rfl, by decide +kernel, by decide +kernel⟩
def spFst (K : PySem.W.Frag) (C : Addr) : Sp := fun vs H Q _ => ∃ (p o : Addr) (s g : Int) (R : List Int) (r : Nat) (D : List Pr) (own : List Addr), vs = [.ref p, .int s, .int g, .ref o] ∧ HouseAt C H p r D own ∧ SeqI K H o R ∧ (∀ x ∈ R, 0 ≤ x ∧ x < r) ∧
  ∀ (v : V) (H' : Hp), Same H H' → ((∃ q t, v = V.ref t ∧ H' t = some (.tup (q.map V.int)) ∧ Lst D R s g q) ∨ (v = .non ∧ ∀ q, ¬ Pth D R s g q)) → Q v H'
theorem SeqI.same {K : PySem.W.Frag} {H H' : Hp} {o : Addr} {R : List Int} (h : SeqI K H o R) (s : Same H H') : SeqI K H' o R := by
  rcases h with h | h
  · exact .inl (s.seq h)
  · exact .inr (same_sqT s h)
theorem ok_fst {f C g fF : Addr} {fd fdF : FuncData} (F : Fun K "first_path" "first_path" sFst f fd) (T : Bi mg) (U : Hs K mg C) (bm : BMeth K C "neighbours" g) (d_first_paths : Df P w K mg base "first_paths" ["steps", "start", "inside"] 2 (spFq K C g) fF fdF) : FnOk P w K mg base CX0 3 f fd ["house", "start", "goal", "inside"] (spFst K C) := by
  refine F.ok scFst (fun vs H Q E h => ?_) (fun cdv A outer s0 H vs Q E hr h => ?_)
  · obtain ⟨p, o, s, gl, R, r, D, own, rfl, _⟩ := h
    rfl
  · obtain ⟨p, o, s, gl, R, r, D, own, rfl, hh, ho, hR, ret⟩ := h
    refine ⟨_, (pss_one (ps_ret (pe_dget1 (u1 hr.units) (pe_call d_first_paths.ok (hr.mono (by decide)) (by rfl) d_first_paths.at_ d_first_paths.kp d_first_paths.b .nil pass0 (pa_cons (pe_bnd (pv 0) U.cl bm) (pa_cons (pv 1) (pa_cons (pv 3) pa_nil)))) (pv 2) ⟨rfl, by rfl, by rfl, by rfl⟩))), ?_⟩
    unfold tDGet1
    obtain ⟨dx, l0, m0, ls, nss, h1, _⟩ := hh.ex
    walk_at "rd"
    refine ⟨_, rfl, p, dx, _, rfl, h1, hf_no _ _ _ (by decide +kernel) (by decide +kernel) (by decide +kernel), fun q nq => ?_⟩
    have s1 : Same H (upd H q (HO.met g p)) := same_upd nq
    refine ⟨q, o, p, s, R, r, D, own, rfl, upd_same, hh.same s1, ho.same s1, hR, fun d kvs L H' s2 nd dk al => ?_⟩
    refine ⟨d, rfl, .inl ⟨kvs, .inl dk.at_⟩, _, DGet.k (k := Sum.inl gl) dk.at_, ret _ H' (s1.trans s2) ?_⟩
    rcases pr_get (x := gl) dk.pr with ⟨e, n⟩ | ⟨q, t, m, e, ht⟩
    · rw [e]
      exact .inr ⟨rfl, al.no.mp n⟩
    · rw [e]
      exact .inl ⟨q, t, rfl, ht, al.get.mp m⟩
theorem scPdr : FnScope ["path", "a", "b"] ["path"] (defScope sPdr) := ⟨rfl, rfl, rfl, by decide +kernel, rfl, by decide +kernel, by decide +kernel⟩
def spPdr (K : PySem.W.Frag) : Sp := fun vs H Q _ => ∃ (t : Addr) (ps : List Int), vs = [.ref t] ∧ H t = some (.tup (ps.map V.int)) ∧ 1 ≤ ps.length ∧ ps.length ≤ 100 ∧
  ∀ (E : List Pr) (ys : List V) (p : Addr) (H' : Hp), SrtE E ps → Same H H' → H p = none → H' p = some (.lst ys) → PL H' ys E → Q (.ref p) H'
theorem ok_pdr {f : Addr} {fd : FuncData} (F : Fun K "path_doors" "path_doors" sPdr f fd) (T : Bi mg) (zm : mg "zip" = none) : FnOk P w K mg base CX0 1 f fd ["path"] (spPdr K) := by
  refine F.ok scPdr (fun vs H Q E h => ?_) (fun cdv A outer s0 H vs Q E hr h => ?_)
  · obtain ⟨t, ps, rfl, _⟩ := h
    rfl
  · obtain ⟨t, ps, rfl, ht, l1, l100, ret⟩ := h
    refine ⟨_, (pss_one (ps_ret (pe_callB cr_sortedPO (by rfl) T.sorted (by decide +kernel) (pa_cons (pe_lc (own := [("a", 1), ("b", 2)]) (g := gTup K 2 (gCons (gName 1) (gCons (gName 2) gNil))) (by rfl) scPdr.nd (RZ.pi_zipA (by rfl) zm (pa_cons (pv 0) (pa_cons (pe_slice sl_tup (pv 0) (po_some pe_int) po_none) pa_nil))) (blkOk_by (N := ["path", "a", "b"]) (sc := defScope sPdr) (by decide +kernel)) (fun _ _ _ _ _ => pg_tup rfl (pgs_cons (pg_name (i := 1) scPdr.nd rfl (Or.inl rfl)) (pgs_cons (pg_name (i := 2) scPdr.nd rfl (Or.inl rfl)) pgs_nil))) (fun _ _ _ _ _ => pts_nil) (fun _ _ _ _ _ => (pe_tup (pa_cons (pe_callB (call_min2 rfl) (by rfl) T.min (by decide +kernel) (pa_cons (pv 1) (pa_cons (pv 2) pa_nil))) (pa_cons (pe_callB (call_max2 rfl) (by rfl) T.max (by decide +kernel) (pa_cons (pv 1) (pa_cons (pv 2) pa_nil))) pa_nil))))) pa_nil)))), ?_⟩
    unfold RZ.iZipA
    walk_at "rd"
    unfold tLc rSlT
    dsimp only
    refine ⟨_, rfl, _, rfl, t, _, rfl, SqT.of ht, ?_, fun t2 nt2 => ?_⟩
    · rintro ⟨h, _⟩
      rw [show (some (1 : Int)) = some ((1 : Nat) : Int) from rfl, HT.sIx_nat, List.length_map] at h
      omega
    have ht1 := same_upd (o := HO.tup (cutV (ps.map V.int) (some 1) none)) nt2 _ _ ht
    have ht2 : upd H t2 (HO.tup (cutV (ps.map V.int) (some 1) none)) t2 = some (.tup ((ps.drop 1).map V.int)) := by
      rw [upd_same]
      unfold cutV
      rw [show (some (1 : Int)) = some ((1 : Nat) : Int) from rfl, HT.sIx_nat, HT.sIx_none, List.length_map, Nat.min_eq_left l1, List.map_drop, List.take_of_length_le (by rw [List.length_drop, List.length_map]; omega)]
    have s1 : Same H (upd H t2 (HO.tup (cutV (ps.map V.int) (some 1) none))) := same_upd nt2
    refine ⟨t, rfl, t2, rfl, _, _, .inr ⟨SqT.of ht1, SqT.of ht2, fun c nc => ?_⟩⟩
    generalize upd H t2 (HO.tup (cutV (ps.map V.int) (some 1) none)) = H1 at s1 ht1 ht2 nc ⊢
    obtain ⟨Pv, hPv⟩ : ∃ Pv : Nat → Hp → Prop, Pv = (fun i H' => ∃ ws, Same H1 H' ∧ H' c = some (.lst ws) ∧ PL H' ws (alongI ps i)) := ⟨_, rfl⟩
    refine lc_it (walk_zipT (n := ps.length - 1) (xs := ps.map V.int) (ys := (ps.drop 1).map V.int) (by rw [List.length_map, List.length_map, List.length_drop]; omega)) Pv (by rw [hPv]; exact ⟨[], same_upd nc, upd_same, PL.nil0 _⟩) (fun i H' _ pv => by rw [hPv] at pv; obtain ⟨_, sm, _⟩ := pv; exact ⟨SqT.of (sm _ _ ht1), SqT.of (sm _ _ ht2)⟩) (fun i x Hx H' hi pv y => ?_) (fun H' pv => ?_)
    · have nxt : ∀ ws H', Same H1 H' → H' c = some (.lst ws) → PL H' ws (alongI ps (i + 1)) → Pv (i + 1) H' := fun ws H' h1 h2 h3 => by
        rw [hPv]
        exact ⟨ws, h1, h2, h3⟩
      rw [hPv] at pv
      obtain ⟨ws, sm, hc, pw⟩ := pv
      obtain ⟨T, x1, y1, rfl, nT, rfl, gx, gy⟩ := y
      have gx2 : (ps.map V.int)[i]? = some (V.int (ps.getD i 0)) := by rw [List.getElem?_map, List.getElem?_eq_getElem (by omega), List.getD_eq_getElem?_getD, List.getElem?_eq_getElem (by omega)]; rfl
      have gy2 : ((ps.drop 1).map V.int)[i]? = some (V.int (ps.getD (i + 1) 0)) := by rw [List.getElem?_map, List.getElem?_drop, Nat.add_comm 1 i, List.getElem?_eq_getElem (by omega), List.getD_eq_getElem?_getD, List.getElem?_eq_getElem (by omega)]; rfl
      have ex := Option.some.inj (gx.symm.trans gx2)
      have ey := Option.some.inj (gy.symm.trans gy2)
      subst ex
      subst ey
      have lw : ws.length ≤ 100 := by
        rw [pw.len]
        unfold alongI
        rw [List.length_map, List.length_range]
        omega
      have ncT : c ≠ T := ne_of_none hc nT
      simp only [wipe]
      walk_at "rd"
      refine ⟨_, SqT.of upd_same, rfl, _, _, rfl, _, _, rfl, rfl, ?_⟩
      walk_at "rd"
      refine ⟨(by show 2 ≤ sizeLine; decide), fun t nt => ?_⟩
      have nct : c ≠ t := ne_of_none (by rw [upd_ne ncT]; exact hc) nt
      refine ⟨ws, by rw [upd_ne nct, upd_ne ncT]; exact hc, len_big (by omega), nxt (ws ++ [.ref t]) _ (same_ch ((sm.trans (same_upd nT)).trans (same_upd nt)) nc) upd_same ?_⟩
      rw [alongI_succ]
      refine PL.snoc (((pw.kt (KT.new nT)).kt (KT.new nt)).kt (KT.lst (by rw [upd_ne nct, upd_ne ncT]; exact hc))) ⟨t, rfl, ?_⟩
      rw [upd_ne nct.symm, upd_same]
      rfl
    · rw [hPv] at pv
      obtain ⟨ws, sm, hc, pw⟩ := pv
      obtain ⟨k1, k2⟩ := pw.toK
      refine ⟨c, ws, kH H', rfl, SqL.of hc, k2, fun ys t so st nt => ?_⟩
      have hy : ∀ v ∈ ys, IsP H' v (kH H' v) := fun v hv => k2 v (st.perm.mem_iff.mp hv)
      have s2 := s1.trans sm
      exact ret (ys.map (kH H')) ys t _ (srtE_of st.perm k1.symm so) (s2.trans (same_upd nt)) (s2.free nt) upd_same ((PL.ofK hy).kt (KT.new nt))
end

/-! ### t[::-1] of a tuple -/
section
variable {prog : Program} {w : World} {A : Around} {E : Value → Shared → Prop} {s : Shared}
theorem sliceApplied_rev {sl : Addr} {vl vu vs : Value} {n : Nat} {Q : Int × Int × Nat → Shared → Prop} (hs : s.heap.IsSliceOf sl vl vu vs) (pl : IsPart vl none) (pu : IsPart vu none) (ps : IsPart vs (some (-1)))
    (h : Q ((n : Int) - 1, -1, n) s) : wpAny (model prog w) A (Builtin.Slice.sliceApplied (.ref sl) (pure (n : Int))) Q E s := by
  obtain ⟨os, hos, hcs, hds⟩ := id hs
  unfold Builtin.Slice.sliceApplied Builtin.Slice.sliceFields
  refine wpAny_bind (wpAny_bind (wpAny_field hos hds (x := vl) rfl (wpAny_bind (wpAny_field hos hds (x := vu) rfl (wpAny_bind (wpAny_field hos hds (x := vs) rfl (wpAny_pure ?_)))))))
  refine wpAny_bind (HT.slicePart_ ps ?_)
  show wpAny _ _ (if ((-1 : Int) == 0) = true then _ else _) _ _ s
  rw [if_neg (by decide)]
  refine wpAny_bind (HT.slicePart_ pl (wpAny_bind (HT.slicePart_ pu (wpAny_bind (wpAny_pure ?_)))))
  show wpAny _ _ (match Builtin.Slice.sliceAdjust none none (-1) (n : Int) with | (lo, hi) => pure (lo, (-1 : Int), Builtin.Slice.slicePlaces lo hi (-1))) _ _ s
  show wpAny _ _ (pure ((n : Int) - 1, (-1 : Int), Builtin.Slice.slicePlaces ((n : Int) - 1) (-1) (-1))) _ _ s
  have e : Builtin.Slice.slicePlaces ((n : Int) - 1) (-1) (-1) = n := by
    unfold Builtin.Slice.slicePlaces
    rw [if_neg (by decide)]
    by_cases z : n = 0
    · subst z
      rfl
    · rw [if_pos (by omega)]
      have : ((n : Int) - 1 - -1 - 1) / (- -1) + 1 = n := by
        rw [show (- -1 : Int) = 1 from rfl, Int.ediv_one]
        omega
      rw [this]
      exact Int.toNat_natCast n
  rw [e]
  exact wpAny_pure h
theorem pick_rev (xs : Array Value) : ((List.range xs.size).filterMap fun (k : Nat) => xs[(((xs.size : Int) - 1) + (k : Int) * -1).toNat]?).toArray = xs.toList.reverse.toArray := by
  have e : (fun (k : Nat) => xs[(((xs.size : Int) - 1) + (k : Int) * -1).toNat]?) = fun k => xs[xs.size - 1 - k]? := by
    funext k
    have : (((xs.size : Int) - 1) + (k : Int) * -1).toNat = xs.size - 1 - k := by omega
    rw [this]
  rw [e]
  have e2 : ((List.range xs.size).filterMap fun k => xs[xs.size - 1 - k]?) = ((List.range xs.size).map fun k => xs.size - 1 - k).filterMap (xs[·]?) := by
    rw [List.filterMap_map]
    rfl
  rw [e2, PySem.W.krv_range, List.filterMap_reverse, PySem.W.krv_all]
theorem getItem_tuple_rev {t sl : Addr} {items : Array Value} {vl vu vs : Value} {Q : Value → Shared → Prop} (ht : IsTup s.heap t items) (hs : s.heap.IsSliceOf sl vl vu vs) (pl : IsPart vl none) (pu : IsPart vu none) (ps : IsPart vs (some (-1)))
    (h : Q (.ref s.heap.objs.size) { s with heap := s.heap.push { cls := .type "tuple", data := .seq items.toList.reverse.toArray } })
    (hsz : items.size ≤ sizeLine) : wpAny (model prog w) A (getItem (.ref t) (.ref sl)) Q E s := by
  have htake : sizeOk (.seq items.toList.reverse.toArray) := by
    show items.toList.reverse.toArray.size ≤ sizeLine
    rw [List.size_toArray, List.length_reverse, Array.length_toList]
    exact hsz
  obtain ⟨os, hos, hcs, hds⟩ := id hs
  have hTs : s.TypeIs (.ref sl) "slice" := ⟨os, hos, hcs⟩
  unfold getItem
  try with_reducible refine wpAny_holding ?_
  first | refine wpAny_bind (wpAny_pure ?_) | skip
  refine wpAny_bind (wpAny_sequenceKey ht.typeIs (by decide) ?_)
  refine wpAny_bind (wpAny_callSpecial?_slot (name := Str.ofString "__getitem__") ht.typeIs PyProof.Rows.slot_tuple_getitem
    (wpAny_call_entry PyProof.Rows.slot_tuple_getitem ht.typeIs entry_tuple_getitem ?_ (args_tuple_getitem _ _)))
  show wpAny _ _ (Builtin.Tuple.tupleItemsOf (.ref t) >>= _) _ _ s
  refine wpAny_bind (tupleItemsOf_ ht ?_)
  refine wpAny_bind (wpAny_typeOf hTs ?_)
  rw [if_pos (by decide)]
  refine wpAny_bind (sliceApplied_rev hs pl pu ps ?_)
  have hno : ¬ ((((items.size : Int) - 1) == 0 && (-1 : Int) == 1 && items.size == items.size) = true) := by
    intro q
    rw [Bool.and_eq_true, Bool.and_eq_true] at q
    exact absurd q.1.2 (by decide)
  show wpAny _ _ (if (((items.size : Int) - 1) == 0 && (-1 : Int) == 1 && items.size == items.size) = true then _ else _) _ _ s
  rw [if_neg hno, pick_rev]
  first
    | exact wpAny_bind (m := Builtin.Tuple.tupleExact _) (wpAny_newObj_type (wpAny_pure ⟨_, rfl, wpAny_pure h⟩) htake)
    | exact wpAny_bind (m := Builtin.Tuple.tupleExact _) (wpAny_newObj_type (wpAny_bind (wpAny_pure (wpAny_pure ⟨_, rfl, wpAny_pure h⟩))) htake)
    | exact wpAny_bind (wpAny_bind (m := Builtin.Tuple.tupleExact _) (wpAny_newObj_type (wpAny_pure (wpAny_pure ⟨_, rfl, wpAny_pure h⟩)) htake))
    | exact wpAny_bind (wpAny_bind (m := Builtin.Tuple.tupleExact _) (wpAny_newObj_type (wpAny_pure ⟨_, rfl, wpAny_pure h⟩) htake))
end
section
variable {X : Cx}
def tRevT (K : PySem.W.Frag) (te : TE) : TE := fun σ H Q => te σ H fun x H1 => ∃ a xs, x = .ref a ∧ SqT K H1 a xs ∧ ∀ p, H1 p = none → Q (.ref p) (upd H1 p (.tup xs.reverse))
theorem pe_revT {e : Expr} {te : TE} {k : Nat} {p1 p2 p3 pos : Pos} (he : PE X e te) : PE X (.Subscript e (.Slice none none (some (.UnaryOp .USub (.Constant (.int 1) k p1) p2)) p3) pos) (tRevT X.K te) := by
  refine ⟨fun pins s σ H Q I h => ?_⟩
  refine Subscript_ (thn (he.run pins s σ H _ I h) fun v s1 ⟨x, H1, I1, r1, q1⟩ => ?_)
  obtain ⟨a, xs, ex, hx, q⟩ := q1
  subst ex
  cases r1
  have hst : PO X (some (.UnaryOp .USub (.Constant (.int 1) k p1) p2)) (tPart (tUn (rU fun i => .int (-i)) (tC (.int 1)))) := po_some (pe_un un_neg pe_int)
  refine wpAny_Slice (thn (po_none.run pins s1 σ H1 (fun o H2 => o = none ∧ H2 = H1) I1 ⟨rfl, rfl⟩) fun vl s2 ⟨l, H2, I2, pl, el, e2⟩ => ?_)
  subst el e2
  refine thn (po_none.run pins s2 σ H2 (fun o H3 => o = none ∧ H3 = H2) I2 ⟨rfl, rfl⟩) fun vu s3 ⟨u, H3, I3, pu, eu, e3⟩ => ?_
  subst eu e3
  refine thn (hst.run pins s3 σ H3 (fun o H4 => o = some (-1) ∧ H4 = H3) I3 ⟨1, rfl, -1, rfl, rfl, rfl⟩) fun vs s4 ⟨o, H4, I4, ps, eo, e4⟩ => ?_
  subst eo e4
  have I5 : Inv X pins σ H4 { s4 with heap := s4.heap.push { cls := .type "slice", data := .fields #[vl, vu, vs] } } := I4.kept (t' := s4.toks) fun b ob q => Heap.get?_push_of_some _ q
  obtain ⟨its, r, ht, hz⟩ := I5.tuple hx
  have hlen := r.length
  show wpAny (model X.prog X.w) X.A (subscriptTail e (.Slice none none (some (.UnaryOp .USub (.Constant (.int 1) k p1) p2)) p3) (.ref a) (.ref s4.heap.objs.size)) (EP X pins σ Q) X.xe { s4 with heap := s4.heap.push { cls := .type "slice", data := .fields #[vl, vu, vs] } }
  refine tail_any (ops := [.ref a, .ref s4.heap.objs.size]) ht.typeIs (PyProof.Rows.slot_tuple_getitem.lookup) ?_ (by with_unfolding_all rfl)
  refine getItem_tuple_rev ht (Heap.IsSliceOf.new _ vl vu vs) pl pu ps ?_ (by rw [List.size_toArray]; omega)
  refine ⟨.ref _, _, I5.laid (t' := s4.toks) (o := .tup xs.reverse) (fun b ob q => Heap.get?_push_of_some _ q) (Nat.le_refl _) ?_, rfl, q _ (I5.hok.fresh (Nat.le_refl _))⟩
  exact ⟨by rw [List.length_reverse]; exact hz, _, by simpa using r.reverse, IsTup.new _ _⟩
end

abbrev sChosen : Stmt := topS 19
abbrev sAsP : Stmt := topS 20
theorem same_ok {n : Nat} {H : Hp} {x y : V} {Q : VK} {E : XK} (h : Sm H n x y) (q : Q (.bl true) H) : spSame n [x, y] H Q E := ⟨x, y, rfl, h, q⟩
theorem paired_flat {H : Hp} {n : Nat} {us : List V} (h : ∀ x ∈ us, flat4 x = true) : Paired (Sm H n) us us := by
  induction us with
  | nil => exact Paired.nil
  | cons a l ih => exact Paired.cons (Sm.flat (h a List.mem_cons_self)) (ih fun x hx => h x (List.mem_cons_of_mem _ hx))
theorem sm_flats {H : Hp} {x y : Addr} {us : List V} (hx : H x = some (.lst us)) (hy : H y = some (.lst us)) (h : ∀ x ∈ us, flat4 x = true) (hl : us.length ≤ 100000) (n : Nat) : Sm H (n + 1) (.ref x) (.ref y) :=
  .inr ⟨x, y, _, _, rfl, rfl, .inl ⟨hx, hy⟩, paired_flat h, hl⟩
theorem sm_flatsT {H : Hp} {x y : Addr} {us : List V} (hx : H x = some (.tup us)) (hy : H y = some (.tup us)) (h : ∀ x ∈ us, flat4 x = true) (hl : us.length ≤ 100000) (n : Nat) : Sm H (n + 1) (.ref x) (.ref y) :=
  .inr ⟨x, y, _, _, rfl, rfl, .inr ⟨hx, hy⟩, paired_flat h, hl⟩
theorem flat_intsV (l : List Int) : ∀ x ∈ l.map V.int, flat4 x = true := fun x hx => by
  obtain ⟨i, _, rfl⟩ := List.mem_map.mp hx
  rfl
section
variable {P : Program} {w : World} {K : PySem.W.Frag} {mg : Str → Option Value} {base : Heap}
theorem scChosen : FnScope ["numbers", "rooms", "least", "room"] ["numbers", "rooms"] (defScope sChosen) := ⟨rfl, rfl, rfl, by decide +kernel, rfl, by decide +kernel, by decide +kernel⟩
/-- ints from 0 on below r, at most r of them -/
def Some_ (r : Nat) (R : List Int) : Prop := R.length ≤ r ∧ ∀ x ∈ R, 0 ≤ x ∧ x < r
def spChosen (K : PySem.W.Frag) : Sp := fun vs H Q _ => ∃ (a : Addr) (ns : List Int) (r : Nat), vs = [.ref a, .int r] ∧ SqL K H a (ns.map V.int) ∧ 13 + r ≤ ns.length ∧ 1 ≤ r ∧ r ≤ 12 ∧
  ∀ R p H', Some_ r R → Same H H' → H p = none → H' p = some (.lst (R.map V.int)) → Q (.ref p) H'
theorem ok_chosen {f fN : Addr} {fd fdN : FuncData} (F : Fun K "_law_chosen" "_law_chosen" sChosen f fd) (T : Bi mg) (d__law_names : Df P w K mg base "_law_names" ["numbers", "at", "rooms"] 1 (spNam K) fN fdN) : FnOk P w K mg base CX0 2 f fd ["numbers", "rooms"] (spChosen K) := by
  refine F.ok scChosen (fun vs H Q E h => ?_) (fun cdv A outer s H vs Q E hr h => ?_)
  · obtain ⟨a, ns, r, rfl, _⟩ := h
    rfl
  · obtain ⟨a, ns, r, rfl, hS, hn, r1, r12, q⟩ := h
    refine ⟨_, (pss_cons (ps_set (i := 2) scChosen.nd rfl (Or.inr rfl) (pe_ix ix_list (pe_lst (pa_cons pe_int (pa_cons pe_int (pa_cons pe_int (pa_cons pe_int (pa_cons pe_int (pa_cons pe_int (pa_cons pe_int (pa_cons pe_int (pa_cons pe_int pa_nil)))))))))) (pe_op op_mod (pe_callTy cr_intI (by rfl) T.int (by decide +kernel) (pa_cons (pe_ix ix_list (pv 0) pe_int (fun _ _ => rfl)) pa_nil)) pe_int) (fun _ _ => rfl)))
      (pss_one (ps_ret (pe_lc (own := [("room", 3)]) (te := tVar 3) (tt := tTest (tOp (rI0 fun i j => .bl (decide (j ≤ i))) (tOp (rI (fun x j => 0 < j) fun i j => V.int (i % j)) (tCB (fun xs H Q => ∃ i, xs = [.int i] ∧ Q (.int i) H) (tCons (tOp (rIxL K) (tVar 0) (tOp (rI0 fun i j => V.int (i + j)) (tC (.int 13)) (tVar 3))) tNil)) (tC (.int 4))) (tVar 2))) (by rfl) scChosen.nd (pi_list (pe_call d__law_names.ok (hr.mono (by decide)) (by rfl) d__law_names.at_ d__law_names.kp d__law_names.b .nil pass0 (pa_cons (pv 0) (pa_cons pe_int (pa_cons (pv 1) pa_nil))))) (blkOk_by (N := ["numbers", "rooms", "least", "room"]) (sc := defScope sChosen) (by decide +kernel)) (fun _ _ _ _ _ => pg_name (i := 3) scChosen.nd rfl (Or.inl rfl)) (fun _ _ _ _ _ => (pts_one (pt_cmpR op_ge (pe_op op_mod (pe_callTy cr_intI (by rfl) T.int (by decide +kernel) (pa_cons (pe_ix ix_list (pv 0) (pe_op op_add pe_int (pv 3)) (fun _ _ => rfl)) pa_nil)) pe_int) (pv 2) (nomark _)))) (fun _ _ _ _ _ => (pv 3)))))), ?_⟩
    walk_at "rd"
    refine ⟨by decide, fun e ne => ?_⟩
    have s0 : Same H (upd H e (HO.lst [V.int 4, V.int 2, V.int 2, V.int 1, V.int 1, V.int 1, V.int 1, V.int 0, V.int 0])) := same_upd ne
    have he : upd H e (HO.lst [V.int 4, V.int 2, V.int 2, V.int 1, V.int 1, V.int 1, V.int 1, V.int 0, V.int 0]) e = some (.lst [V.int 4, V.int 2, V.int 2, V.int 1, V.int 1, V.int 1, V.int 1, V.int 0, V.int 0]) := upd_same
    generalize upd H e (HO.lst [V.int 4, V.int 2, V.int 2, V.int 1, V.int 1, V.int 1, V.int 1, V.int 0, V.int 0]) = H0 at s0 he
    have gn : ∀ j : Nat, j < ns.length → ∃ x, (ns.map V.int)[j]? = some (.int x) := fun j hj => ⟨ns[j], by rw [List.getElem?_map, List.getElem?_eq_getElem hj]; rfl⟩
    obtain ⟨x0, g0⟩ := gn 0 (by omega)
    obtain ⟨j0, ej⟩ : ∃ j : Nat, x0 % 9 = j := ⟨(x0 % 9).toNat, by omega⟩
    obtain ⟨z, gz⟩ : ∃ z : Int, [V.int 4, V.int 2, V.int 2, V.int 1, V.int 1, V.int 1, V.int 1, V.int 0, V.int 0][j0]? = some (.int z) := by
      have : j0 = 0 ∨ j0 = 1 ∨ j0 = 2 ∨ j0 = 3 ∨ j0 = 4 ∨ j0 = 5 ∨ j0 = 6 ∨ j0 = 7 ∨ j0 = 8 := by omega
      rcases this with rfl | rfl | rfl | rfl | rfl | rfl | rfl | rfl | rfl <;> exact ⟨_, rfl⟩
    refine ⟨_, s0.seq hS, .int x0, at_of (j := 0) rfl g0, x0, rfl, by decide, _, SqL.of he, .int z, at_of ej gz, ?_⟩
    refine ⟨_, rfl, _, rfl, a, ns, 1, r, rfl, s0.seq hS, by omega, by omega, fun xs n H1 pm s1 nn hn1 => ?_⟩
    have xr : ∀ x ∈ xs, 0 ≤ x ∧ x < r := fun x hx => by
      have m := pm.mem_iff.mp hx
      unfold rg at m
      obtain ⟨k, hk, rfl⟩ := List.mem_map.mp m
      have h1 := List.mem_range.mp hk
      exact ⟨Int.natCast_nonneg k, Int.ofNat_lt.mpr h1⟩
    have xl : xs.length = r := by rw [pm.length_eq, rg_len]
    have s01 := s0.trans s1
    refine ⟨n, rfl, ⟨_, SqL.of hn1⟩, fun c nc => ?_⟩
    obtain ⟨Pv, hPv⟩ : ∃ Pv : Nat → Hp → Prop, Pv = (fun j Hx => ∃ R : List Int, Same H1 Hx ∧ Hx c = some (.lst (R.map V.int)) ∧ R.length ≤ j ∧ ∀ x ∈ R, 0 ≤ x ∧ x < r) := ⟨_, rfl⟩
    refine lc_list (K := K) (a := n) (xs := xs.map V.int) Pv (by rw [hPv]; exact ⟨[], same_upd nc, upd_same, Nat.le_refl _, fun x hx => by cases hx⟩) (fun j Hx _ pv => by rw [hPv] at pv; obtain ⟨_, s3, _⟩ := pv; exact SqL.of (s3 _ _ hn1)) (fun j v Hx gv pv => ?_) (fun Hx pv => ?_)
    · have nxt : ∀ (R : List Int) Hx, Same H1 Hx → Hx c = some (.lst (R.map V.int)) → R.length ≤ j + 1 → (∀ x ∈ R, 0 ≤ x ∧ x < r) → Pv (j + 1) Hx := fun R Hx h1 h2 h3 h4 => by
        rw [hPv]
        exact ⟨R, h1, h2, h3, h4⟩
      rw [hPv] at pv
      obtain ⟨R, s3, hc, rl, rr⟩ := pv
      rw [List.getElem?_map] at gv
      cases gd : xs[j]? with
      | none => rw [gd] at gv; cases gv
      | some x =>
        rw [gd] at gv
        have ev := Option.some.inj gv
        subst ev
        have hx := xr x (List.mem_of_getElem? gd)
        have hj : j < xs.length := (List.getElem?_eq_some_iff.mp gd).1
        obtain ⟨y, gy⟩ := gn (13 + x.toNat) (by omega)
        simp only [wipe]
        walk_at "rd"
        refine ⟨_, (s01.trans s3).seq hS, .int y, at_of (j := 13 + x.toNat) (by omega) gy, y, rfl, by decide, ite2 (fun _ => ?_) (fun _ => nxt R Hx s3 hc (by omega) rr)⟩
        refine ⟨_, hc, len_big (by rw [List.length_map]; omega), nxt (R ++ [x]) _ (same_ch s3 nc) (by rw [upd_same, List.map_append]; rfl) (by rw [List.length_append]; exact Nat.succ_le_succ rl) fun w hw => ?_⟩
        rcases List.mem_append.mp hw with h | h
        · exact rr w h
        · rw [List.mem_singleton.mp h]
          exact hx
    · rw [hPv] at pv
      obtain ⟨R, s3, hc, rl, rr⟩ := pv
      rw [List.length_map, xl] at rl
      exact q R c Hx ⟨rl, rr⟩ (s01.trans s3) (s01.free nc) hc
theorem scAsP : FnScope ["chosen", "number"] ["chosen", "number"] (defScope sAsP) := ⟨rfl, rfl, rfl, by decide +kernel, rfl, by decide +kernel, by decide +kernel⟩
def kdO (x : Int) (xs : List V) : HO := if x % 2 = 1 then .tup xs else .lst xs
def spAsP : Sp := fun vs H Q _ => ∃ (o : Addr) (x : Int) (R : List Int), vs = [.ref o, .int x] ∧ H o = some (.lst (R.map V.int)) ∧ ∀ (t : Addr) (H' : Hp), Same H H' → H t = none → H' t = some (kdO x (R.map V.int)) → Q (.ref t) H'
theorem ok_asP {f : Addr} {fd : FuncData} (F : Fun K "_law_as_passed" "_law_as_passed" sAsP f fd) (T : Bi mg) : FnOk P w K mg base CX0 1 f fd ["chosen", "number"] spAsP := by
  refine F.ok scAsP (fun vs H Q E h => ?_) (fun cdv A outer s0 H vs Q E hr h => ?_)
  · obtain ⟨o, x, R, rfl, _⟩ := h
    rfl
  · obtain ⟨o, x, R, rfl, ho, ret⟩ := h
    refine ⟨_, (pss_cons (ps_if (pt_cmpR op_eqI (pe_op op_mod (pe_callTy cr_intI (by rfl) T.int (by decide +kernel) (pa_cons (pv 1) pa_nil)) pe_int) pe_int (nomark _))
      (pss_one (ps_ret (pe_callTy call_tuple_of (by rfl) T.tuple (by decide +kernel) (pa_cons (pv 0) pa_nil))))
      pss_nil)
      (pss_one (ps_ret (pe_callTy call_list_of (by rfl) T.list (by decide +kernel) (pa_cons (pv 0) pa_nil))))), ?_⟩
    walk_at "rd"
    refine ⟨by decide, ite2 (fun e => ?_) (fun e => ?_)⟩
    · refine ⟨_, .inl ⟨SqL.of ho, fun t nt => ret t _ (same_upd nt) nt ?_⟩⟩
      unfold kdO
      rw [upd_same, if_pos e]
    · refine ⟨_, .inl (SqL.of ho), fun t nt => ret t _ (same_upd nt) nt ?_⟩
      unfold kdO
      rw [upd_same, if_neg e]
end

abbrev sAlo : Stmt := topS 22
abbrev sDri : Stmt := topS 23
theorem PL.sm {H : Hp} {x y : Addr} {us vs : List V} {E : List Pr} (hx : H x = some (.lst us)) (hy : H y = some (.lst vs)) (pu : PL H us E) (pv : PL H vs E) (hl : E.length ≤ 100000) (n : Nat) : Sm H (n + 2) (.ref x) (.ref y) := by
  refine .inr ⟨x, y, _, _, rfl, rfl, .inl ⟨hx, hy⟩, ?_, by rw [pu.len]; exact hl⟩
  clear hx hy hl
  induction pu generalizing vs with
  | nil => cases pv; exact Paired.nil
  | cons r _ ih =>
    cases pv with
    | cons r2 t2 =>
      obtain ⟨t, rfl, e1⟩ := r
      obtain ⟨t', rfl, e2⟩ := r2
      exact Paired.cons (.inr ⟨t, t', _, _, rfl, rfl, .inr ⟨e1, e2⟩, .cons (Sm.flat rfl) (.cons (Sm.flat rfl) .nil), (by show 2 ≤ 100000; decide)⟩) (ih t2)
section
variable {P : Program} {w : World} {K : PySem.W.Frag} {mg : Str → Option Value} {base : Heap}
theorem scAlo : FnScope ["path", "doors", "k"] ["path"] (defScope sAlo) := ⟨rfl, rfl, rfl, by decide +kernel, rfl, by decide +kernel, by decide +kernel⟩
theorem ok_alo {f : Addr} {fd : FuncData} (F : Fun K "_law_along" "_law_along" sAlo f fd) (T : Bi mg) : FnOk P w K mg base CX0 1 f fd ["path"] (spPdr K) := by
  refine F.ok scAlo (fun vs H Q E h => ?_) (fun cdv A outer s0 H vs Q E hr h => ?_)
  · obtain ⟨t, ps, rfl, _⟩ := h
    rfl
  · obtain ⟨t, ps, rfl, ht, l1, l100, ret⟩ := h
    refine ⟨_, (pss_cons (ps_set (i := 1) scAlo.nd rfl (Or.inl rfl) (pe_lst pa_nil))
      (pss_cons (ps_for PassesOwn.never rfl (pi_range1 (by rfl) T.range (pa_cons (pe_op op_sub (pe_callB call_len_seq (by rfl) T.len (by decide +kernel) (pa_cons (pv 0) pa_nil)) pe_int) pa_nil)) (pg_name (i := 2) scAlo.nd rfl (Or.inl rfl))
      (pss_one (ps_expr (pe_bm PySem.F.plainAttrs_list PySem.F.slot_list_append PySem.F.type_list_append mt_append (pv 1) (pa_cons (pe_tup (pa_cons (pe_callB (call_min2 rfl) (by rfl) T.min (by decide +kernel) (pa_cons (pe_ix ix_tup (pv 0) (pv 2) (fun _ _ => rfl)) (pa_cons (pe_ix ix_tup (pv 0) (pe_op op_add (pv 2) pe_int) (fun _ _ => rfl)) pa_nil))) (pa_cons (pe_callB (call_max2 rfl) (by rfl) T.max (by decide +kernel) (pa_cons (pe_ix ix_tup (pv 0) (pv 2) (fun _ _ => rfl)) (pa_cons (pe_ix ix_tup (pv 0) (pe_op op_add (pv 2) pe_int) (fun _ _ => rfl)) pa_nil))) pa_nil))) pa_nil)))))
      (pss_one (ps_ret (pe_callB cr_sortedPO (by rfl) T.sorted (by decide +kernel) (pa_cons (pv 1) pa_nil)))))), ?_⟩
    walk_at "rd"
    refine ⟨Nat.zero_le _, fun c nc => ?_⟩
    have s1 : Same H (upd H c (HO.lst [])) := same_upd nc
    have ht1 := s1 _ _ ht
    have hc1 : upd H c (HO.lst []) c = some (.lst []) := upd_same
    generalize upd H c (HO.lst []) = H1 at s1 ht1 hc1
    obtain ⟨Pv, hPv⟩ : ∃ Pv : Nat → L2.St → Hp → Prop, Pv = (fun i σ H' => ∃ (ws : List V) (v2 : Option V), σ = [some (.ref t), some (.ref c), v2] ∧ Same H H' ∧ H' c = some (.lst ws) ∧ PL H' ws (alongI ps i)) := ⟨_, rfl⟩
    refine for_iterW ?_
    walk_at "rd"
    refine ⟨_, .inr (SqT.of ht1), ?_⟩
    rw [List.length_map]
    refine ⟨by omega, by omega, ?_⟩
    have e1 : ((ps.length : Int) - 1).toNat = ps.length - 1 := by omega
    rw [e1]
    refine for_range (lo := 0) (n := ps.length - 1) Pv (by rw [hPv]; exact ⟨[], none, rfl, s1, hc1, PL.nil0 _⟩) (fun i σ H' hi pv => ?_) (fun σ H' pv => ?_)
    · have nxt : ∀ ws v2 H', Same H H' → H' c = some (.lst ws) → PL H' ws (alongI ps (i + 1)) → Pv (i + 1) [some (.ref t), some (.ref c), v2] H' := fun ws v2 H' h1 h2 h3 => by
        rw [hPv]
        exact ⟨ws, v2, rfl, h1, h2, h3⟩
      rw [hPv] at pv
      obtain ⟨ws, v2, rfl, sm, hc, pw⟩ := pv
      have g : ∀ k, k < ps.length → (ps.map V.int)[k]? = some (V.int (ps.getD k 0)) := fun k hk => by rw [List.getElem?_map, List.getElem?_eq_getElem hk, List.getD_eq_getElem?_getD, List.getElem?_eq_getElem hk]; rfl
      have lw : ws.length ≤ 100 := by
        rw [pw.len]
        unfold alongI
        rw [List.length_map, List.length_range]
        omega
      have hp := sm _ _ ht
      walk_at "rd"
      refine ⟨.inl ⟨rfl, _, SqL.of hc⟩, _, SqT.of hp, .int (ps.getD i 0), at_of (j := i) (by omega) (g i (by omega)), _, SqT.of hp, .int (ps.getD (i + 1) 0), at_of (j := i + 1) (by omega) (g (i + 1) (by omega)), ?_⟩
      refine ⟨_, rfl, _, rfl, _, SqT.of hp, .int (ps.getD i 0), at_of (j := i) (by omega) (g i (by omega)), _, SqT.of hp, .int (ps.getD (i + 1) 0), at_of (j := i + 1) (by omega) (g (i + 1) (by omega)), _, rfl, _, rfl, ?_⟩
      refine ⟨by decide, fun q nq => ⟨ws, ?_, len_big (by omega), ?_⟩⟩
      · rw [upd_ne (ne_of_none hc nq)]
        exact hc
      · have nct : c ≠ q := ne_of_none hc nq
        refine nxt (ws ++ [.ref q]) _ _ (same_ch (sm.trans (same_upd nq)) nc) upd_same ?_
        rw [alongI_succ]
        refine PL.snoc ((pw.kt (KT.new nq)).kt (KT.lst (by rw [upd_ne nct]; exact hc))) ⟨q, rfl, ?_⟩
        rw [upd_ne nct.symm, upd_same]
        rfl
    · rw [hPv] at pv
      obtain ⟨ws, v2, rfl, sm, hc, pw⟩ := pv
      walk_at "rd"
      obtain ⟨k1, k2⟩ := pw.toK
      refine ⟨c, ws, kH H', rfl, SqL.of hc, k2, fun ys t so st nt => ?_⟩
      have hy : ∀ v ∈ ys, IsP H' v (kH H' v) := fun v hv => k2 v (st.perm.mem_iff.mp hv)
      exact ret (ys.map (kH H')) ys t _ (srtE_of st.perm k1.symm so) (sm.trans (same_upd nt)) (sm.free nt) upd_same ((PL.ofK hy).kt (KT.new nt))
theorem scDri : FnScope ["path", "due", "told"] ["path"] (defScope sDri) := ⟨rfl, rfl, rfl, by decide +kernel, rfl, by decide +kernel, by decide +kernel⟩
def spDri : Sp := fun vs H Q _ => ∃ (t : Addr) (ps : List Int), vs = [.ref t] ∧ H t = some (.tup (ps.map V.int)) ∧ 1 ≤ ps.length ∧ ps.length ≤ 100 ∧
  ∀ (H' : Hp), Same H H' → Q (.bl true) H'
theorem ok_dri {f fA fD fS : Addr} {fd fdA fdD fdS : FuncData} (F : Fun K "_law_doors_right" "_law_doors_right" sDri f fd) (T : Bi mg) (d__law_along : Df P w K mg base "_law_along" ["path"] 1 (spPdr K) fA fdA) (d_path_doors : Df P w K mg base "path_doors" ["path"] 1 (spPdr K) fD fdD) (d__law_same : Df P w K mg base "_law_same" ["got", "due"] 3 (spSame 2) fS fdS) : FnOk P w K mg base CX0 4 f fd ["path"] spDri := by
  refine F.ok scDri (fun vs H Q E h => ?_) (fun cdv A outer s0 H vs Q E hr h => ?_)
  · obtain ⟨t, ps, rfl, _⟩ := h
    rfl
  · obtain ⟨t, ps, rfl, ht, l1, l100, ret⟩ := h
    refine ⟨_, (pss_cons (ps_set (i := 1) scDri.nd rfl (Or.inl rfl) (pe_call d__law_along.ok (hr.mono (by decide)) (by rfl) d__law_along.at_ d__law_along.kp d__law_along.b .nil pass0 (pa_cons (pv 0) pa_nil)))
      (pss_cons (ps_set (i := 2) scDri.nd rfl (Or.inl rfl) (pe_call d_path_doors.ok (hr.mono (by decide)) (by rfl) d_path_doors.at_ d_path_doors.kp d_path_doors.b .nil pass0 (pa_cons (pv 0) pa_nil)))
      (pss_cons (ps_if (pt_not (pt_val (pe_call d__law_same.ok (hr.mono (by decide)) (by rfl) d__law_same.at_ d__law_same.kp d__law_same.b .nil pass0 (pa_cons (pv 2) (pa_cons (pv 1) pa_nil)))))
      (pss_one (ps_ret pe_bl))
      pss_nil)
      (pss_cons (ps_expr (pe_bm PySem.F.plainAttrs_list PySem.F.slot_list_append PySem.F.type_list_append mt_append (pv 2) (pa_cons (pe_tup (pa_cons pe_int (pa_cons pe_int pa_nil))) pa_nil)))
      (pss_one (ps_ret (pe_and (pe_call d__law_same.ok (hr.mono (by decide)) (by rfl) d__law_same.at_ d__law_same.kp d__law_same.b .nil pass0 (pa_cons (pe_call d_path_doors.ok (hr.mono (by decide)) (by rfl) d_path_doors.at_ d_path_doors.kp d_path_doors.b .nil pass0 (pa_cons (pv 0) pa_nil)) (pa_cons (pv 1) pa_nil))) (pe_one (pe_call d__law_same.ok (hr.mono (by decide)) (by rfl) d__law_same.at_ d__law_same.kp d__law_same.b .nil pass0 (pa_cons (pe_call d_path_doors.ok (hr.mono (by decide)) (by rfl) d_path_doors.at_ d_path_doors.kp d_path_doors.b .nil pass0 (pa_cons (pe_revT (pv 0)) pa_nil)) (pa_cons (pv 1) pa_nil))))))))))), ?_⟩
    walk_at "rd"
    refine ⟨t, ps, rfl, ht, l1, l100, fun E1 y1 d1 H1 se1 s1 n1 h1 p1 => ?_⟩
    walk_at "rd"
    refine ⟨t, ps, rfl, s1 _ _ ht, l1, l100, fun E2 y2 d2 H2 se2 s2 n2 h2 p2 => ?_⟩
    walk_at "rd"
    have l66 : E1.length ≤ 100000 := by
      rw [se1.len]
      omega
    have e21 : E2 = E1 := se2.uniq se1 (List.Perm.refl _)
    subst e21
    have h12 := s2 _ _ h1
    refine same_ok (PL.sm h2 h12 p2 (p1.kt (KT.same s2)) l66 0) ⟨true, rfl, iteF ?_⟩
    refine ⟨.inl ⟨rfl, _, SqL.of h2⟩, (by decide), fun q nq => ⟨y2, ?_, len_big (by rw [p2.len]; omega), ?_⟩⟩
    · rw [upd_ne (ne_of_none h2 nq)]
      exact h2
    have s02 := s1.trans s2
    have n20 := s1.free n2
    have nd : d1 ≠ d2 := ne_of_none h1 n2
    have s3 := same_ch (o := HO.lst (y2 ++ [V.ref q])) (s02.trans (same_upd (o := HO.tup [V.int 0, V.int 0]) nq)) n20
    have h13 : upd (upd H2 q (HO.tup [V.int 0, V.int 0])) d2 (HO.lst (y2 ++ [V.ref q])) d1 = some (.lst y1) := by
      rw [upd_ne nd, upd_ne (ne_of_none h12 nq)]
      exact h12
    have p13 : PL (upd (upd H2 q (HO.tup [V.int 0, V.int 0])) d2 (HO.lst (y2 ++ [V.ref q]))) y1 E2 := ((p1.kt (KT.same s2)).kt (KT.new nq)).kt (KT.lst (by rw [upd_ne (ne_of_none h2 nq)]; exact h2))
    generalize upd (upd H2 q (HO.tup [V.int 0, V.int 0])) d2 (HO.lst (y2 ++ [V.ref q])) = H3 at s3 h13 p13
    refine ⟨t, ps, rfl, s3 _ _ ht, l1, l100, fun E3 y3 d3 H4 se3 s4 n3 h3 p3 => ?_⟩
    have e3 : E3 = E2 := se3.uniq se1 (List.Perm.refl _)
    subst e3
    refine same_ok (PL.sm h3 (s4 _ _ h13) p3 (p13.kt (KT.same s4)) l66 0) ⟨true, rfl, iteT ?_⟩
    have s5 := s3.trans s4
    unfold tRevT
    walk_at "rd"
    refine ⟨_, SqT.of (s5 _ _ ht), fun t5 n5 => ?_⟩
    have s6 := s4.trans (same_upd (o := HO.tup (ps.map V.int).reverse) n5)
    refine ⟨t5, ps.reverse, rfl, by rw [upd_same, List.map_reverse], by rw [List.length_reverse]; exact l1, by rw [List.length_reverse]; exact l100, fun E5 y5 d5 H6 se5 s7 _ h5 p5 => ?_⟩
    have e5 : E5 = E3 := se5.uniq se1 (by rw [along_rev]; exact List.reverse_perm _)
    subst e5
    have s8 := s6.trans s7
    exact same_ok (PL.sm h5 (s8 _ _ h13) p5 (p13.kt (KT.same s8)) l66 0) (ret _ (s3.trans s8))
end

abbrev sLlp : Stmt := topS 21
theorem ltL_lex : ∀ ns ms : List Int, (HT.lexLt ns ms = true ↔ ltL ns ms)
  | [], [] => by
    show (false = true) ↔ False
    simp
  | [], _ :: _ => by
    show (true = true) ↔ True
    simp
  | _ :: _, [] => by
    show (false = true) ↔ False
    simp
  | x :: xs, y :: ys => by
    have ih := ltL_lex xs ys
    show (if x = y then HT.lexLt xs ys else decide (x < y)) = true ↔ x < y ∨ (x = y ∧ ltL xs ys)
    by_cases e : x = y
    · rw [if_pos e, ih]
      constructor
      · exact fun h => .inr ⟨e, h⟩
      · rintro (h | ⟨_, h⟩)
        · omega
        · exact h
    · rw [if_neg e, decide_eq_true_eq]
      constructor
      · exact fun h => .inl h
      · rintro (h | ⟨h, _⟩)
        · exact h
        · exact absurd h e
theorem keys_uq : ∀ {G : List En}, (keysE G).Nodup → ∀ {x : Int} {a b : List Int}, (x, a) ∈ G → (x, b) ∈ G → a = b
  | [], _, _, _, _, m, _ => by cases m
  | g :: G, nd, x, a, b, ma, mb => by
    obtain ⟨n1, n2⟩ := List.nodup_cons.mp nd
    rcases List.mem_cons.mp ma with ma | ma
    · rcases List.mem_cons.mp mb with mb | mb
      · exact congrArg Prod.snd (ma.trans mb.symm)
      · rw [← ma] at n1
        exact absurd (keysE_mem mb) n1
    · rcases List.mem_cons.mp mb with mb | mb
      · rw [← mb] at n1
        exact absurd (keysE_mem ma) n1
      · exact keys_uq n2 ma mb
theorem sub_len (R : List Int) : ∀ l : List Int, l.Nodup → (∀ x ∈ l, x ∈ R) → l.length ≤ R.length := by
  induction R with
  | nil =>
    intro l nd h
    cases l with
    | nil => exact Nat.le_refl _
    | cons x l => exact absurd (h x List.mem_cons_self) (by simp)
  | cons r R ih =>
    intro l nd h
    have h1 := ih (l.filter fun x => decide (x ≠ r)) (List.Pairwise.filter _ nd) fun x hx => by
      obtain ⟨m, n⟩ := List.mem_filter.mp hx
      rcases List.mem_cons.mp (h x m) with e | e
      · exact absurd e (of_decide_eq_true n)
      · exact e
    have h2 : ∀ l : List Int, l.Nodup → l.length ≤ (l.filter fun x => decide (x ≠ r)).length + 1 := by
      intro l
      induction l with
      | nil => intro _; exact Nat.zero_le _
      | cons y l ih2 =>
        intro nd
        obtain ⟨n1, n2⟩ := List.nodup_cons.mp nd
        by_cases e : y = r
        · rw [List.filter_cons_of_neg (by simp [e])]
          have : l.filter (fun x => decide (x ≠ r)) = l := List.filter_eq_self.mpr fun x hx => by
            rw [decide_eq_true_eq]
            intro z
            rw [e, ← z] at n1
            exact n1 hx
          rw [this]
          exact Nat.le_refl _
        · rw [List.filter_cons_of_pos (by simp [e])]
          exact Nat.succ_le_succ (ih2 n2)
    have h3 := h2 l nd
    rw [List.length_cons]
    omega
/-- a key that stands gets another tuple -/
theorem pr_set {H : Hp} {x : Int} {p : List Int} {t : Addr} (ht : H t = some (.tup (p.map V.int))) : ∀ {kvs : List (Key × V)} {L : List En}, Paired (IsE H) kvs L → Paired (IsE H) (kvs.map fun q => if q.1 = (Sum.inl x : Key) then (q.1, V.ref t) else q) (setE L x p)
  | _, _, .nil => .nil
  | kv :: kvs, e :: L, .cons h r => by
    refine .cons ?_ (pr_set ht r)
    show IsE H (if kv.1 = (Sum.inl x : Key) then _ else kv) (if e.1 = x then (x, p) else e)
    by_cases c : e.1 = x
    · rw [if_pos (h.1.trans (by rw [c])), if_pos c]
      exact ⟨h.1.trans (by rw [c]), t, rfl, ht⟩
    · rw [if_neg (fun z => c (Sum.inl.inj (h.1.symm.trans z))), if_neg c]
      exact h
section
variable {P : Program} {w : World} {K : PySem.W.Frag} {mg : Str → Option Value} {base : Heap}
theorem scLlp : FnScope ["doors", "start", "inside", "paths", "newest", "k", "further", "a", "b", "u", "v", "path"] ["doors", "start", "inside"] (defScope sLlp) := ⟨rfl, rfl, rfl, by decide +kernel, rfl, by decide +kernel, by decide +kernel⟩
def spLlp (K : PySem.W.Frag) : Sp := fun vs H Q _ => ∃ (dl o : Addr) (us : List V) (s : Int) (R : List Int) (r : Nat) (D : List Pr), vs = [.ref dl, .int s, .ref o] ∧ H dl = some (.lst us) ∧ PL H us D ∧ Drs r D ∧ r ≤ 12 ∧ H o = some (.lst (R.map V.int)) ∧ R.length < 64 ∧ (∀ x ∈ R, 0 ≤ x ∧ x < r) ∧
  ∀ (d : Addr) (kvs : List (Key × V)) (L : List En) (H' : Hp), Same H H' → H d = none → H' d = some (.dK kvs) → Paired (IsE H') kvs L → AllP D R s L → (∀ e ∈ L, e.2.length ≤ 64) → Q (.ref d) H'
theorem ok_llp {f : Addr} {fd : FuncData} (F : Fun K "_law_least_paths" "_law_least_paths" sLlp f fd) (T : Bi mg) : FnOk P w K mg base CX0 1 f fd ["doors", "start", "inside"] (spLlp K) := by
  refine F.ok scLlp (fun vs H Q E h => ?_) (fun cdv A outer s0 H vs Q E hr h => ?_)
  · obtain ⟨dl, o, us, s, R, r, D, rfl, _⟩ := h
    rfl
  · obtain ⟨dl, o, us, s, R, r, D, rfl, hdl, pl, drs, r12, ho, h64, hR, ret⟩ := h
    refine ⟨_, (pss_cons (ps_set (i := 3) scLlp.nd rfl (Or.inl rfl) pe_dnewK)
      (pss_cons (ps_set (i := 4) scLlp.nd rfl (Or.inl rfl) pe_dnewK)
      (pss_cons (ps_if (pt_cmpR op_in_seq (pv 1) (pv 2) (by rfl))
      (pss_cons (ps_dput (u1 hr.units) (pv 3) (pv 1) (pe_tup (pa_cons (pv 1) pa_nil)) rfl)
        (pss_one (ps_dput (u1 hr.units) (pv 4) (pv 1) (pe_tup (pa_cons (pv 1) pa_nil)) rfl)))
      pss_nil)
      (pss_cons (ps_for PassesOwn.never rfl (pi_range1 (by rfl) T.range (pa_cons (pe_callB call_len_seq (by rfl) T.len (by decide +kernel) (pa_cons (pv 2) pa_nil)) pa_nil)) (pg_name (i := 5) scLlp.nd rfl (Or.inl rfl))
      (pss_cons (ps_set (i := 6) scLlp.nd rfl (Or.inl rfl) pe_dnewK)
        (pss_cons (ps_for PassesOwn.never rfl (pi_list (pv 0)) (pg_tup rfl (pgs_cons (pg_name (i := 7) scLlp.nd rfl (Or.inl rfl)) (pgs_cons (pg_name (i := 8) scLlp.nd rfl (Or.inl rfl)) pgs_nil)))
        (pss_one (ps_for PassesOwn.never rfl (pi_tup (pe_tup (pa_cons (pe_tup (pa_cons (pv 7) (pa_cons (pv 8) pa_nil))) (pa_cons (pe_tup (pa_cons (pv 8) (pa_cons (pv 7) pa_nil))) pa_nil)))) (pg_tup rfl (pgs_cons (pg_name (i := 9) scLlp.nd rfl (Or.inl rfl)) (pgs_cons (pg_name (i := 10) scLlp.nd rfl (Or.inl rfl)) pgs_nil)))
          (pss_one (ps_if (PW.pt (pw_and (pt_cmp (pc_din (u1 hr.units) (pv 9) (pv 4))) (pw_and (pt_cmpR op_in_seq (pv 10) (pv 2) (by rfl)) (pw_and1 (pt_cmp (pc_dnotin (u1 hr.units) (pv 10) (pv 3)))))))
            (pss_cons (ps_set (i := 11) scLlp.nd rfl (Or.inl rfl) (pe_op op_catT (pe_dget (u1 hr.units) (pv 4) (pv 9) (fun _ _ => rfl)) (pe_tup (pa_cons (pv 10) pa_nil))))
              (pss_one (ps_if (PW.pt (pw_or (pt_cmp (pc_dnotin (u1 hr.units) (pv 10) (pv 6))) (pw_or1 (pt_cmpR (op_ltT hr.units0) (pv 11) (pe_dget (u1 hr.units) (pv 6) (pv 10) (fun _ _ => rfl)) (nomark _)))))
              (pss_one (ps_dput (u1 hr.units) (pv 6) (pv 10) (pv 11) rfl))
              pss_nil)))
            pss_nil)))))
        (pss_cons (ps_if (pt_cmpR op_eqI (pe_callB call_lenD (by rfl) T.len (by decide +kernel) (pa_cons (pv 6) pa_nil)) pe_int (nomark _))
        (pss_one (ps_break))
        pss_nil)
        (pss_cons (ps_for PassesOwn.never rfl (pi_list (pe_callTy (call_listD rfl) (by rfl) T.list (by decide +kernel) (pa_cons (pv 6) pa_nil))) (pg_name (i := 10) scLlp.nd rfl (Or.inl rfl))
        (pss_one (ps_dput (u1 hr.units) (pv 3) (pv 10) (pe_dget (u1 hr.units) (pv 6) (pv 10) (fun _ _ => rfl)) rfl)))
        (pss_one (ps_set (i := 4) scLlp.nd rfl (Or.inl rfl) (pv 6))))))))
      (pss_one (ps_ret (pv 3))))))), ?_⟩
    walk_at "rd"
    intro pd npd
    intro nw nnw
    have s1 : Same H (upd H pd (HO.dK [])) := same_upd npd
    have nw0 : H nw = none := s1.free nnw
    have s2 : Same H (upd (upd H pd (HO.dK [])) nw (HO.dK [])) := s1.trans (same_upd nnw)
    have pne : pd ≠ nw := ne_of_none upd_same nnw
    have hp2 : upd (upd H pd (HO.dK [])) nw (HO.dK []) pd = some (.dK []) := by rw [upd_ne pne]; exact upd_same
    have hw2 : upd (upd H pd (HO.dK [])) nw (HO.dK []) nw = some (.dK []) := upd_same
    refine ⟨o, _, rfl, .inl (SqL.of (s2 _ _ ho)), rfl, flI _, ?_⟩
    rw [inI]
    refine ⟨_, rfl, ?_⟩
    generalize upd (upd H pd (HO.dK [])) nw (HO.dK []) = H2 at s2 hp2 hw2
    by_cases m : s ∈ R
    rw [decide_eq_true m]
    refine iteT ⟨_, rfl, (by show 1 ≤ sizeLine; decide), fun t nt => ⟨_, rfl, _, rfl, pd, _, rfl, DPut.k (k := Sum.inl s) (same_upd nt _ _ hp2) (by decide), ?_⟩⟩
    have pnt : pd ≠ t := ne_of_none hp2 nt
    have hw3 : upd (upd H2 t (HO.tup [V.int s])) pd (HO.dK (putK [] (Sum.inl s) (V.ref t))) nw = some (.dK []) := by rw [upd_ne pne.symm, upd_ne (ne_of_none hw2 nt)]; exact hw2
    have s3 := same_ch (o := HO.dK (putK [] (Sum.inl s) (V.ref t))) (s2.trans (same_upd (o := HO.tup [V.int s]) nt)) npd
    have pr3 : Paired (IsE (upd (upd H2 t (HO.tup [V.int s])) pd (HO.dK (putK [] (Sum.inl s) (V.ref t))))) [((Sum.inl s : Key), V.ref t)] [(s, [s])] := .cons ⟨rfl, t, rfl, by rw [upd_ne pnt.symm]; exact upd_same⟩ .nil
    have hp3 : upd (upd H2 t (HO.tup [V.int s])) pd (HO.dK (putK [] (Sum.inl s) (V.ref t))) pd = some (.dK [((Sum.inl s : Key), V.ref t)]) := upd_same
    generalize upd (upd H2 t (HO.tup [V.int s])) pd (HO.dK (putK [] (Sum.inl s) (V.ref t))) = H3 at s3 hw3 pr3 hp3
    refine ⟨_, rfl, (by show 1 ≤ sizeLine; decide), fun t4 nt4 => ⟨_, rfl, _, rfl, nw, _, rfl, DPut.k (k := Sum.inl s) (same_upd nt4 _ _ hw3) (by decide), ?_⟩⟩
    have wnt : nw ≠ t4 := ne_of_none hw3 nt4
    have s4 := same_ch (o := HO.dK (putK [] (Sum.inl s) (V.ref t4))) (s3.trans (same_upd (o := HO.tup [V.int s]) nt4)) nw0
    have hp4 : upd (upd H3 t4 (HO.tup [V.int s])) nw (HO.dK (putK [] (Sum.inl s) (V.ref t4))) pd = some (.dK [((Sum.inl s : Key), V.ref t)]) := by rw [upd_ne pne, upd_ne (ne_of_none hp3 nt4)]; exact hp3
    have hw4 : upd (upd H3 t4 (HO.tup [V.int s])) nw (HO.dK (putK [] (Sum.inl s) (V.ref t4))) nw = some (.dK [((Sum.inl s : Key), V.ref t4)]) := upd_same
    have prP : Paired (IsE (upd (upd H3 t4 (HO.tup [V.int s])) nw (HO.dK (putK [] (Sum.inl s) (V.ref t4))))) [((Sum.inl s : Key), V.ref t)] [(s, [s])] := pr_upd (Paired.mapP pr3 fun _ _ q => ⟨q.1, q.2.imp fun _ z => ⟨z.1, same_upd nt4 _ _ z.2⟩⟩) (same_upd nt4 _ _ hw3) (fun _ z => by cases z)
    have prN : Paired (IsE (upd (upd H3 t4 (HO.tup [V.int s])) nw (HO.dK (putK [] (Sum.inl s) (V.ref t4))))) [((Sum.inl s : Key), V.ref t4)] [(s, [s])] := .cons ⟨rfl, t4, rfl, by rw [upd_ne wnt.symm]; exact upd_same⟩ .nil
    generalize upd (upd H3 t4 (HO.tup [V.int s])) nw (HO.dK (putK [] (Sum.inl s) (V.ref t4))) = H2 at s4 hp4 hw4 prP prN
    have pk : ∃ kvP kvN L M, H2 pd = some (.dK kvP) ∧ H2 nw = some (.dK kvN) ∧ Paired (IsE H2) kvP L ∧ Paired (IsE H2) kvN M ∧ Lay D R s 1 L M := ⟨_, _, _, _, hp4, hw4, prP, prN, Lay.start m⟩
    have s2 := s4
    clear hp4 hw4 prP prN s4 s3 pr3 hp3 hw3 nt nt4 wnt hp2 hw2
    rotate_left
    rw [decide_eq_false m]
    refine iteF ?_
    have pk : ∃ kvP kvN L M, H2 pd = some (.dK kvP) ∧ H2 nw = some (.dK kvN) ∧ Paired (IsE H2) kvP L ∧ Paired (IsE H2) kvN M ∧ Lay D R s 1 L M := ⟨_, _, [], [], hp2, hw2, .nil, .nil, Lay.none m 1⟩
    clear hp2 hw2
    all_goals
      try walk_at "rd"
      refine for_iterW ?_
      walk_at "rd"
      refine ⟨_, .inl (SqL.of (s2 _ _ ho)), ?_⟩
      rw [List.length_map]
      refine ⟨by omega, by omega, ?_⟩
      have e1 : ((R.length : Int)).toNat = R.length := by omega
      rw [e1]
      obtain ⟨kvP, kvN, L, M, hP, hN, prP, prN, ly⟩ := pk
      have kl : ∀ {L : List En}, (keysE L).Nodup → (∀ x ∈ keysE L, x ∈ R) → L.length ≤ 12 := fun {L} nd h => by
        have := ints_len nd fun x hx => hR x (h x hx)
        unfold keysE at this
        rw [List.length_map] at this
        omega
      obtain ⟨Pv, hPv⟩ : ∃ Pv : Nat → L2.St → Hp → Prop, Pv = (fun j σ H' => ∃ (nw : Addr) (kvP kvN : List (Key × V)) (L M : List En) (v5 v6 v7 v8 v9 v10 v11 : Option V), σ = [some (.ref dl), some (.int s), some (.ref o), some (.ref pd), some (.ref nw), v5, v6, v7, v8, v9, v10, v11] ∧ Same H H' ∧ H nw = none ∧ pd ≠ nw ∧ H' pd = some (.dK kvP) ∧ H' nw = some (.dK kvN) ∧ Paired (IsE H') kvP L ∧ Paired (IsE H') kvN M ∧ Lay D R s (j + 1) L M) := ⟨_, rfl⟩
      refine for_range (lo := 0) (n := R.length) Pv (by rw [hPv]; exact ⟨nw, kvP, kvN, L, M, none, none, none, none, none, none, none, rfl, s2, nw0, pne, hP, hN, prP, prN, ly⟩) (fun j σ H3 hj pv => ?_) (fun σ H3 pv => ?_)
      rotate_left
      · rw [hPv] at pv
        obtain ⟨nw, kvP, kvN, L, M, v5, v6, v7, v8, v9, v10, v11, rfl, s3, nw0, pne, hP, hN, prP, prN, ly⟩ := pv
        walk_at "rd"
        exact ret pd kvP L H3 s3 npd hP prP (ly.full (by omega) (sub_len R)) (fun e he => Nat.le_trans (ly.le e he).2 (by omega))
      clear hP hN prP prN ly kvP kvN L M nw0 pne s1 nnw s2 H2 nw
      have nxt : ∀ (nw : Addr) (kvP kvN : List (Key × V)) (L M : List En) (v5 v6 v7 v8 v9 v10 v11 : Option V) (H' : Hp), Same H H' → H nw = none → pd ≠ nw → H' pd = some (.dK kvP) → H' nw = some (.dK kvN) → Paired (IsE H') kvP L → Paired (IsE H') kvN M → Lay D R s (j + 1 + 1) L M → Pv (j + 1) [some (.ref dl), some (.int s), some (.ref o), some (.ref pd), some (.ref nw), v5, v6, v7, v8, v9, v10, v11] H' := fun nw kvP kvN L M v5 v6 v7 v8 v9 v10 v11 H' h1 h2 h3 h4 h5 h6 h7 h8 => by
        rw [hPv]
        exact ⟨nw, kvP, kvN, L, M, v5, v6, v7, v8, v9, v10, v11, rfl, h1, h2, h3, h4, h5, h6, h7, h8⟩
      rw [hPv] at pv
      obtain ⟨nw, kvP, kvN, L, M, v5, v6, v7, v8, v9, v10, v11, rfl, s3, nw0, pne, hP, hN, prP, prN, ly⟩ := pv
      clear hPv
      have keysIn : ∀ x ∈ keysE L, x ∈ R := fun x hx => by
        obtain ⟨p, hp⟩ := of_keysE hx
        exact (ly.le _ hp).1.1.mem
      walk_at "rd"
      intro fd nfd
      have fd0 : H fd = none := s3.free nfd
      have pfd : pd ≠ fd := ne_of_none hP nfd
      have wfd : nw ≠ fd := ne_of_none hN nfd
      have s34 : Same H3 (upd H3 fd (HO.dK [])) := same_upd nfd
      have hF4 : upd H3 fd (HO.dK []) fd = some (.dK []) := upd_same
      generalize upd H3 fd (HO.dK []) = H4 at s34 hF4
      have prS : ∀ {H' : Hp} {kvs : List (Key × V)} {L : List En}, Same H3 H' → Paired (IsE H3) kvs L → Paired (IsE H') kvs L := fun {H' kvs L} sm pr => Paired.mapP pr fun _ _ q => ⟨q.1, q.2.imp fun _ z => ⟨z.1, sm _ _ z.2⟩⟩
      have ul : us.length = D.length := pl.len
      obtain ⟨Pw, hPw⟩ : ∃ Pw : Nat → L2.St → Hp → Prop, Pw = (fun i σ H' => ∃ (kvF : List (Key × V)) (F : List En) (v7 v8 v9 v10 v11 : Option V), σ = [some (.ref dl), some (.int s), some (.ref o), some (.ref pd), some (.ref nw), some (.int (0 + (j : Int))), some (.ref fd), v7, v8, v9, v10, v11] ∧ Same H3 H' ∧ H' fd = some (.dK kvF) ∧ Paired (IsE H') kvF F ∧ Fur R L M (fun x y => ∃ d ∈ D.take i, (x = d.1 ∧ y = d.2) ∨ (x = d.2 ∧ y = d.1)) F) := ⟨_, rfl⟩
      refine ⟨_, rfl, dl, rfl, ⟨_, SqL.of (s34 _ _ (s3 _ _ hdl))⟩, for_list (K := K) (a := dl) (xs := us) Pw (by rw [hPw]; exact ⟨[], [], v7, v8, v9, v10, v11, rfl, s34, hF4, .nil, (Fur.start R L M).more fun x y => ⟨fun h => h.elim, fun ⟨d, hd, _⟩ => (by rw [List.take_zero] at hd; cases hd)⟩⟩) (fun i σ H' _ pv => by rw [hPw] at pv; obtain ⟨_, _, _, _, _, _, _, _, sm, _⟩ := pv; exact SqL.of (sm _ _ (s3 _ _ hdl))) (fun i v σ H5 gv pv => ?_) (fun σ H5 pv => ?_)⟩
      rotate_left
      · rw [hPw] at pv
        obtain ⟨kvF, F, v7, v8, v9, v10, v11, rfl, s35, hF, prF, fu⟩ := pv
        have fuA : Fur R L M (Adj D) F := fu.more fun x y => by
          rw [ul, List.take_length]
          constructor
          · rintro ⟨⟨d1, d2⟩, hd, ⟨rfl, rfl⟩ | ⟨rfl, rfl⟩⟩
            · exact .inl hd
            · exact .inr hd
          · rintro (h | h)
            · exact ⟨_, h, .inl ⟨rfl, rfl⟩⟩
            · exact ⟨_, h, .inr ⟨rfl, rfl⟩⟩
        have lenF : kvF.length = F.length := Paired.length prF
        walk_at "rd"
        refine ⟨_, hF, ?_⟩
        by_cases z0 : F = []
        · rw [if_pos (by rw [lenF, z0]; rfl)]
          subst z0
          walk_at "rd"
          exact ret pd kvP L H5 (s3.trans s35) npd (s35 _ _ hP) (prS s35 prP) (ly.stop (Nat.le_add_left _ _) fuA) (fun e he => Nat.le_trans (ly.le e he).2 (by omega))
        have ly2 := ly.next (Nat.le_add_left _ _) fuA z0
        have n0 : ¬ (kvF.length : Int) = 0 := fun z => z0 (List.length_eq_zero_iff.mp (by omega))
        rw [if_neg n0]
        refine for_iterW ?_
        walk_at "rd"
        refine ⟨_, .inl hF, fun ls nls => ?_⟩
        have e0 : kvF.map (fun kv => kV kv.1) = (keysE F).map V.int := by
          rw [show kvF.map (fun kv => kV kv.1) = (kvF.map (·.1)).map kV by rw [List.map_map]; rfl, pr_keys prF, List.map_map]
          rfl
        rw [e0]
        have s56 : Same H5 (upd H5 ls (HO.lst ((keysE F).map V.int))) := same_upd nls
        have hls : upd H5 ls (HO.lst ((keysE F).map V.int)) ls = some (.lst ((keysE F).map V.int)) := upd_same
        generalize upd H5 ls (HO.lst ((keysE F).map V.int)) = H6 at s56 hls ⊢
        have prT : ∀ {H' : Hp} {kvs : List (Key × V)} {L : List En}, Same H5 H' → Paired (IsE H5) kvs L → Paired (IsE H') kvs L := fun {H' kvs L} sm pr => Paired.mapP pr fun _ _ q => ⟨q.1, q.2.imp fun _ z => ⟨z.1, sm _ _ z.2⟩⟩
        have s06 := (s3.trans s35).trans s56
        have hP6 := s56 _ _ (s35 _ _ hP)
        have hF6 := s56 _ _ hF
        have lsp : ls ≠ pd := fun z => by rw [z] at nls; rw [s35 _ _ hP] at nls; cases nls
        have lkL := kl ly.nd keysIn
        have lkF := kl fu.nd fun x hx => by
          obtain ⟨p, hp⟩ := of_keysE hx
          exact (fu.of _ hp).1
        obtain ⟨Px, hPx⟩ : ∃ Px : Nat → L2.St → Hp → Prop, Px = (fun m σ H' => ∃ (kvQ : List (Key × V)) (v10 : Option V), σ = [some (.ref dl), some (.int s), some (.ref o), some (.ref pd), some (.ref nw), some (.int (0 + (j : Int))), some (.ref fd), v7, v8, v9, v10, v11] ∧ Same H H' ∧ H' pd = some (.dK kvQ) ∧ Paired (IsE H') kvQ (L ++ F.take m) ∧ H' fd = some (.dK kvF) ∧ Paired (IsE H') kvF F ∧ H' ls = some (.lst ((keysE F).map V.int))) := ⟨_, rfl⟩
        refine ⟨⟨_, SqL.of hls⟩, for_list (K := K) (a := ls) (xs := (keysE F).map V.int) Px (by rw [hPx]; exact ⟨kvP, v10, rfl, s06, hP6, by rw [List.take_zero, List.append_nil]; exact prT s56 (prS s35 prP), hF6, prT s56 prF, hls⟩) (fun i σ H' _ pv => by rw [hPx] at pv; obtain ⟨_, _, _, _, _, _, _, _, hl⟩ := pv; exact SqL.of hl) (fun i v σ H7 gv pv => ?_) (fun σ H7 pv => ?_)⟩
        · have nxx : ∀ (kvQ : List (Key × V)) (v10 : Option V) (H' : Hp), Same H H' → H' pd = some (.dK kvQ) → Paired (IsE H') kvQ (L ++ F.take (i + 1)) → H' fd = some (.dK kvF) → Paired (IsE H') kvF F → H' ls = some (.lst ((keysE F).map V.int)) → Px (i + 1) [some (.ref dl), some (.int s), some (.ref o), some (.ref pd), some (.ref nw), some (.int (0 + (j : Int))), some (.ref fd), v7, v8, v9, v10, v11] H' := fun kvQ v10 H' h1 h2 h3 h4 h5 h6 => by
            rw [hPx]
            exact ⟨kvQ, v10, rfl, h1, h2, h3, h4, h5, h6⟩
          rw [hPx] at pv
          obtain ⟨kvQ, v10, rfl, s07, hP7, prQ, hF7, prF7, hls7⟩ := pv
          rw [List.getElem?_map] at gv
          unfold keysE at gv
          rw [List.getElem?_map] at gv
          cases gd : F[i]? with
          | none => rw [gd] at gv; cases gv
          | some e =>
            rw [gd] at gv
            have ev := Option.some.inj gv
            subst ev
            have eF := List.mem_of_getElem? gd
            rw [List.take_add_one, gd, ← List.append_assoc] at nxx
            walk_at "rd"
            rcases pr_get (x := e.1) prF7 with ⟨_, n⟩ | ⟨pe, te, mp, ev0, hte⟩
            · exact absurd (keysE_mem (p := e.2) eF) n
            have epe : pe = e.2 := keys_uq fu.nd mp eF
            subst epe
            have ne : e.1 ∉ keysE (L ++ F.take i) := fun z => by
              unfold keysE at z
              rw [List.map_append] at z
              rcases List.mem_append.mp z with z | z
              · exact (fu.of _ eF).2.1 z
              · obtain ⟨g, hg, eg⟩ := List.mem_map.mp z
                obtain ⟨i2, h2⟩ := List.getElem?_of_mem hg
                have h3 := (List.getElem?_eq_some_iff.mp h2).1
                rw [List.length_take] at h3
                rw [List.getElem?_take_of_lt (by omega)] at h2
                have q1 : (keysE F)[i2]? = some e.1 := by unfold keysE; rw [List.getElem?_map, h2]; exact congrArg some eg
                have q2 : (keysE F)[i]? = some e.1 := by unfold keysE; rw [List.getElem?_map, gd]; rfl
                have b1 := List.getElem?_eq_some_iff.mp q1
                have b2 := List.getElem?_eq_some_iff.mp q2
                have := List.pairwise_iff_getElem.mp fu.nd i2 i b1.1 b2.1 (by omega)
                exact this (b1.2.trans b2.2.symm)
            have vn : valV kvQ (Sum.inl e.1 : Key) = none := by
              rcases pr_get (x := e.1) prQ with ⟨h, _⟩ | ⟨p, t, h, _⟩
              · exact h
              · exact absurd (keysE_mem h) ne
            have lQ : kvQ.length ≤ 100 := by
              rw [Paired.length prQ, List.length_append, List.length_take]
              omega
            refine ⟨_, rfl, _, rfl, fd, .ref te, rfl, (by rw [← ev0]; exact DGet.k (k := Sum.inl e.1) hF7), _, rfl, _, rfl, pd, _, rfl, DPut.k (k := Sum.inl e.1) hP7 (len_big (by omega)), ?_⟩
            rw [putK_new _ vn]
            have nt : ∀ xs, HO.dK kvQ ≠ .tup xs := fun _ z => by cases z
            refine nxx _ _ _ (same_ch s07 npd) upd_same (Paired.snoc (pr_upd prQ hP7 nt) ⟨rfl, te, rfl, by rw [upd_ne (ne_of hte hP7 (by intro z; cases z))]; exact hte⟩) (by rw [upd_ne pfd.symm]; exact hF7) (pr_upd prF7 hP7 nt) (by rw [upd_ne lsp]; exact hls7)
        · rw [hPx] at pv
          obtain ⟨kvQ, v10, rfl, s07, hP7, prQ, hF7, prF7, hls7⟩ := pv
          rw [List.length_map, show (keysE F).length = F.length from List.length_map _, List.take_length] at prQ
          walk_at "rd"
          exact nxt fd kvQ kvF (L ++ F) F _ _ _ _ _ _ _ H7 s07 fd0 pfd hP7 hF7 prQ prF7 ly2
      clear v7 v8 v9 v10 v11
      have nxw : ∀ (kvF : List (Key × V)) (F : List En) (v7 v8 v9 v10 v11 : Option V) (H' : Hp), Same H3 H' → H' fd = some (.dK kvF) → Paired (IsE H') kvF F → Fur R L M (fun x y => ∃ d ∈ D.take (i + 1), (x = d.1 ∧ y = d.2) ∨ (x = d.2 ∧ y = d.1)) F → Pw (i + 1) [some (.ref dl), some (.int s), some (.ref o), some (.ref pd), some (.ref nw), some (.int (0 + (j : Int))), some (.ref fd), v7, v8, v9, v10, v11] H' := fun kvF F v7 v8 v9 v10 v11 H' h1 h2 h3 h4 => by
        rw [hPw]
        exact ⟨kvF, F, v7, v8, v9, v10, v11, rfl, h1, h2, h3, h4⟩
      rw [hPw] at pv
      obtain ⟨kvF, F, v7, v8, v9, v10, v11, rfl, s35, hF, prF, fu⟩ := pv
      clear hPw
      obtain ⟨d, gd, td, rfl, htd⟩ := pl.get gv
      have htd5 := s35 _ _ (s3 _ _ htd)
      walk_at "rd"
      refine ⟨_, SqT.of htd5, rfl, _, _, rfl, _, _, rfl, rfl, ?_⟩
      refine for_iterW ?_
      unfold iTup
      walk_at "rd"
      refine ⟨by decide, fun p0 n0 => ⟨by decide, fun p1 n1 => ⟨by decide, fun p2 n2 => ⟨⟨_, SqT.of upd_same⟩, ?_⟩⟩⟩⟩
      have s56 : Same H5 (upd (upd (upd H5 p0 (HO.tup [V.int d.fst, V.int d.snd])) p1 (HO.tup [V.int d.snd, V.int d.fst])) p2 (HO.tup [V.ref p0, V.ref p1])) := (same_upd n0).trans ((same_upd n1).trans (same_upd n2))
      have h60 : upd (upd (upd H5 p0 (HO.tup [V.int d.fst, V.int d.snd])) p1 (HO.tup [V.int d.snd, V.int d.fst])) p2 (HO.tup [V.ref p0, V.ref p1]) p0 = some (.tup [V.int d.fst, V.int d.snd]) := same_upd n2 _ _ (same_upd n1 _ _ upd_same)
      have h61 : upd (upd (upd H5 p0 (HO.tup [V.int d.fst, V.int d.snd])) p1 (HO.tup [V.int d.snd, V.int d.fst])) p2 (HO.tup [V.ref p0, V.ref p1]) p1 = some (.tup [V.int d.snd, V.int d.fst]) := same_upd n2 _ _ upd_same
      have h62 : upd (upd (upd H5 p0 (HO.tup [V.int d.fst, V.int d.snd])) p1 (HO.tup [V.int d.snd, V.int d.fst])) p2 (HO.tup [V.ref p0, V.ref p1]) p2 = some (.tup [V.ref p0, V.ref p1]) := upd_same
      generalize upd (upd (upd H5 p0 (HO.tup [V.int d.fst, V.int d.snd])) p1 (HO.tup [V.int d.snd, V.int d.fst])) p2 (HO.tup [V.ref p0, V.ref p1]) = H6 at s56 h60 h61 h62 ⊢
      clear n0 n1 n2
      obtain ⟨Em, hEm⟩ : ∃ Em : Nat → Int → Int → Prop, Em = (fun m x y => (∃ d ∈ D.take i, (x = d.1 ∧ y = d.2) ∨ (x = d.2 ∧ y = d.1)) ∨ (1 ≤ m ∧ x = d.1 ∧ y = d.2) ∨ (2 ≤ m ∧ x = d.2 ∧ y = d.1)) := ⟨_, rfl⟩
      have tkD : D.take (i + 1) = D.take i ++ [d] := by rw [List.take_add_one, gd]; rfl
      obtain ⟨Pz, hPz⟩ : ∃ Pz : Nat → L2.St → Hp → Prop, Pz = (fun m σ H' => ∃ (kvF : List (Key × V)) (F : List En) (v9 v10 v11 : Option V), σ = [some (.ref dl), some (.int s), some (.ref o), some (.ref pd), some (.ref nw), some (.int (0 + (j : Int))), some (.ref fd), some (.int d.1), some (.int d.2), v9, v10, v11] ∧ Same H3 H' ∧ H' fd = some (.dK kvF) ∧ Paired (IsE H') kvF F ∧ Fur R L M (Em m) F ∧ H' p0 = some (.tup [V.int d.1, V.int d.2]) ∧ H' p1 = some (.tup [V.int d.2, V.int d.1]) ∧ H' p2 = some (.tup [V.ref p0, V.ref p1])) := ⟨_, rfl⟩
      refine for_tup (K := K) (a := p2) (xs := [V.ref p0, V.ref p1]) Pz ?_ (fun m σ H' _ pv => by rw [hPz] at pv; obtain ⟨_, _, _, _, _, _, _, _, _, _, _, _, h⟩ := pv; exact SqT.of h) (fun m v σ H7 gv pv => ?_) (fun σ H7 pv => ?_)
      · rw [hPz]
        refine ⟨kvF, F, v9, v10, v11, rfl, s35.trans s56, s56 _ _ hF, Paired.mapP prF fun _ _ q => ⟨q.1, q.2.imp fun _ z => ⟨z.1, s56 _ _ z.2⟩⟩, fu.more fun x y => ?_, h60, h61, h62⟩
        rw [hEm]
        constructor
        · exact fun h => .inl h
        · rintro (h | ⟨h, _⟩ | ⟨h, _⟩)
          · exact h
          · exact absurd h (by decide)
          · exact absurd h (by decide)
      rotate_left
      · rw [hPz] at pv
        obtain ⟨kvF, F, v9, v10, v11, rfl, s37, hF7, prF7, fu7, _⟩ := pv
        refine nxw kvF F _ _ _ _ _ H7 s37 hF7 prF7 (fu7.more fun x y => ?_)
        rw [hEm, tkD]
        constructor
        · rintro (⟨e, he, h⟩ | ⟨_, h⟩ | ⟨_, h⟩)
          · exact ⟨e, List.mem_append_left _ he, h⟩
          · exact ⟨d, List.mem_append_right _ List.mem_cons_self, .inl h⟩
          · exact ⟨d, List.mem_append_right _ List.mem_cons_self, .inr h⟩
        · rintro ⟨e, he, h⟩
          rcases List.mem_append.mp he with he | he
          · exact .inl ⟨e, he, h⟩
          · rw [List.mem_singleton.mp he] at h
            rcases h with h | h
            · exact .inr (.inl ⟨Nat.le_succ 1, h⟩)
            · exact .inr (.inr ⟨Nat.le_refl 2, h⟩)
      have nxz : ∀ (kvF : List (Key × V)) (F : List En) (v9 v10 v11 : Option V) (H' : Hp), Same H3 H' → H' fd = some (.dK kvF) → Paired (IsE H') kvF F → Fur R L M (Em (m + 1)) F → H' p0 = some (.tup [V.int d.1, V.int d.2]) → H' p1 = some (.tup [V.int d.2, V.int d.1]) → H' p2 = some (.tup [V.ref p0, V.ref p1]) → Pz (m + 1) [some (.ref dl), some (.int s), some (.ref o), some (.ref pd), some (.ref nw), some (.int (0 + (j : Int))), some (.ref fd), some (.int d.1), some (.int d.2), v9, v10, v11] H' := fun kvF F v9 v10 v11 H' h1 h2 h3 h4 h5 h6 h7 => by
        rw [hPz]
        exact ⟨kvF, F, v9, v10, v11, rfl, h1, h2, h3, h4, h5, h6, h7⟩
      rw [hPz] at pv
      clear hPz
      clear h60 h61 h62 v9 v10 v11 hF prF fu kvF F
      obtain ⟨kvF, F, v9, v10, v11, rfl, s37, hF, prF, fu, h60, h61, h62⟩ := pv
      obtain ⟨u, y, tz, rfl, htz, fstep⟩ : ∃ u y tz, v = V.ref tz ∧ H7 tz = some (.tup [.int u, .int y]) ∧ (∀ F', Fur R L M (fun a b => Em m a b ∨ a = u ∧ b = y) F' → Fur R L M (Em (m + 1)) F') := by
        match m, gv with
        | 0, gv =>
          have := Option.some.inj gv
          subst this
          refine ⟨_, _, _, rfl, h60, fun F' h => h.more fun x y => ?_⟩
          rw [hEm]
          constructor
          · rintro ((h | ⟨h, _⟩ | ⟨h, _⟩) | h)
            · exact .inl h
            · exact absurd h (by decide)
            · exact absurd h (by decide)
            · exact .inr (.inl ⟨by decide, h⟩)
          · rintro (h | ⟨_, h⟩ | ⟨h, _⟩)
            · exact .inl (.inl h)
            · exact .inr h
            · exact absurd h (by decide)
        | 1, gv =>
          have := Option.some.inj gv
          subst this
          refine ⟨_, _, _, rfl, h61, fun F' h => h.more fun x y => ?_⟩
          rw [hEm]
          constructor
          · rintro ((h | ⟨_, h⟩ | ⟨h, _⟩) | h)
            · exact .inl h
            · exact .inr (.inl ⟨by decide, h⟩)
            · exact absurd h (by decide)
            · exact .inr (.inr ⟨by decide, h⟩)
          · rintro (h | ⟨_, h⟩ | ⟨_, h⟩)
            · exact .inl (.inl h)
            · exact .inl (.inr (.inl ⟨by decide, h⟩))
            · exact .inr h
        | n + 2, gv => exact absurd gv (by simp)
      walk_at "rd"
      refine ⟨_, SqT.of htz, rfl, _, _, rfl, _, _, rfl, rfl, ?_⟩
      walk_at "rd"
      have hN7 := s37 _ _ hN
      have hP7 := s37 _ _ hP
      have prN7 := prS s37 prN
      have prP7 := prS s37 prP
      have ndM : ∀ {u : Int} {pu : List Int}, (u, pu) ∈ M → ∀ w ∈ M, w.1 = u → w.2 = pu := fun {u pu} h w hw e => by
        have l1 := (ly.le _ ((ly.mm _).mp h).1).1
        have l2 := (ly.le _ ((ly.mm _).mp hw).1).1
        rw [e] at l2
        exact l2.uniq l1
      have skipK : (u ∉ keysE M ∨ y ∉ R ∨ y ∈ keysE L) → Pz (m + 1) [some (.ref dl), some (.int s), some (.ref o), some (.ref pd), some (.ref nw), some (.int (0 + (j : Int))), some (.ref fd), some (.int d.1), some (.int d.2), some (.int u), some (.int y), v11] H7 := fun n => nxz kvF F _ _ _ H7 s37 hF prF (fstep _ (fu.skip u y n)) h60 h61 h62
      refine ⟨_, rfl, _, rfl, nw, _, rfl, DGet.k (k := Sum.inl u) hN7, ?_⟩
      rcases pr_get (x := u) prN7 with ⟨e, n⟩ | ⟨pu, tu, mu, eu, htu⟩
      · rw [e]
        refine ⟨_, rfl, iteF ?_⟩
        try rw [if_neg id]
        exact skipK (.inl n)
      rw [eu]
      refine ⟨_, rfl, iteT ?_⟩
      refine ⟨o, _, rfl, .inl (SqL.of (s37 _ _ (s3 _ _ ho))), rfl, flI _, ?_⟩
      rw [inI]
      refine ⟨_, rfl, ?_⟩
      by_cases yR : y ∈ R
      rotate_left
      · rw [decide_eq_false yR]
        refine iteF ?_
        try rw [if_neg id]
        exact skipK (.inr (.inl yR))
      rw [decide_eq_true yR]
      refine iteT ?_
      refine ⟨_, rfl, _, rfl, pd, _, rfl, DGet.k (k := Sum.inl y) hP7, ?_⟩
      rcases pr_get (x := y) prP7 with ⟨e, nL⟩ | ⟨_, _, mL, e, _⟩
      rotate_left
      · rw [e]
        refine ⟨_, rfl, iteF ?_⟩
        try rw [if_neg id]
        exact skipK (.inr (.inr (keysE_mem mL)))
      rw [e]
      refine ⟨_, rfl, iteT ?_⟩
      have luM := (ly.mm _).mp mu
      have lu := luM.2
      have lj : j + 1 ≤ 64 := by omega
      have puz : pu ≠ [] := fun z => by
        rw [z] at lu
        cases lu
      refine ⟨_, rfl, _, rfl, nw, .ref tu, rfl, (by rw [← eu]; exact DGet.k (k := Sum.inl u) hN7), (by show 1 ≤ sizeLine; decide), fun t1 nt1 => ?_⟩
      refine ⟨tu, t1, pu.map V.int, [.int y], rfl, rfl, SqT.of (same_upd nt1 _ _ htu), SqT.of upd_same, (fun z => puz (List.map_eq_nil_iff.mp z)), Nat.le_of_lt (len_big (by rw [List.length_map]; show pu.length + 1 ≤ 100000; simp only at lu; omega)), (fun z => by cases z), fun _ t2 nt2 => ?_⟩
      have s78 : Same H7 (upd (upd H7 t1 (HO.tup [V.int y])) t2 (HO.tup (pu.map V.int ++ [V.int y]))) := (same_upd nt1).trans (same_upd nt2)
      have ht2 : upd (upd H7 t1 (HO.tup [V.int y])) t2 (HO.tup (pu.map V.int ++ [V.int y])) t2 = some (.tup ((pu ++ [y]).map V.int)) := by rw [List.map_append]; exact upd_same
      generalize upd (upd H7 t1 (HO.tup [V.int y])) t2 (HO.tup (pu.map V.int ++ [V.int y])) = H8 at s78 ht2 ⊢
      have s38 := s37.trans s78
      have hF8 := s78 _ _ hF
      have prF8 : Paired (IsE H8) kvF F := Paired.mapP prF fun _ _ q => ⟨q.1, q.2.imp fun _ z => ⟨z.1, s78 _ _ z.2⟩⟩
      have ntF : ∀ xs, HO.dK kvF ≠ .tup xs := fun _ z => by cases z
      have fd3 := nfd
      have tkeep : ∀ {q : Addr} {xs : List V} {kv' : List (Key × V)}, H7 q = some (.tup xs) → upd H8 fd (HO.dK kv') q = some (.tup xs) := fun {q xs kv'} h => by
        rw [upd_ne (ne_of (s78 _ _ h) hF8 (by intro z; cases z))]
        exact s78 _ _ h
      have lkF := kl fu.nd fun x hx => by
        obtain ⟨p, hp⟩ := of_keysE hx
        exact (fu.of _ hp).1
      have lenF : kvF.length = F.length := Paired.length prF
      refine ⟨_, rfl, _, rfl, fd, _, rfl, DGet.k (k := Sum.inl y) hF8, ?_⟩
      rcases pr_get (x := y) prF8 with ⟨e, nF⟩ | ⟨py, ty, mF, ey, hty⟩
      · rw [e]
        refine ⟨_, rfl, iteT ?_⟩
        rw [if_pos trivial]
        refine ⟨_, rfl, _, rfl, _, rfl, fd, _, rfl, DPut.k (k := Sum.inl y) hF8 (len_big (by omega)), ?_⟩
        rw [putK_new _ e]
        exact nxz _ (F ++ [(y, pu ++ [y])]) _ _ _ _ (same_ch s38 fd3) upd_same (Paired.snoc (pr_upd prF8 hF8 ntF) ⟨rfl, t2, rfl, by rw [upd_ne (ne_of ht2 hF8 (by intro z; cases z))]; exact ht2⟩) (fstep _ (fu.new (ndM mu) mu yR nL nF)) (tkeep h60) (tkeep h61) (tkeep h62)
      rw [ey]
      refine ⟨_, rfl, iteF ?_⟩
      refine ⟨_, rfl, _, rfl, fd, .ref ty, rfl, (by rw [← ey]; exact DGet.k (k := Sum.inl y) hF8), ?_⟩
      refine ⟨t2, ty, pu ++ [y], py, rfl, rfl, SqT.of ht2, SqT.of hty, _, rfl, ?_⟩
      have lpy : py.length = (pu ++ [y]).length := by
        obtain ⟨_, _, w, hw, _, e⟩ := fu.of _ mF
        have lw := ((ly.mm _).mp hw).2
        simp only at e lu
        rw [e, List.length_append, List.length_append, lw, lu]
      cases lx : HT.lexLt (pu ++ [y]) py with
      | true =>
        refine iteT ?_
        have sl : sle (pu ++ [y]) py := .inr (.inr ⟨lpy.symm, (ltL_lex _ _).mp lx⟩)
        refine ⟨_, rfl, _, rfl, _, rfl, fd, _, rfl, DPut.k (k := Sum.inl y) hF8 (len_big (by omega)), ?_⟩
        have pe : putK kvF (Sum.inl y : Key) (V.ref t2) = kvF.map (fun q => if q.1 = (Sum.inl y : Key) then (q.1, V.ref t2) else q) := by
          unfold putK
          rw [valV_any, ey]
          rfl
        rw [pe]
        have ht2' : ∀ kv', upd H8 fd (HO.dK kv') t2 = some (.tup ((pu ++ [y]).map V.int)) := fun kv' => by
          rw [upd_ne (ne_of ht2 hF8 (by intro z; cases z))]
          exact ht2
        exact nxz _ (setE F y (pu ++ [y])) _ _ _ _ (same_ch s38 fd3) upd_same (pr_set (ht2' _) (pr_upd prF8 hF8 ntF)) (fstep _ (fu.better (ndM mu) mu yR nL mF (fun q hq => keys_uq fu.nd hq mF) sl)) (tkeep h60) (tkeep h61) (tkeep h62)
      | false =>
        refine iteF ?_
        have sl : sle py (pu ++ [y]) := by
          rcases ltL_tri py (pu ++ [y]) with z | z | z
          · exact .inl z
          · exact .inr (.inr ⟨lpy, z⟩)
          · rw [(ltL_lex _ _).mpr z] at lx
            cases lx
        exact nxz kvF F _ _ _ H8 s38 hF8 prF8 (fstep _ (fu.worse (ndM mu) mF sl)) (s78 _ _ h60) (s78 _ _ h61) (s78 _ _ h62)
end

abbrev sFrr : Stmt := topS 24
abbrev sLaw : Stmt := topS 25
theorem mm2_same {r : Nat} {D : List Pr} (h : Drs r D) : D.map mm2 = D := by
  refine (List.map_congr_left fun d hd => ?_).trans (List.map_id _)
  have := (h.ok d hd).2.1
  unfold mm2
  rw [if_neg (by omega), if_pos (by omega)]
  rfl
theorem kdO_seq {K : PySem.W.Frag} {H : Hp} {t : Addr} {x : Int} {R : List Int} (h : H t = some (kdO x (R.map V.int))) : SeqI K H t R := by
  unfold kdO at h
  by_cases e : x % 2 = 1
  · rw [if_pos e] at h; exact .inr (SqT.of h)
  · rw [if_neg e] at h; exact .inl (SqL.of h)
theorem kdO_sm {H : Hp} {t u : Addr} {x : Int} {R : List Int} (h : H t = some (kdO x (R.map V.int))) (k : H u = some (kdO x (R.map V.int))) (l : R.length ≤ 100000) (n : Nat) : Sm H (n + 1) (.ref t) (.ref u) := by
  unfold kdO at h k
  by_cases e : x % 2 = 1
  · rw [if_pos e] at h k
    exact sm_flatsT h k (flat_intsV R) (by rw [List.length_map]; exact l) n
  · rw [if_neg e] at h k
    exact sm_flats h k (flat_intsV R) (by rw [List.length_map]; exact l) n
section
variable {P : Program} {w : World} {K : PySem.W.Frag} {mg : Str → Option Value} {base : Heap}
theorem scFrr : FnScope ["house", "doors", "rooms", "start", "chosen", "number", "paths", "asked", "goal", "due"] ["house", "doors", "rooms", "start", "chosen", "number"] (defScope sFrr) := ⟨rfl, rfl, rfl, by decide +kernel, rfl, by decide +kernel, by decide +kernel⟩
def spFrr (C : Addr) : Sp := fun vs H Q _ => ∃ (p dl o : Addr) (us : List V) (r : Nat) (s x : Int) (R : List Int) (D : List Pr) (own : List Addr), vs = [.ref p, .ref dl, .int r, .int s, .ref o, .int x] ∧ HouseAt C H p r D own ∧ H dl = some (.lst us) ∧ PL H us D ∧ H o = some (.lst (R.map V.int)) ∧ R.length < 64 ∧ (∀ x ∈ R, 0 ≤ x ∧ x < r) ∧ ∀ H', Same H H' → Q (.bl true) H'
theorem ok_frr {f C f1 f2 f3 f4 f5 : Addr} {fd fd1 fd2 fd3 fd4 fd5 : FuncData} (F : Fun K "_law_from_right" "_law_from_right" sFrr f fd) (T : Bi mg) (d__law_least_paths : Df P w K mg base "_law_least_paths" ["doors", "start", "inside"] 1 (spLlp K) f1 fd1) (d__law_as_passed : Df P w K mg base "_law_as_passed" ["chosen", "number"] 1 spAsP f2 fd2)
    (d_first_path : Df P w K mg base "first_path" ["house", "start", "goal", "inside"] 3 (spFst K C) f3 fd3) (d__law_same : Df P w K mg base "_law_same" ["got", "due"] 3 (spSame 2) f4 fd4) (d__law_doors_right : Df P w K mg base "_law_doors_right" ["path"] 4 spDri f5 fd5) : FnOk P w K mg base CX0 5 f fd ["house", "doors", "rooms", "start", "chosen", "number"] (spFrr C) := by
  refine F.ok scFrr (fun vs H Q E h => ?_) (fun cdv A outer s0 H vs Q E hr h => ?_)
  · obtain ⟨p, dl, o, us, r, s, x, R, D, own, rfl, _⟩ := h
    rfl
  · obtain ⟨p, dl, o, us, r, s, x, R, D, own, rfl, hh, hdl, pl, ho, h64, hR, ret⟩ := h
    refine ⟨_, (pss_cons (ps_set (i := 6) scFrr.nd rfl (Or.inl rfl) (pe_call d__law_least_paths.ok (hr.mono (by decide)) (by rfl) d__law_least_paths.at_ d__law_least_paths.kp d__law_least_paths.b .nil pass0 (pa_cons (pv 1) (pa_cons (pv 3) (pa_cons (pv 4) pa_nil)))))
      (pss_cons (ps_set (i := 7) scFrr.nd rfl (Or.inl rfl) (pe_call d__law_as_passed.ok (hr.mono (by decide)) (by rfl) d__law_as_passed.at_ d__law_as_passed.kp d__law_as_passed.b .nil pass0 (pa_cons (pv 4) (pa_cons (pv 5) pa_nil))))
      (pss_cons (ps_for PassesOwn.never rfl (pi_range1 (by rfl) T.range (pa_cons (pv 2) pa_nil)) (pg_name (i := 8) scFrr.nd rfl (Or.inl rfl))
      (pss_cons (ps_set (i := 9) scFrr.nd rfl (Or.inl rfl) (pe_dget1 (u1 hr.units) (pv 6) (pv 8) ⟨rfl, by rfl, by rfl, by rfl⟩))
        (pss_cons (ps_if (pt_not (pt_val (pe_call d__law_same.ok (hr.mono (by decide)) (by rfl) d__law_same.at_ d__law_same.kp d__law_same.b .nil pass0 (pa_cons (pe_call d_first_path.ok (hr.mono (by decide)) (by rfl) d_first_path.at_ d_first_path.kp d_first_path.b .nil pass0 (pa_cons (pv 0) (pa_cons (pv 3) (pa_cons (pv 8) (pa_cons (pv 7) pa_nil))))) (pa_cons (pv 9) pa_nil)))))
        (pss_one (ps_ret pe_bl))
        pss_nil)
        (pss_one (ps_if (PW.pt (pw_and (pt_cmpR op_notN (pv 9) pe_non (nomark _)) (pw_and1 (pt_not (pt_val (pe_call d__law_doors_right.ok (hr.mono (by decide)) (by rfl) d__law_doors_right.at_ d__law_doors_right.kp d__law_doors_right.b .nil pass0 (pa_cons (pv 9) pa_nil)))))))
        (pss_one (ps_ret pe_bl))
        pss_nil)))))
      (pss_one (ps_ret (pe_call d__law_same.ok (hr.mono (by decide)) (by rfl) d__law_same.at_ d__law_same.kp d__law_same.b .nil pass0 (pa_cons (pv 7) (pa_cons (pe_call d__law_as_passed.ok (hr.mono (by decide)) (by rfl) d__law_as_passed.at_ d__law_as_passed.kp d__law_as_passed.b .nil pass0 (pa_cons (pv 4) (pa_cons (pv 5) pa_nil))) pa_nil)))))))), ?_⟩
    walk_at "rd"
    refine ⟨dl, o, us, s, R, r, D, rfl, hdl, pl, hh.ok, hh.r12, ho, h64, hR, fun d kvs L H1 s1 nd hd prL al l64 => ?_⟩
    walk_at "rd"
    refine ⟨o, x, R, rfl, s1 _ _ ho, fun t H2 s2 nt ht => ?_⟩
    have s02 := s1.trans s2
    have hd2 := s2 _ _ hd
    have prL2 : Paired (IsE H2) kvs L := Paired.mapP prL fun _ _ q => ⟨q.1, q.2.imp fun _ z => ⟨z.1, s2 _ _ z.2⟩⟩
    have r12 := hh.r12
    walk_at "rd"
    obtain ⟨Pv, hPv⟩ : ∃ Pv : Nat → L2.St → Hp → Prop, Pv = (fun j σ H' => ∃ (v8 v9 : Option V), σ = [some (.ref p), some (.ref dl), some (.int r), some (.int s), some (.ref o), some (.int x), some (.ref d), some (.ref t), v8, v9] ∧ Same H2 H') := ⟨_, rfl⟩
    refine ⟨_, rfl, (r : Int), rfl, by omega, by omega, for_range (lo := 0) (n := ((r : Int)).toNat) Pv (by rw [hPv]; exact ⟨none, none, rfl, Same.refl _⟩) (fun j σ H3 hj pv => ?_) (fun σ H3 pv => ?_)⟩
    · have nxt : ∀ (v8 v9 : Option V) (H' : Hp), Same H2 H' → Pv (j + 1) [some (.ref p), some (.ref dl), some (.int r), some (.int s), some (.ref o), some (.int x), some (.ref d), some (.ref t), v8, v9] H' := fun v8 v9 H' h => by
        rw [hPv]
        exact ⟨v8, v9, rfl, h⟩
      rw [hPv] at pv
      obtain ⟨v8, v9, rfl, s23⟩ := pv
      have hd3 := s23 _ _ hd2
      have prL3 : Paired (IsE H3) kvs L := Paired.mapP prL2 fun _ _ q => ⟨q.1, q.2.imp fun _ z => ⟨z.1, s23 _ _ z.2⟩⟩
      walk_at "rd"
      unfold tDGet1
      walk_at "rd"
      refine ⟨.inl ⟨kvs, .inl hd3⟩, _, DGet.k (k := Sum.inl (0 + (j : Int))) hd3, ?_⟩
      refine ⟨p, t, s, 0 + (j : Int), R, r, D, own, rfl, hh.same (s02.trans s23), kdO_seq (s23 _ _ ht), hR, fun v H4 s4 hv => ?_⟩
      rcases pr_get (x := 0 + (j : Int)) prL3 with ⟨e, n⟩ | ⟨q, tq, m, e, hq⟩
      · rw [e]
        rcases hv with ⟨q, _, _, _, lq⟩ | ⟨rfl, _⟩
        · exact absurd lq.1 (al.no.mp n q)
        · refine same_ok (Sm.flat rfl) ⟨true, rfl, iteF ?_⟩
          rw [if_neg (by simp), if_neg id]
          exact nxt _ _ H4 (s23.trans s4)
      · rw [e]
        have lq := al.le _ m
        have l6 := l64 _ m
        have lne := lq.1.ne
        rcases hv with ⟨q2, t2, rfl, h2, lq2⟩ | ⟨_, n⟩
        · have eq2 := lq2.uniq lq
          simp only at eq2
          subst eq2
          refine same_ok (sm_flatsT h2 (s4 _ _ hq) (flat_intsV _) (by rw [List.length_map]; simp only at l6; omega) 1) ⟨true, rfl, iteF ?_⟩
          rw [if_pos (by simp)]
          refine ⟨tq, _, rfl, s4 _ _ hq, lne, by simp only at l6; omega, fun H5 s5 => ⟨true, rfl, iteF ?_⟩⟩
          exact nxt _ _ H5 ((s23.trans s4).trans s5)
        · exact absurd lq.1 (n _)
    · rw [hPv] at pv
      obtain ⟨v8, v9, rfl, s23⟩ := pv
      walk_at "rd"
      have s3 := s02.trans s23
      refine ⟨o, x, R, rfl, s3 _ _ ho, fun u H4 s4 nu hu => ?_⟩
      exact same_ok (kdO_sm (s4 _ _ (s23 _ _ ht)) hu (by omega) 1) (ret _ (s3.trans s4))
theorem scLaw : FnScope ["script", "n", "m", "rooms", "doors", "chosen", "house", "start", "names"] ["script"] (defScope sLaw) := ⟨rfl, rfl, rfl, by decide +kernel, rfl, by decide +kernel, by decide +kernel⟩
def spLaw (K : PySem.W.Frag) : Sp := fun vs H Q _ => ∃ (a : Addr) (ns : List Int), vs = [.ref a] ∧ SqL K H a (ns.map V.int) ∧ ns.length ≤ 63 ∧ ∀ H', Q (.bl true) H'
theorem use_init {C x dx l : Addr} {r : Nat} {us : List V} {D G : List Pr} {H : Hp} {Q : VK} {E : XK} (nx : H x = none) (ndx : H dx = none) (hl : H l = some (.lst us)) (pl : PL H us D) (pm : (D.map mm2).Perm G) (drs : Drs r G) (r1 : 1 ≤ r) (r12 : r ≤ 12)
    (q : ∀ own H2, HouseAt C H2 x r G own → Same H H2 → (∀ b ∈ own, H b = none) → Q .non H2) : spHinit C [.ref x, .int r, .ref l] (upd (upd H dx (.own x)) x (.ins C dx [])) Q E := by
  have s0 : Same H (upd (upd H dx (.own x)) x (.ins C dx [])) := fun b o e => by
    rw [upd_ne (ne_of_none e nx), upd_ne (ne_of_none e ndx)]
    exact e
  refine ⟨x, dx, l, r, us, D, D.map mm2, rfl, upd_same, s0 _ _ hl, pl.kt (KT.same s0), rfl, pm.nodup_iff.mpr drs.asc.nodup, fun d hd => drs.ok d (pm.mem_iff.mp hd), r1, r12, fun D' own H' mem hh keep free => ?_⟩
  have e : D' = G := asc_uniq hh.ok.asc drs.asc fun d => (mem d).trans pm.mem_iff
  subst e
  refine q own H' hh (fun b o e => keep b o (s0 b o e) (ne_of_none e nx)) fun b hb => ?_
  by_cases e : b = x
  · rw [e]
    exact nx
  · exact s0.free (free b hb e)
theorem ok_law {f C fi f1 f2 f3 f4 f5 f6 f7 : Addr} {fd fdi fd1 fd2 fd3 fd4 fd5 fd6 fd7 : FuncData} (F : Fun K "law" "law" sLaw f fd) (T : Bi mg) (U : Hs K mg C) (M : Mk K C fi) (Gi : FnOk P w K mg base CX0 2 fi fdi ["self", "rooms", "doors"] (spHinit C)) (bi : Binds K fdi ["self", "rooms", "doors"] [])
    (d__law_cell : Df P w K mg base "_law_cell" ["script", "k"] 1 (spCell K) f1 fd1) (d__law_numbers : Df P w K mg base "_law_numbers" ["cell", "count"] 1 (spNum K) f2 fd2) (d__law_doors : Df P w K mg base "_law_doors" ["numbers", "rooms"] 2 (spDrs K) f3 fd3)
    (d__law_chosen : Df P w K mg base "_law_chosen" ["numbers", "rooms"] 2 (spChosen K) f4 fd4) (d__law_from_right : Df P w K mg base "_law_from_right" ["house", "doors", "rooms", "start", "chosen", "number"] 5 (spFrr C) f5 fd5) (d__law_names : Df P w K mg base "_law_names" ["numbers", "at", "rooms"] 1 (spNam K) f6 fd6) (d__law_doors_right : Df P w K mg base "_law_doors_right" ["path"] 4 spDri f7 fd7) : FnOk P w K mg base CX0 6 f fd ["script"] (spLaw K) := by
  refine F.ok scLaw (fun vs H Q E h => ?_) (fun cdv A outer s H vs Q E hr h => ?_)
  · obtain ⟨a, ns, rfl, _⟩ := h
    rfl
  · obtain ⟨a, ss, rfl, hS, _, q⟩ := h
    refine ⟨_, (pss_cons (ps_set (i := 1) scLaw.nd rfl (Or.inl rfl) (pe_call d__law_numbers.ok (hr.mono (by decide)) (by rfl) d__law_numbers.at_ d__law_numbers.kp d__law_numbers.b .nil pass0 (pa_cons (pe_call d__law_cell.ok (hr.mono (by decide)) (by rfl) d__law_cell.at_ d__law_cell.kp d__law_cell.b .nil pass0 (pa_cons (pv 0) (pa_cons pe_int pa_nil))) (pa_cons pe_int pa_nil))))
      (pss_cons (ps_set (i := 2) scLaw.nd rfl (Or.inl rfl) (pe_call d__law_numbers.ok (hr.mono (by decide)) (by rfl) d__law_numbers.at_ d__law_numbers.kp d__law_numbers.b .nil pass0 (pa_cons (pe_call d__law_cell.ok (hr.mono (by decide)) (by rfl) d__law_cell.at_ d__law_cell.kp d__law_cell.b .nil pass0 (pa_cons (pv 0) (pa_cons pe_int pa_nil))) (pa_cons pe_int pa_nil))))
      (pss_cons (ps_set (i := 3) scLaw.nd rfl (Or.inl rfl) (pe_op op_add pe_int (pe_op op_mod (pe_callTy cr_intI (by rfl) T.int (by decide +kernel) (pa_cons (pe_op op_fdiv (pe_ix ix_list (pv 1) pe_int (fun _ _ => rfl)) pe_int) pa_nil)) pe_int)))
      (pss_cons (ps_set (i := 4) scLaw.nd rfl (Or.inl rfl) (pe_call d__law_doors.ok (hr.mono (by decide)) (by rfl) d__law_doors.at_ d__law_doors.kp d__law_doors.b .nil pass0 (pa_cons (pv 1) (pa_cons (pv 3) pa_nil))))
      (pss_cons (ps_set (i := 5) scLaw.nd rfl (Or.inl rfl) (pe_call d__law_chosen.ok (hr.mono (by decide)) (by rfl) d__law_chosen.at_ d__law_chosen.kp d__law_chosen.b .nil pass0 (pa_cons (pv 2) (pa_cons (pv 3) pa_nil))))
      (pss_cons (ps_set (i := 6) scLaw.nd rfl (Or.inl rfl) (pe_make M Gi (hr.mono (by decide)) (by rfl) U.mgC bi .nil pass0 (pa_cons (pv 3) (pa_cons (pe_callTy call_list_of (by rfl) T.list (by decide +kernel) (pa_cons (pv 4) pa_nil)) pa_nil))))
      (pss_cons (ps_set (i := 7) scLaw.nd rfl (Or.inl rfl) (pe_op op_mod (pe_callTy cr_intI (by rfl) T.int (by decide +kernel) (pa_cons (pe_ix ix_list (pv 2) pe_int (fun _ _ => rfl)) pa_nil)) (pv 3)))
      (pss_cons (ps_if (pt_not (pt_val (pe_call d__law_from_right.ok (hr.mono (by decide)) (by rfl) d__law_from_right.at_ d__law_from_right.kp d__law_from_right.b .nil pass0 (pa_cons (pv 6) (pa_cons (pv 4) (pa_cons (pv 3) (pa_cons (pv 7) (pa_cons (pv 5) (pa_cons (pe_ix ix_list (pv 2) pe_int (fun _ _ => rfl)) pa_nil)))))))))
      (pss_one (ps_ret pe_bl))
      pss_nil)
      (pss_cons (ps_if (PW.pt (pw_and (pt_cmpR op_gt (pe_callB call_len_seq (by rfl) T.len (by decide +kernel) (pa_cons (pv 5) pa_nil)) pe_int (nomark _)) (pw_and1 (pt_not (pt_val (pe_call d__law_from_right.ok (hr.mono (by decide)) (by rfl) d__law_from_right.at_ d__law_from_right.kp d__law_from_right.b .nil pass0 (pa_cons (pv 6) (pa_cons (pv 4) (pa_cons (pv 3) (pa_cons (pe_ix ix_list (pv 5) pe_int (fun _ _ => rfl)) (pa_cons (pv 5) (pa_cons (pe_ix ix_list (pv 2) pe_int (fun _ _ => rfl)) pa_nil))))))))))))
      (pss_one (ps_ret pe_bl))
      pss_nil)
      (pss_cons (ps_if (pt_not (pt_val (pe_call d__law_from_right.ok (hr.mono (by decide)) (by rfl) d__law_from_right.at_ d__law_from_right.kp d__law_from_right.b .nil pass0 (pa_cons (pv 6) (pa_cons (pv 4) (pa_cons (pv 3) (pa_cons (pv 7) (pa_cons (pe_listRg rfl (by rfl) T.list (prg_1 (by rfl) T.range (pv 3))) (pa_cons (pe_ix ix_list (pv 2) pe_int (fun _ _ => rfl)) pa_nil)))))))))
      (pss_one (ps_ret pe_bl))
      pss_nil)
      (pss_cons (ps_set (i := 8) scLaw.nd rfl (Or.inl rfl) (pe_call d__law_names.ok (hr.mono (by decide)) (by rfl) d__law_names.at_ d__law_names.kp d__law_names.b .nil pass0 (pa_cons (pv 2) (pa_cons pe_int (pa_cons (pv 3) pa_nil)))))
      (pss_one (ps_ret (pe_call d__law_doors_right.ok (hr.mono (by decide)) (by rfl) d__law_doors_right.at_ d__law_doors_right.kp d__law_doors_right.b .nil pass0 (pa_cons (pe_callTy call_tuple_of (by rfl) T.tuple (by decide +kernel) (pa_cons (pe_slice sl_list (pv 8) po_none (po_some (pe_op op_add pe_int (pe_op op_mod (pe_callTy cr_intI (by rfl) T.int (by decide +kernel) (pa_cons (pe_ix ix_list (pv 2) pe_int (fun _ _ => rfl)) pa_nil)) (pv 3))))) pa_nil)) pa_nil))))))))))))))), ?_⟩
    walk_at "rd"
    refine ⟨a, ss, 0, rfl, hS, fun c0 _ => ⟨c0, 79, rfl, by decide, fun nl ln H1 N1 s1 fn1 hln => ?_⟩⟩
    refine ⟨a, ss, 1, rfl, s1.seq hS, fun c1 _ => ⟨c1, 41, rfl, by decide, fun ml lm H2 N2 s2 fm hlm => ?_⟩⟩
    obtain ⟨n0, gn0⟩ : ∃ n0, nl[0]? = some n0 := ⟨nl[0]'(by rw [N1.1]; omega), List.getElem?_eq_getElem (by rw [N1.1]; omega)⟩
    have g0 : (nl.map V.int)[0]? = some (.int n0) := by rw [List.getElem?_map, gn0]; rfl
    have gM : ∀ j : Nat, j < 41 → ∃ x, (ml.map V.int)[j]? = some (.int x) := fun j hj => ⟨ml[j]'(by rw [N2.1]; exact hj), by rw [List.getElem?_map, List.getElem?_eq_getElem (by rw [N2.1]; exact hj)]; rfl⟩
    obtain ⟨x25, g25⟩ := gM 25 (by decide)
    obtain ⟨x26, g26⟩ := gM 26 (by decide)
    obtain ⟨x27, g27⟩ := gM 27 (by decide)
    obtain ⟨x28, g28⟩ := gM 28 (by decide)
    refine ⟨ln, rfl, _, SqL.of (s2 _ _ hln), .int n0, at_of (j := 0) rfl g0, _, rfl, ⟨by decide, by decide⟩, by decide, ?_⟩
    obtain ⟨r, er, hr1, hr12⟩ : ∃ r : Nat, 1 + n0 / 8 % 12 = (r : Int) ∧ 1 ≤ r ∧ r ≤ 12 := ⟨(1 + n0 / 8 % 12).toNat, by omega, by omega, by omega⟩
    rw [er]
    refine ⟨ln, nl, r, rfl, SqL.of (s2 _ _ hln), by rw [N1.1]; omega, hr1, hr12, fun D us lo_ H3 drs s3 fd3 hlo pD => ?_⟩
    refine ⟨lm, ml, r, rfl, SqL.of (s3 _ _ hlm), by rw [N2.1]; omega, hr1, hr12, fun R lr H5 sR s5 flr hlr => ?_⟩
    have hR : ∀ x ∈ R, 0 ≤ x ∧ x < r := sR.2
    have h64 : R.length < 64 := by have := sR.1; omega
    have hlm5 := s5 _ _ (s3 _ _ hlm)
    have hlo5 := s5 _ _ hlo
    have pD5 := pD.kt (KT.same s5)
    walk_at "rd"
    refine ⟨us, .inl (SqL.of hlo5), fun ol fol => fun y dy ny ndy ney => ?_⟩
    have t1 : Same H5 (upd H5 ol (HO.lst us)) := same_upd fol
    refine use_init ny ndy upd_same (pD5.kt (KT.same t1)) (by rw [mm2_same drs]) drs hr1 hr12 fun own1 H6 hh1 t2 _ => ⟨rfl, ?_⟩
    have s56 := t1.trans t2
    walk_at "rd"
    have hlo6 := s56 _ _ hlo5
    have hlm6 := s56 _ _ hlm5
    have hlr6 := s56 _ _ hlr
    have pD6 := pD5.kt (KT.same s56)
    refine ⟨_, SqL.of hlm6, .int x25, at_of (j := 25) rfl g25, x25, rfl, by omega, _, SqL.of hlm6, .int x26, at_of (j := 26) rfl g26, ?_⟩
    refine ⟨y, lo_, lr, us, r, x25 % r, x26, R, D, own1, rfl, hh1, hlo6, pD6, hlr6, h64, hR, fun HA s6A => ⟨true, rfl, iteF ?_⟩⟩
    refine ⟨_, .inl (SqL.of (s6A _ _ hlr6)), ?_⟩
    rw [List.length_map]
    by_cases z : R = []
    rw [if_neg (show ¬ (0 : Int) < (R.length : Int) by rw [z]; decide), if_neg id]
    rotate_left
    rw [if_pos (show (0 : Int) < (R.length : Int) by have := List.length_pos_iff.mpr z; omega)]
    obtain ⟨c, gc⟩ : ∃ c, R[0]? = some c := ⟨R[0]'(List.length_pos_iff.mpr z), List.getElem?_eq_getElem _⟩
    have gc2 : (R.map V.int)[0]? = some (.int c) := by rw [List.getElem?_map, gc]; rfl
    refine ⟨_, SqL.of (s6A _ _ hlr6), .int c, at_of (j := 0) rfl gc2, _, SqL.of (s6A _ _ hlm6), .int x27, at_of (j := 27) rfl g27, ?_⟩
    refine ⟨y, lo_, lr, us, r, c, x27, R, D, own1, rfl, hh1.same s6A, s6A _ _ hlo6, pD6.kt (KT.same s6A), s6A _ _ hlr6, h64, hR, fun HA sAB => ⟨true, rfl, iteF ?_⟩⟩
    have s6A := s6A.trans sAB
    clear sAB
    all_goals
      refine ⟨RgOk.of_le (by omega) (by omega) (by omega) (by omega), fun ql nql => ?_⟩
      rw [rgV_rg]
      have s6C := s6A.trans (same_upd (o := HO.lst ((rg r).map V.int)) nql)
      have hql : upd HA ql (HO.lst ((rg r).map V.int)) ql = some (.lst ((rg r).map V.int)) := upd_same
      generalize upd HA ql (HO.lst ((rg r).map V.int)) = HC at s6C hql ⊢
      refine ⟨_, SqL.of (s6C _ _ hlm6), .int x26, at_of (j := 26) rfl g26, ?_⟩
      refine ⟨y, lo_, ql, us, r, x25 % r, x26, rg r, D, own1, rfl, hh1.same s6C, s6C _ _ hlo6, pD6.kt (KT.same s6C), hql, by rw [rg_len]; omega, fun x hx => rg_mem hx, fun HD sCD => ⟨true, rfl, iteF ?_⟩⟩
      have s6D := s6C.trans sCD
      refine ⟨lm, ml, 29, r, rfl, SqL.of (s6D _ _ hlm6), by rw [N2.1]; omega, by omega, fun xs nx HE pm sDE nnx hnx => ?_⟩
      have s6E := s6D.trans sDE
      refine ⟨_, SqL.of (s6E _ _ hlm6), .int x28, at_of (j := 28) rfl g28, ?_⟩
      obtain ⟨kn, ek, k1, k2⟩ : ∃ kn : Nat, 1 + x28 % (r : Int) = kn ∧ 1 ≤ kn ∧ kn ≤ r := by
        have q0 := Int.emod_nonneg x28 (show (r : Int) ≠ 0 by omega)
        have q1 := Int.emod_lt_of_pos x28 (show (0 : Int) < (r : Int) by omega)
        exact ⟨(1 + x28 % (r : Int)).toNat, by omega, by omega, by omega⟩
      refine ⟨x28, rfl, by omega, nx, rfl, _, SqL.of hnx, fun cl ncl => ?_⟩
      have xl : xs.length = r := by rw [pm.length_eq, rg_len]
      have ec : cutV (xs.map V.int) none (some (1 + x28 % (r : Int))) = (xs.take kn).map V.int := by
        rw [ek]
        unfold cutV
        rw [HT.sIx_nat, HT.sIx_none, List.length_map, xl, Nat.min_eq_left k2, List.drop_zero, Nat.sub_zero, List.map_take]
      rw [ec]
      refine ⟨_, .inl ⟨SqL.of upd_same, fun tl ntl => ?_⟩⟩
      exact ⟨tl, xs.take kn, rfl, upd_same, by rw [List.length_take, xl]; omega, by rw [List.length_take, xl]; omega, fun H' _ => q H'⟩
end

set_option maxHeartbeats 8000000 in
theorem all_mk {l : PySem.W.OpenLaw} {w : World} {K : PySem.W.Frag} {h : Heap} {mg : Str → Option Value} {fa : Addr} (X : K.In h) (G : h.Ns mainGlobals mg) (hfa : mg "law" = some (.ref fa))
    {f_check_room_count : Addr} {od_check_room_count an_check_room_count : Option Addr} {sl_check_room_count : Array (Option Value)} {oc_check_room_count kV_check_room_count dc_check_room_count pm_check_room_count cd_check_room_count ct_check_room_count : Value}
    {f_checked_doors : Addr} {od_checked_doors an_checked_doors : Option Addr} {sl_checked_doors : Array (Option Value)} {oc_checked_doors kV_checked_doors dc_checked_doors pm_checked_doors cd_checked_doors ct_checked_doors : Value}
    {f_first_paths : Addr} {od_first_paths an_first_paths : Option Addr} {sl_first_paths : Array (Option Value)} {oc_first_paths kV_first_paths dc_first_paths pm_first_paths cd_first_paths ct_first_paths : Value}
    {f_first_path : Addr} {od_first_path an_first_path : Option Addr} {sl_first_path : Array (Option Value)} {oc_first_path kV_first_path dc_first_path pm_first_path cd_first_path ct_first_path : Value}
    {f_path_doors : Addr} {od_path_doors an_path_doors : Option Addr} {sl_path_doors : Array (Option Value)} {oc_path_doors kV_path_doors dc_path_doors pm_path_doors cd_path_doors ct_path_doors : Value}
    {f__law_cell : Addr} {od__law_cell an__law_cell : Option Addr} {sl__law_cell : Array (Option Value)} {oc__law_cell kV__law_cell dc__law_cell pm__law_cell cd__law_cell ct__law_cell : Value}
    {f__law_numbers : Addr} {od__law_numbers an__law_numbers : Option Addr} {sl__law_numbers : Array (Option Value)} {oc__law_numbers kV__law_numbers dc__law_numbers pm__law_numbers cd__law_numbers ct__law_numbers : Value}
    {f__law_names : Addr} {od__law_names an__law_names : Option Addr} {sl__law_names : Array (Option Value)} {oc__law_names kV__law_names dc__law_names pm__law_names cd__law_names ct__law_names : Value}
    {f__law_joined : Addr} {od__law_joined an__law_joined : Option Addr} {sl__law_joined : Array (Option Value)} {oc__law_joined kV__law_joined dc__law_joined pm__law_joined cd__law_joined ct__law_joined : Value}
    {f__law_doors : Addr} {od__law_doors an__law_doors : Option Addr} {sl__law_doors : Array (Option Value)} {oc__law_doors kV__law_doors dc__law_doors pm__law_doors cd__law_doors ct__law_doors : Value}
    {f__law_same : Addr} {od__law_same an__law_same : Option Addr} {sl__law_same : Array (Option Value)} {oc__law_same kV__law_same dc__law_same pm__law_same cd__law_same ct__law_same : Value}
    {f__law_chosen : Addr} {od__law_chosen an__law_chosen : Option Addr} {sl__law_chosen : Array (Option Value)} {oc__law_chosen kV__law_chosen dc__law_chosen pm__law_chosen cd__law_chosen ct__law_chosen : Value}
    {f__law_as_passed : Addr} {od__law_as_passed an__law_as_passed : Option Addr} {sl__law_as_passed : Array (Option Value)} {oc__law_as_passed kV__law_as_passed dc__law_as_passed pm__law_as_passed cd__law_as_passed ct__law_as_passed : Value}
    {f__law_least_paths : Addr} {od__law_least_paths an__law_least_paths : Option Addr} {sl__law_least_paths : Array (Option Value)} {oc__law_least_paths kV__law_least_paths dc__law_least_paths pm__law_least_paths cd__law_least_paths ct__law_least_paths : Value}
    {f__law_along : Addr} {od__law_along an__law_along : Option Addr} {sl__law_along : Array (Option Value)} {oc__law_along kV__law_along dc__law_along pm__law_along cd__law_along ct__law_along : Value}
    {f__law_doors_right : Addr} {od__law_doors_right an__law_doors_right : Option Addr} {sl__law_doors_right : Array (Option Value)} {oc__law_doors_right kV__law_doors_right dc__law_doors_right pm__law_doors_right cd__law_doors_right ct__law_doors_right : Value}
    {f__law_from_right : Addr} {od__law_from_right an__law_from_right : Option Addr} {sl__law_from_right : Array (Option Value)} {oc__law_from_right kV__law_from_right dc__law_from_right pm__law_from_right cd__law_from_right ct__law_from_right : Value}
    {f_law : Addr} {od_law an_law : Option Addr} {sl_law : Array (Option Value)} {oc_law kV_law dc_law pm_law cd_law ct_law : Value}
    {f_m_init_ : Addr} {od_m_init_ an_m_init_ : Option Addr} {sl_m_init_ : Array (Option Value)} {oc_m_init_ kV_m_init_ dc_m_init_ pm_m_init_ cd_m_init_ ct_m_init_ : Value}
    {f_mneighbours : Addr} {od_mneighbours an_mneighbours : Option Addr} {sl_mneighbours : Array (Option Value)} {oc_mneighbours kV_mneighbours dc_mneighbours pm_mneighbours cd_mneighbours ct_mneighbours : Value}
    {C : Addr}
    {tk_MOST_ROOMS : Tok}
    (aC : PySem.W.nsIn K mainGlobals "House" = some (some (.ref C)))
    (pg : PySem.W.plainGet K C Str.empty = true)
    (hd : PySem.W.hasDictIn K C = true)
    (po : PySem.W.plainOver K C = true)
    (sa : PySem.W.findIn K (.ref C) "__setattr__" = some (some (.builtin "object.__setattr__")))
    (mk : PySem.W.makesIn K C = true)
    (kc : PySem.W.keepIn K (.ref C) = true)
    (a_check_room_count : PySem.W.nsIn K mainGlobals "check_room_count" = some (some (.ref f_check_room_count)))
    (l_check_room_count : K.lookup f_check_room_count = some ⟨oc_check_room_count, od_check_room_count, .func (PySem.W.fnOf "check_room_count" "check_room_count" (defArgs sRoom) (defBody sRoom) (defScope sRoom) .none kV_check_room_count dc_check_room_count pm_check_room_count an_check_room_count cd_check_room_count ct_check_room_count), sl_check_room_count⟩)
    (c_check_room_count : PySem.W.codeIn K cd_check_room_count "check_room_count" = true)
    (k_check_room_count : PySem.W.keepIn K (.ref f_check_room_count) = true)
    (a_checked_doors : PySem.W.nsIn K mainGlobals "checked_doors" = some (some (.ref f_checked_doors)))
    (l_checked_doors : K.lookup f_checked_doors = some ⟨oc_checked_doors, od_checked_doors, .func (PySem.W.fnOf "checked_doors" "checked_doors" (defArgs sChk) (defBody sChk) (defScope sChk) .none kV_checked_doors dc_checked_doors pm_checked_doors an_checked_doors cd_checked_doors ct_checked_doors), sl_checked_doors⟩)
    (c_checked_doors : PySem.W.codeIn K cd_checked_doors "checked_doors" = true)
    (k_checked_doors : PySem.W.keepIn K (.ref f_checked_doors) = true)
    (a_first_paths : PySem.W.nsIn K mainGlobals "first_paths" = some (some (.ref f_first_paths)))
    (l_first_paths : K.lookup f_first_paths = some ⟨oc_first_paths, od_first_paths, .func (PySem.W.fnOf "first_paths" "first_paths" (defArgs sFp) (defBody sFp) (defScope sFp) .none kV_first_paths dc_first_paths pm_first_paths an_first_paths cd_first_paths ct_first_paths), sl_first_paths⟩)
    (c_first_paths : PySem.W.codeIn K cd_first_paths "first_paths" = true)
    (k_first_paths : PySem.W.keepIn K (.ref f_first_paths) = true)
    (a_first_path : PySem.W.nsIn K mainGlobals "first_path" = some (some (.ref f_first_path)))
    (l_first_path : K.lookup f_first_path = some ⟨oc_first_path, od_first_path, .func (PySem.W.fnOf "first_path" "first_path" (defArgs sFst) (defBody sFst) (defScope sFst) .none kV_first_path dc_first_path pm_first_path an_first_path cd_first_path ct_first_path), sl_first_path⟩)
    (c_first_path : PySem.W.codeIn K cd_first_path "first_path" = true)
    (k_first_path : PySem.W.keepIn K (.ref f_first_path) = true)
    (a_path_doors : PySem.W.nsIn K mainGlobals "path_doors" = some (some (.ref f_path_doors)))
    (l_path_doors : K.lookup f_path_doors = some ⟨oc_path_doors, od_path_doors, .func (PySem.W.fnOf "path_doors" "path_doors" (defArgs sPdr) (defBody sPdr) (defScope sPdr) .none kV_path_doors dc_path_doors pm_path_doors an_path_doors cd_path_doors ct_path_doors), sl_path_doors⟩)
    (c_path_doors : PySem.W.codeIn K cd_path_doors "path_doors" = true)
    (k_path_doors : PySem.W.keepIn K (.ref f_path_doors) = true)
    (a__law_cell : PySem.W.nsIn K mainGlobals "_law_cell" = some (some (.ref f__law_cell)))
    (l__law_cell : K.lookup f__law_cell = some ⟨oc__law_cell, od__law_cell, .func (PySem.W.fnOf "_law_cell" "_law_cell" (defArgs sCell) (defBody sCell) (defScope sCell) .none kV__law_cell dc__law_cell pm__law_cell an__law_cell cd__law_cell ct__law_cell), sl__law_cell⟩)
    (c__law_cell : PySem.W.codeIn K cd__law_cell "_law_cell" = true)
    (k__law_cell : PySem.W.keepIn K (.ref f__law_cell) = true)
    (a__law_numbers : PySem.W.nsIn K mainGlobals "_law_numbers" = some (some (.ref f__law_numbers)))
    (l__law_numbers : K.lookup f__law_numbers = some ⟨oc__law_numbers, od__law_numbers, .func (PySem.W.fnOf "_law_numbers" "_law_numbers" (defArgs sNum) (defBody sNum) (defScope sNum) .none kV__law_numbers dc__law_numbers pm__law_numbers an__law_numbers cd__law_numbers ct__law_numbers), sl__law_numbers⟩)
    (c__law_numbers : PySem.W.codeIn K cd__law_numbers "_law_numbers" = true)
    (k__law_numbers : PySem.W.keepIn K (.ref f__law_numbers) = true)
    (a__law_names : PySem.W.nsIn K mainGlobals "_law_names" = some (some (.ref f__law_names)))
    (l__law_names : K.lookup f__law_names = some ⟨oc__law_names, od__law_names, .func (PySem.W.fnOf "_law_names" "_law_names" (defArgs sNam) (defBody sNam) (defScope sNam) .none kV__law_names dc__law_names pm__law_names an__law_names cd__law_names ct__law_names), sl__law_names⟩)
    (c__law_names : PySem.W.codeIn K cd__law_names "_law_names" = true)
    (k__law_names : PySem.W.keepIn K (.ref f__law_names) = true)
    (a__law_joined : PySem.W.nsIn K mainGlobals "_law_joined" = some (some (.ref f__law_joined)))
    (l__law_joined : K.lookup f__law_joined = some ⟨oc__law_joined, od__law_joined, .func (PySem.W.fnOf "_law_joined" "_law_joined" (defArgs sJnd) (defBody sJnd) (defScope sJnd) .none kV__law_joined dc__law_joined pm__law_joined an__law_joined cd__law_joined ct__law_joined), sl__law_joined⟩)
    (c__law_joined : PySem.W.codeIn K cd__law_joined "_law_joined" = true)
    (k__law_joined : PySem.W.keepIn K (.ref f__law_joined) = true)
    (a__law_doors : PySem.W.nsIn K mainGlobals "_law_doors" = some (some (.ref f__law_doors)))
    (l__law_doors : K.lookup f__law_doors = some ⟨oc__law_doors, od__law_doors, .func (PySem.W.fnOf "_law_doors" "_law_doors" (defArgs sDrs) (defBody sDrs) (defScope sDrs) .none kV__law_doors dc__law_doors pm__law_doors an__law_doors cd__law_doors ct__law_doors), sl__law_doors⟩)
    (c__law_doors : PySem.W.codeIn K cd__law_doors "_law_doors" = true)
    (k__law_doors : PySem.W.keepIn K (.ref f__law_doors) = true)
    (a__law_same : PySem.W.nsIn K mainGlobals "_law_same" = some (some (.ref f__law_same)))
    (l__law_same : K.lookup f__law_same = some ⟨oc__law_same, od__law_same, .func (PySem.W.fnOf "_law_same" "_law_same" (defArgs sSame) (defBody sSame) (defScope sSame) .none kV__law_same dc__law_same pm__law_same an__law_same cd__law_same ct__law_same), sl__law_same⟩)
    (c__law_same : PySem.W.codeIn K cd__law_same "_law_same" = true)
    (k__law_same : PySem.W.keepIn K (.ref f__law_same) = true)
    (a__law_chosen : PySem.W.nsIn K mainGlobals "_law_chosen" = some (some (.ref f__law_chosen)))
    (l__law_chosen : K.lookup f__law_chosen = some ⟨oc__law_chosen, od__law_chosen, .func (PySem.W.fnOf "_law_chosen" "_law_chosen" (defArgs sChosen) (defBody sChosen) (defScope sChosen) .none kV__law_chosen dc__law_chosen pm__law_chosen an__law_chosen cd__law_chosen ct__law_chosen), sl__law_chosen⟩)
    (c__law_chosen : PySem.W.codeIn K cd__law_chosen "_law_chosen" = true)
    (k__law_chosen : PySem.W.keepIn K (.ref f__law_chosen) = true)
    (a__law_as_passed : PySem.W.nsIn K mainGlobals "_law_as_passed" = some (some (.ref f__law_as_passed)))
    (l__law_as_passed : K.lookup f__law_as_passed = some ⟨oc__law_as_passed, od__law_as_passed, .func (PySem.W.fnOf "_law_as_passed" "_law_as_passed" (defArgs sAsP) (defBody sAsP) (defScope sAsP) .none kV__law_as_passed dc__law_as_passed pm__law_as_passed an__law_as_passed cd__law_as_passed ct__law_as_passed), sl__law_as_passed⟩)
    (c__law_as_passed : PySem.W.codeIn K cd__law_as_passed "_law_as_passed" = true)
    (k__law_as_passed : PySem.W.keepIn K (.ref f__law_as_passed) = true)
    (a__law_least_paths : PySem.W.nsIn K mainGlobals "_law_least_paths" = some (some (.ref f__law_least_paths)))
    (l__law_least_paths : K.lookup f__law_least_paths = some ⟨oc__law_least_paths, od__law_least_paths, .func (PySem.W.fnOf "_law_least_paths" "_law_least_paths" (defArgs sLlp) (defBody sLlp) (defScope sLlp) .none kV__law_least_paths dc__law_least_paths pm__law_least_paths an__law_least_paths cd__law_least_paths ct__law_least_paths), sl__law_least_paths⟩)
    (c__law_least_paths : PySem.W.codeIn K cd__law_least_paths "_law_least_paths" = true)
    (k__law_least_paths : PySem.W.keepIn K (.ref f__law_least_paths) = true)
    (a__law_along : PySem.W.nsIn K mainGlobals "_law_along" = some (some (.ref f__law_along)))
    (l__law_along : K.lookup f__law_along = some ⟨oc__law_along, od__law_along, .func (PySem.W.fnOf "_law_along" "_law_along" (defArgs sAlo) (defBody sAlo) (defScope sAlo) .none kV__law_along dc__law_along pm__law_along an__law_along cd__law_along ct__law_along), sl__law_along⟩)
    (c__law_along : PySem.W.codeIn K cd__law_along "_law_along" = true)
    (k__law_along : PySem.W.keepIn K (.ref f__law_along) = true)
    (a__law_doors_right : PySem.W.nsIn K mainGlobals "_law_doors_right" = some (some (.ref f__law_doors_right)))
    (l__law_doors_right : K.lookup f__law_doors_right = some ⟨oc__law_doors_right, od__law_doors_right, .func (PySem.W.fnOf "_law_doors_right" "_law_doors_right" (defArgs sDri) (defBody sDri) (defScope sDri) .none kV__law_doors_right dc__law_doors_right pm__law_doors_right an__law_doors_right cd__law_doors_right ct__law_doors_right), sl__law_doors_right⟩)
    (c__law_doors_right : PySem.W.codeIn K cd__law_doors_right "_law_doors_right" = true)
    (k__law_doors_right : PySem.W.keepIn K (.ref f__law_doors_right) = true)
    (a__law_from_right : PySem.W.nsIn K mainGlobals "_law_from_right" = some (some (.ref f__law_from_right)))
    (l__law_from_right : K.lookup f__law_from_right = some ⟨oc__law_from_right, od__law_from_right, .func (PySem.W.fnOf "_law_from_right" "_law_from_right" (defArgs sFrr) (defBody sFrr) (defScope sFrr) .none kV__law_from_right dc__law_from_right pm__law_from_right an__law_from_right cd__law_from_right ct__law_from_right), sl__law_from_right⟩)
    (c__law_from_right : PySem.W.codeIn K cd__law_from_right "_law_from_right" = true)
    (k__law_from_right : PySem.W.keepIn K (.ref f__law_from_right) = true)
    (a_law : PySem.W.nsIn K mainGlobals "law" = some (some (.ref f_law)))
    (l_law : K.lookup f_law = some ⟨oc_law, od_law, .func (PySem.W.fnOf "law" "law" (defArgs sLaw) (defBody sLaw) (defScope sLaw) .none kV_law dc_law pm_law an_law cd_law ct_law), sl_law⟩)
    (c_law : PySem.W.codeIn K cd_law "law" = true)
    (k_law : PySem.W.keepIn K (.ref f_law) = true)
    (a_m_init_ : PySem.W.findIn K (.ref C) "__init__" = some (some (.ref f_m_init_)))
    (l_m_init_ : K.lookup f_m_init_ = some ⟨oc_m_init_, od_m_init_, .func (PySem.W.fnOf "__init__" "House.__init__" (defArgs sHinit) (defBody sHinit) (defScope sHinit) .none kV_m_init_ dc_m_init_ pm_m_init_ an_m_init_ cd_m_init_ ct_m_init_), sl_m_init_⟩)
    (c_m_init_ : PySem.W.codeIn K cd_m_init_ "House.__init__" = true)
    (k_m_init_ : PySem.W.keepIn K (.ref f_m_init_) = true)
    (i_m_init_ : PySem.W.isFn K (.ref f_m_init_) = true)
    (a_mneighbours : PySem.W.findIn K (.ref C) "neighbours" = some (some (.ref f_mneighbours)))
    (l_mneighbours : K.lookup f_mneighbours = some ⟨oc_mneighbours, od_mneighbours, .func (PySem.W.fnOf "neighbours" "House.neighbours" (defArgs sHnear) (defBody sHnear) (defScope sHnear) .none kV_mneighbours dc_mneighbours pm_mneighbours an_mneighbours cd_mneighbours ct_mneighbours), sl_mneighbours⟩)
    (c_mneighbours : PySem.W.codeIn K cd_mneighbours "House.neighbours" = true)
    (k_mneighbours : PySem.W.keepIn K (.ref f_mneighbours) = true)
    (i_mneighbours : PySem.W.isFn K (.ref f_mneighbours) = true)
    (n_rooms : PySem.W.findIn K (.ref C) "rooms" = some none)
    (n__doors : PySem.W.findIn K (.ref C) "_doors" = some none)
    (n__near : PySem.W.findIn K (.ref C) "_near" = some none)
    (cr1 : PySem.W.readsIn K C (.type "type") = true)
    (cr2 : PySem.W.specialIn K (.ref C) "__getattribute__" = some (some (.builtin "type.__getattribute__")))
    (cv_MOST_ROOMS : PySem.W.findCls K (.ref C) (.type "type") "MOST_ROOMS" = some (.val (.int 12 tk_MOST_ROOMS)))
    (gf_nb : PySem.W.specialIn K (.ref f_mneighbours) "__get__" = some (some (.builtin "function.__get__")))
    (tk_nb : PySem.W.takesIn K (.ref f_mneighbours) = some false)
    (fi_nb : PySem.W.fnIn K f_mneighbours = true)
    (z_len : PySem.W.nsIn K mainGlobals "len" = some none)
    (z_abs : PySem.W.nsIn K mainGlobals "abs" = some none)
    (z_int : PySem.W.nsIn K mainGlobals "int" = some none)
    (z_range : PySem.W.nsIn K mainGlobals "range" = some none)
    (z_list : PySem.W.nsIn K mainGlobals "list" = some none)
    (z_tuple : PySem.W.nsIn K mainGlobals "tuple" = some none)
    (z_min : PySem.W.nsIn K mainGlobals "min" = some none)
    (z_max : PySem.W.nsIn K mainGlobals "max" = some none)
    (z_sorted : PySem.W.nsIn K mainGlobals "sorted" = some none)
    (z_isinstance : PySem.W.nsIn K mainGlobals "isinstance" = some none)
    (z_bool : PySem.W.nsIn K mainGlobals "bool" = some none)
    (z_str : PySem.W.nsIn K mainGlobals "str" = some none)
    (z_set : PySem.W.nsIn K mainGlobals "set" = some none)
    (z_enumerate : PySem.W.nsIn K mainGlobals "enumerate" = some none)
    (z_zip : PySem.W.nsIn K mainGlobals "zip" = some none) :
    ∃ fd : FuncData, (∀ (s : Shared) (v : Value), BindsTo s fd ⟨[v], []⟩ [("script", v)]) ∧ ∀ base : Heap, K.In base → base.Ns mainGlobals mg → FnOk l.prog w K mg base CX0 6 fa fd ["script"] (spLaw K) := by
  have e := hfa.symm.trans (PySem.W.mg_of X G a_law)
  cases e
  have T : Bi mg := ⟨PySem.W.mg_none_of X G z_len, PySem.W.mg_none_of X G z_abs, PySem.W.mg_none_of X G z_int, PySem.W.mg_none_of X G z_range, PySem.W.mg_none_of X G z_list, PySem.W.mg_none_of X G z_tuple, PySem.W.mg_none_of X G z_min, PySem.W.mg_none_of X G z_max, PySem.W.mg_none_of X G z_sorted, PySem.W.mg_none_of X G z_isinstance, PySem.W.mg_none_of X G z_bool, PySem.W.mg_none_of X G z_str, PySem.W.mg_none_of X G z_set, PySem.W.mg_none_of X G z_enumerate⟩
  have F_check_room_count := fun_mk (st := sRoom) l_check_room_count c_check_room_count k_check_room_count
  have at_check_room_count := PySem.W.mg_of X G a_check_room_count
  have b_check_room_count := F_check_room_count.binds (ps := ["rooms"]) fun _ _ _ _ _ _ us hl => match us, hl with | [_], _ => rfl
  have F_checked_doors := fun_mk (st := sChk) l_checked_doors c_checked_doors k_checked_doors
  have at_checked_doors := PySem.W.mg_of X G a_checked_doors
  have b_checked_doors := F_checked_doors.binds (ps := ["rooms", "doors"]) fun _ _ _ _ _ _ us hl => match us, hl with | [_, _], _ => rfl
  have F_first_paths := fun_mk (st := sFp) l_first_paths c_first_paths k_first_paths
  have at_first_paths := PySem.W.mg_of X G a_first_paths
  have b_first_paths := F_first_paths.binds (ps := ["steps", "start", "inside"]) fun _ _ _ _ _ _ us hl => match us, hl with | [_, _, _], _ => rfl
  have F_first_path := fun_mk (st := sFst) l_first_path c_first_path k_first_path
  have at_first_path := PySem.W.mg_of X G a_first_path
  have b_first_path := F_first_path.binds (ps := ["house", "start", "goal", "inside"]) fun _ _ _ _ _ _ us hl => match us, hl with | [_, _, _, _], _ => rfl
  have F_path_doors := fun_mk (st := sPdr) l_path_doors c_path_doors k_path_doors
  have at_path_doors := PySem.W.mg_of X G a_path_doors
  have b_path_doors := F_path_doors.binds (ps := ["path"]) fun _ _ _ _ _ _ us hl => match us, hl with | [_], _ => rfl
  have F__law_cell := fun_mk (st := sCell) l__law_cell c__law_cell k__law_cell
  have at__law_cell := PySem.W.mg_of X G a__law_cell
  have b__law_cell := F__law_cell.binds (ps := ["script", "k"]) fun _ _ _ _ _ _ us hl => match us, hl with | [_, _], _ => rfl
  have F__law_numbers := fun_mk (st := sNum) l__law_numbers c__law_numbers k__law_numbers
  have at__law_numbers := PySem.W.mg_of X G a__law_numbers
  have b__law_numbers := F__law_numbers.binds (ps := ["cell", "count"]) fun _ _ _ _ _ _ us hl => match us, hl with | [_, _], _ => rfl
  have F__law_names := fun_mk (st := sNam) l__law_names c__law_names k__law_names
  have at__law_names := PySem.W.mg_of X G a__law_names
  have b__law_names := F__law_names.binds (ps := ["numbers", "at", "rooms"]) fun _ _ _ _ _ _ us hl => match us, hl with | [_, _, _], _ => rfl
  have F__law_joined := fun_mk (st := sJnd) l__law_joined c__law_joined k__law_joined
  have at__law_joined := PySem.W.mg_of X G a__law_joined
  have b__law_joined := F__law_joined.binds (ps := ["kind", "a", "b", "rooms", "number", "parent"]) fun _ _ _ _ _ _ us hl => match us, hl with | [_, _, _, _, _, _], _ => rfl
  have F__law_doors := fun_mk (st := sDrs) l__law_doors c__law_doors k__law_doors
  have at__law_doors := PySem.W.mg_of X G a__law_doors
  have b__law_doors := F__law_doors.binds (ps := ["numbers", "rooms"]) fun _ _ _ _ _ _ us hl => match us, hl with | [_, _], _ => rfl
  have F__law_same := fun_mk (st := sSame) l__law_same c__law_same k__law_same
  have at__law_same := PySem.W.mg_of X G a__law_same
  have b__law_same := F__law_same.binds (ps := ["got", "due"]) fun _ _ _ _ _ _ us hl => match us, hl with | [_, _], _ => rfl
  have F__law_chosen := fun_mk (st := sChosen) l__law_chosen c__law_chosen k__law_chosen
  have at__law_chosen := PySem.W.mg_of X G a__law_chosen
  have b__law_chosen := F__law_chosen.binds (ps := ["numbers", "rooms"]) fun _ _ _ _ _ _ us hl => match us, hl with | [_, _], _ => rfl
  have F__law_as_passed := fun_mk (st := sAsP) l__law_as_passed c__law_as_passed k__law_as_passed
  have at__law_as_passed := PySem.W.mg_of X G a__law_as_passed
  have b__law_as_passed := F__law_as_passed.binds (ps := ["chosen", "number"]) fun _ _ _ _ _ _ us hl => match us, hl with | [_, _], _ => rfl
  have F__law_least_paths := fun_mk (st := sLlp) l__law_least_paths c__law_least_paths k__law_least_paths
  have at__law_least_paths := PySem.W.mg_of X G a__law_least_paths
  have b__law_least_paths := F__law_least_paths.binds (ps := ["doors", "start", "inside"]) fun _ _ _ _ _ _ us hl => match us, hl with | [_, _, _], _ => rfl
  have F__law_along := fun_mk (st := sAlo) l__law_along c__law_along k__law_along
  have at__law_along := PySem.W.mg_of X G a__law_along
  have b__law_along := F__law_along.binds (ps := ["path"]) fun _ _ _ _ _ _ us hl => match us, hl with | [_], _ => rfl
  have F__law_doors_right := fun_mk (st := sDri) l__law_doors_right c__law_doors_right k__law_doors_right
  have at__law_doors_right := PySem.W.mg_of X G a__law_doors_right
  have b__law_doors_right := F__law_doors_right.binds (ps := ["path"]) fun _ _ _ _ _ _ us hl => match us, hl with | [_], _ => rfl
  have F__law_from_right := fun_mk (st := sFrr) l__law_from_right c__law_from_right k__law_from_right
  have at__law_from_right := PySem.W.mg_of X G a__law_from_right
  have b__law_from_right := F__law_from_right.binds (ps := ["house", "doors", "rooms", "start", "chosen", "number"]) fun _ _ _ _ _ _ us hl => match us, hl with | [_, _, _, _, _, _], _ => rfl
  have F_law := fun_mk (st := sLaw) l_law c_law k_law
  have at_law := PySem.W.mg_of X G a_law
  have F_m_init_ := fun_mk (st := sHinit) l_m_init_ c_m_init_ k_m_init_
  have b_m_init_ := F_m_init_.binds (ps := ["self", "rooms", "doors"]) fun _ _ _ _ _ _ us hl => match us, hl with | [_, _, _], _ => rfl
  have mk_ : Mk K C f_m_init_ := ⟨mk, a_m_init_, i_m_init_, kc⟩
  have F_mneighbours := fun_mk (st := sHnear) l_mneighbours c_mneighbours k_mneighbours
  have b_mneighbours := F_mneighbours.binds (ps := ["self", "room"]) fun _ _ _ _ _ _ us hl => match us, hl with | [_, _], _ => rfl
  have mt_mneighbours : Meth K C "neighbours" f_mneighbours := ⟨a_mneighbours, i_mneighbours, k_mneighbours⟩
  have zm := PySem.W.mg_none_of X G z_zip
  have U : Hs K mg C := ⟨⟨pg, hd, po, sa⟩, n_rooms, n__doors, n__near, PySem.W.mg_of X G aC, ⟨.type "type", _, ⟨cr1, cr2⟩, ⟨cv_MOST_ROOMS, ⟨_, rfl⟩⟩⟩⟩
  refine ⟨PySem.W.fnOf "law" "law" (defArgs sLaw) (defBody sLaw) (defScope sLaw) .none kV_law dc_law pm_law an_law cd_law ct_law, fun s v => .of_eq rfl, fun base _ _ => ?_⟩
  have bm : BMeth K C "neighbours" f_mneighbours := ⟨mt_mneighbours, gf_nb, tk_nb, by decide +kernel, fi_nb⟩
  have R1 : Df l.prog w K mg base "check_room_count" _ 1 spRoom _ _ := ⟨at_check_room_count, k_check_room_count, b_check_room_count, ok_room F_check_room_count U⟩
  have R2 : Df l.prog w K mg base "checked_doors" _ 1 spChk _ _ := ⟨at_checked_doors, k_checked_doors, b_checked_doors, ok_chk F_checked_doors T⟩
  have GN := ok_hnear (P := l.prog) (w := w) (base := base) F_mneighbours T U
  have E1 : Df l.prog w K mg base "first_paths" _ 2 (spFq K C f_mneighbours) _ _ := ⟨at_first_paths, k_first_paths, b_first_paths, ok_fq F_first_paths T U bm GN b_mneighbours⟩
  have E2 : Df l.prog w K mg base "first_path" _ 3 (spFst K C) _ _ := ⟨at_first_path, k_first_path, b_first_path, ok_fst F_first_path T U bm E1⟩
  have E3 : Df l.prog w K mg base "path_doors" _ 1 (spPdr K) _ _ := ⟨at_path_doors, k_path_doors, b_path_doors, ok_pdr F_path_doors T zm⟩
  have D1 : Df l.prog w K mg base "_law_cell" _ 1 (spCell K) _ _ := ⟨at__law_cell, k__law_cell, b__law_cell, ok_cell F__law_cell T⟩
  have D2 : Df l.prog w K mg base "_law_numbers" _ 1 (spNum K) _ _ := ⟨at__law_numbers, k__law_numbers, b__law_numbers, ok_num F__law_numbers T⟩
  have D3 : Df l.prog w K mg base "_law_names" _ 1 (spNam K) _ _ := ⟨at__law_names, k__law_names, b__law_names, ok_nam F__law_names T⟩
  have D4 : Df l.prog w K mg base "_law_joined" _ 1 spJnd _ _ := ⟨at__law_joined, k__law_joined, b__law_joined, ok_jnd F__law_joined T⟩
  have D5 : Df l.prog w K mg base "_law_doors" _ 2 (spDrs K) _ _ := ⟨at__law_doors, k__law_doors, b__law_doors, ok_drs F__law_doors T D3 D4⟩
  have D8 : Df l.prog w K mg base "_law_same" _ 3 (spSame 2) _ _ := ⟨at__law_same, k__law_same, b__law_same, ok_same F__law_same T b__law_same at__law_same 2⟩
  have D10 : Df l.prog w K mg base "_law_chosen" _ 2 (spChosen K) _ _ := ⟨at__law_chosen, k__law_chosen, b__law_chosen, ok_chosen F__law_chosen T D3⟩
  have D11 : Df l.prog w K mg base "_law_as_passed" _ 1 spAsP _ _ := ⟨at__law_as_passed, k__law_as_passed, b__law_as_passed, ok_asP F__law_as_passed T⟩
  have D12 : Df l.prog w K mg base "_law_least_paths" _ 1 (spLlp K) _ _ := ⟨at__law_least_paths, k__law_least_paths, b__law_least_paths, ok_llp F__law_least_paths T⟩
  have D13 : Df l.prog w K mg base "_law_along" _ 1 (spPdr K) _ _ := ⟨at__law_along, k__law_along, b__law_along, ok_alo F__law_along T⟩
  have D14 : Df l.prog w K mg base "_law_doors_right" _ 4 spDri _ _ := ⟨at__law_doors_right, k__law_doors_right, b__law_doors_right, ok_dri F__law_doors_right T D13 E3 D8⟩
  have D15 : Df l.prog w K mg base "_law_from_right" _ 5 (spFrr C) _ _ := ⟨at__law_from_right, k__law_from_right, b__law_from_right, ok_frr F__law_from_right T D12 D11 E2 D8 D14⟩
  have GI := ok_hinit F_m_init_ T U R1 R2
  exact ok_law F_law T U mk_ GI b_m_init_ D1 D2 D5 D10 D15 D3 D14
theorem walk {l : PySem.W.OpenLaw} {q : Program} {loose : List Str} {XP : (Str → Option Value) → Heap → Prop} {YP : World → Heap → Prop} {d : DefRec} {K : Params → PySem.W.Frag} (hn : l.most = some 63) (hdf : d.params.defaults = [])
    (hY : ∀ (w : World) (h : Heap), YP w h → (K w.params).In h)
    (F : ∀ (w : World) (mg : Str → Option Value) (fa : Addr) (h : Heap), (K w.params).In h → h.Ns mainGlobals mg → mg d.name = some (.ref fa) →
      ∃ fd : FuncData, (∀ (s : Shared) (u : Value), BindsTo s fd ⟨[u], []⟩ [("script", u)]) ∧ ∀ base : Heap, (K w.params).In base → base.Ns mainGlobals mg → FnOk l.prog w (K w.params) mg base CX0 6 fa fd ["script"] (spLaw (K w.params))) :
    PySem.W.WalkO q loose XP YP l.row.toRowW d [] (fun f vs => PySem.call f vs) :=
  L2.walk_of (n := 63) (k := 6) (x := "script") (CX := fun _ => CX0) (sp := fun w => spLaw (K w.params)) hn (by decide) hdf ⟨rfl, by decide, by decide⟩ hY F (fun _ _ a ns hl _ hS => ⟨a, ns, rfl, hS, hl, fun _ => rfl⟩) fun _ _ _ _ _ z => z
end My

open PySem PySem.W PyProof.Rows in
set_option maxRecDepth 100000 in
set_option maxHeartbeats 0 in
theorem PySem.Challenge.cw_callsheard_k04_first_path_holds : PySem.Challenge.rw_callsheard_k04_first_path.Holds := by
  w_on; o_law; k_head; (case hw => w_witness2)
  k_fill
  refine My.walk (l := PySem.Challenge.rw_callsheard_k04_first_path) rfl rfl (fun w h Y => PySem.W.kIn_of Y) ?F
  case F =>
    intro w mg fa h KX G hmg
    refine' My.all_mk KX G hmg ?aC ?pg ?hd ?po ?sa ?mk ?kc ?a_check_room_count ?l_check_room_count ?c_check_room_count ?k_check_room_count ?a_checked_doors ?l_checked_doors ?c_checked_doors ?k_checked_doors ?a_first_paths ?l_first_paths ?c_first_paths ?k_first_paths ?a_first_path ?l_first_path ?c_first_path ?k_first_path ?a_path_doors ?l_path_doors ?c_path_doors ?k_path_doors ?a__law_cell ?l__law_cell ?c__law_cell ?k__law_cell ?a__law_numbers ?l__law_numbers ?c__law_numbers ?k__law_numbers ?a__law_names ?l__law_names ?c__law_names ?k__law_names ?a__law_joined ?l__law_joined ?c__law_joined ?k__law_joined ?a__law_doors ?l__law_doors ?c__law_doors ?k__law_doors ?a__law_same ?l__law_same ?c__law_same ?k__law_same ?a__law_chosen ?l__law_chosen ?c__law_chosen ?k__law_chosen ?a__law_as_passed ?l__law_as_passed ?c__law_as_passed ?k__law_as_passed ?a__law_least_paths ?l__law_least_paths ?c__law_least_paths ?k__law_least_paths ?a__law_along ?l__law_along ?c__law_along ?k__law_along ?a__law_doors_right ?l__law_doors_right ?c__law_doors_right ?k__law_doors_right ?a__law_from_right ?l__law_from_right ?c__law_from_right ?k__law_from_right ?a_law ?l_law ?c_law ?k_law ?a_m_init_ ?l_m_init_ ?c_m_init_ ?k_m_init_ ?i_m_init_ ?a_mneighbours ?l_mneighbours ?c_mneighbours ?k_mneighbours ?i_mneighbours ?n_rooms ?n__doors ?n__near ?cr1 ?cr2 ?cv_MOST_ROOMS ?gf_nb ?tk_nb ?fi_nb ?z_len ?z_abs ?z_int ?z_range ?z_list ?z_tuple ?z_min ?z_max ?z_sorted ?z_isinstance ?z_bool ?z_str ?z_set ?z_enumerate ?z_zip
    (case aC => k_is)
    (case pg => k_is)
    (case hd => k_is)
    (case po => k_is)
    (case sa => k_is)
    (case mk => k_is)
    (case kc => k_is)
    (case a_check_room_count => k_is)
    (case l_check_room_count => k_is)
    (case c_check_room_count => k_is)
    (case k_check_room_count => k_is)
    (case a_checked_doors => k_is)
    (case l_checked_doors => k_is)
    (case c_checked_doors => k_is)
    (case k_checked_doors => k_is)
    (case a_first_paths => k_is)
    (case l_first_paths => k_is)
    (case c_first_paths => k_is)
    (case k_first_paths => k_is)
    (case a_first_path => k_is)
    (case l_first_path => k_is)
    (case c_first_path => k_is)
    (case k_first_path => k_is)
    (case a_path_doors => k_is)
    (case l_path_doors => k_is)
    (case c_path_doors => k_is)
    (case k_path_doors => k_is)
    (case a__law_cell => k_is)
    (case l__law_cell => k_is)
    (case c__law_cell => k_is)
    (case k__law_cell => k_is)
    (case a__law_numbers => k_is)
    (case l__law_numbers => k_is)
    (case c__law_numbers => k_is)
    (case k__law_numbers => k_is)
    (case a__law_names => k_is)
    (case l__law_names => k_is)
    (case c__law_names => k_is)
    (case k__law_names => k_is)
    (case a__law_joined => k_is)
    (case l__law_joined => k_is)
    (case c__law_joined => k_is)
    (case k__law_joined => k_is)
    (case a__law_doors => k_is)
    (case l__law_doors => k_is)
    (case c__law_doors => k_is)
    (case k__law_doors => k_is)
    (case a__law_same => k_is)
    (case l__law_same => k_is)
    (case c__law_same => k_is)
    (case k__law_same => k_is)
    (case a__law_chosen => k_is)
    (case l__law_chosen => k_is)
    (case c__law_chosen => k_is)
    (case k__law_chosen => k_is)
    (case a__law_as_passed => k_is)
    (case l__law_as_passed => k_is)
    (case c__law_as_passed => k_is)
    (case k__law_as_passed => k_is)
    (case a__law_least_paths => k_is)
    (case l__law_least_paths => k_is)
    (case c__law_least_paths => k_is)
    (case k__law_least_paths => k_is)
    (case a__law_along => k_is)
    (case l__law_along => k_is)
    (case c__law_along => k_is)
    (case k__law_along => k_is)
    (case a__law_doors_right => k_is)
    (case l__law_doors_right => k_is)
    (case c__law_doors_right => k_is)
    (case k__law_doors_right => k_is)
    (case a__law_from_right => k_is)
    (case l__law_from_right => k_is)
    (case c__law_from_right => k_is)
    (case k__law_from_right => k_is)
    (case a_law => k_is)
    (case l_law => k_is)
    (case c_law => k_is)
    (case k_law => k_is)
    (case a_m_init_ => k_is)
    (case l_m_init_ => k_is)
    (case c_m_init_ => k_is)
    (case k_m_init_ => k_is)
    (case i_m_init_ => k_is)
    (case a_mneighbours => k_is)
    (case l_mneighbours => k_is)
    (case c_mneighbours => k_is)
    (case k_mneighbours => k_is)
    (case i_mneighbours => k_is)
    (case n_rooms => k_is)
    (case n__doors => k_is)
    (case n__near => k_is)
    (case cr1 => k_is)
    (case cr2 => k_is)
    (case cv_MOST_ROOMS => k_is)
    (case gf_nb => k_is)
    (case tk_nb => k_is)
    (case fi_nb => k_is)
    (case z_len => k_is)
    (case z_abs => k_is)
    (case z_int => k_is)
    (case z_range => k_is)
    (case z_list => k_is)
    (case z_tuple => k_is)
    (case z_min => k_is)
    (case z_max => k_is)
    (case z_sorted => k_is)
    (case z_isinstance => k_is)
    (case z_bool => k_is)
    (case z_str => k_is)
    (case z_set => k_is)
    (case z_enumerate => k_is)
    (case z_zip => k_is)


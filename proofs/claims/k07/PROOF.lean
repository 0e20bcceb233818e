import PyProof.Rows.All
import Wide.All
import OpenK.AllK
import Wide.FinOn
import HandS.ForMost
import HandS.SortRule
import HandS.IsInst
import HandS.Deep
import HandS.Property
import HandS.TupSets
import HandS.Style
import HandS.Conv
import HandS.Evl
import HandS.ClsMeth
import PySem.Challenge.RW_callsheard_k07_whole_live_house
set_option Elab.async false
set_option linter.all false
set_option maxRecDepth 100000
namespace My
open PySem PySem.Spec PyProof.Rows L2
theorem cxK {CX : CXT} {P : Program} {w : World} {K : PySem.W.Frag} {mg : Str → Option Value} {base : Heap} {N : List Str} {q : Str} {sc : Scope} {f : Addr} {cdv : Value} {A : Around} {outer : List Env} {s : Shared} {H : Hp} {E : XK} : (cxOf CX P w K mg base N q sc f cdv A outer s H E).nox.K = K := rfl
theorem cxK2 {CX : CXT} {P : Program} {w : World} {K : PySem.W.Frag} {mg : Str → Option Value} {base : Heap} {N : List Str} {q : Str} {sc : Scope} {f : Addr} {cdv : Value} {A : Around} {outer : List Env} {s : Shared} {H : Hp} {E : XK} : (cxOf CX P w K mg base N q sc f cdv A outer s H E).K = K := rfl
theorem cxP {CX : CXT} {P : Program} {w : World} {K : PySem.W.Frag} {mg : Str → Option Value} {base : Heap} {N : List Str} {q : Str} {sc : Scope} {f : Addr} {cdv : Value} {A : Around} {outer : List Env} {s : Shared} {H : Hp} {E : XK} : (cxOf CX P w K mg base N q sc f cdv A outer s H E).prog = P := rfl
theorem cxW {CX : CXT} {P : Program} {w : World} {K : PySem.W.Frag} {mg : Str → Option Value} {base : Heap} {N : List Str} {q : Str} {sc : Scope} {f : Addr} {cdv : Value} {A : Around} {outer : List Env} {s : Shared} {H : Hp} {E : XK} : (cxOf CX P w K mg base N q sc f cdv A outer s H E).w = w := rfl
/-- built-in names that the text has not bound -/
structure Bi (mg : Str → Option Value) : Prop where
  len : mg "len" = none
  abs : mg "abs" = none
  int : mg "int" = none
  range : mg "range" = none
  list : mg "list" = none
  tuple : mg "tuple" = none
  min : mg "min" = none
  max : mg "max" = none
  sorted : mg "sorted" = none
  isinstance : mg "isinstance" = none
  bool : mg "bool" = none
  str : mg "str" = none
  set : mg "set" = none
  enumerate : mg "enumerate" = none
/-- a def of the text, bound in the module, that keeps a promise -/
structure Df (P : Program) (w : World) (K : PySem.W.Frag) (mg : Str → Option Value) (base : Heap) (x : Str) (ps : List Str) (k : Nat) (sp : Sp) (f : Addr) (fd : FuncData) : Prop where
  at_ : mg x = some (.ref f)
  kp : PySem.W.keepIn K (.ref f) = true
  b : Binds K fd ps []
  ok : FnOk P w K mg base CX0 k f fd ps sp
local macro_rules | `(tactic| walk_at "rd") => `(tactic| try simp only [cxK, cxK2, cxP, cxW, L2.start, List.length_cons, List.length_nil, List.replicate_succ, List.replicate_zero, List.map_cons, List.map_nil, List.cons_append, List.nil_append, tVar, tC, tAdd, tSub, t2I, tIsN, tNotN, tB, tAnd, tOr, tNot, tAndV, tOrV, tNotV, tIf, tNext, tSeq, tBreak, tCont, tDrop, tRet, tRetN, tIfS, gName, gNil, gCons, gTup, gSub, tAsg, tOp, tUn, rI, rI0, rU, tTest, tChain, tNil, tCons, tTup, tLst, tCall, tCB, tNoPart, tPart, tSl, rIxL, rIxT, rIxS, rSetL, rAppend, rExtend, tBM, tBM0, tFld, tMeth, tMake, sFld, tYes, tLstRg, tRg1, tRg2, rSlL, iRng1, iRng2, iList, List.getElem?_cons_zero, List.getElem?_cons_succ, Option.some.injEq, List.cons.injEq, V.int.injEq, V.ref.injEq, V.bl.injEq, V.str.injEq, exists_eq_left', exists_eq_left, exists_eq_right, exists_eq_right', true_and, and_true, and_assoc, exists_and_left, exists_and_right, List.set_cons_zero, List.set_cons_succ, List.append_nil, reduceCtorEq, false_and, and_false, exists_false, or_false, false_or, decide_eq_true_eq, Nat.reduceAdd, Nat.reduceSub])
section
variable {X : Cx}
theorem cr_intI : CallR X (.type "int") (fun xs H Q => ∃ i, xs = [.int i] ∧ Q (.int i) H) := fun pins s σ H xs us Q I r h => call_int1 pins s σ H xs us Q I r (.inl h)
theorem op_eqI : OpR X (compareOp .Eq) (rI0 fun i j => .bl (decide (i = j))) := fun pins s σ H x y v u Q I rx ry h => by
  obtain ⟨i, j, rfl, rfl, q⟩ := h
  have e : decide (i = j) = decide (V.int i = V.int j) := by
    by_cases h : i = j
    · subst h
      rw [decide_eq_true rfl, decide_eq_true rfl]
    · rw [decide_eq_false h, decide_eq_false (fun z => h (V.int.inj z))]
  exact op_eq pins s σ H _ _ v u Q I rx ry ⟨rfl, by rw [← e]; exact q⟩
theorem op_neI : OpR X (compareOp .NotEq) (rI0 fun i j => .bl (!decide (i = j))) := fun pins s σ H x y v u Q I rx ry h => by
  obtain ⟨i, j, rfl, rfl, q⟩ := h
  have e : decide (i = j) = decide (V.int i = V.int j) := by
    by_cases h : i = j
    · subst h
      rw [decide_eq_true rfl, decide_eq_true rfl]
    · rw [decide_eq_false h, decide_eq_false (fun z => h (V.int.inj z))]
  exact op_ne pins s σ H _ _ v u Q I rx ry ⟨rfl, by rw [← e]; exact q⟩
def rIsT : R2 := fun x y H Q => ∃ b : Bool, y = .bl b ∧ Q (.bl (decide (x = .bl b))) H
/-- x is True, x is False -/
theorem op_isT : OpR X (compareOp .Is) rIsT := by
  intro pins s σ H x y v u Q I rx ry h
  obtain ⟨b, rfl, q⟩ := h
  cases (show u = Value.bool b from ry)
  cases x with
  | non => cases (show v = Value.none from rx); exact wpAny_is_other rfl (fun z => nomatch z) ⟨.bl false, H, I, rfl, by simpa using q⟩
  | bl a =>
    cases (show v = Value.bool a from rx)
    by_cases e : a = b
    · subst e
      exact wpAny_is_self rfl ⟨.bl true, H, I, rfl, by simpa using q⟩
    · exact wpAny_is_other rfl (fun z => e (Value.bool.inj z)) ⟨.bl false, H, I, rfl, by simpa [e] using q⟩
  | int i => obtain ⟨t, e⟩ := (show ∃ t, v = Value.int i t from rx); cases e; exact wpAny_is_other rfl (fun z => nomatch z) ⟨.bl false, H, I, rfl, by simpa using q⟩
  | str i => obtain ⟨t, e⟩ := (show ∃ t, v = Value.str i t from rx); cases e; exact wpAny_is_other rfl (fun z => nomatch z) ⟨.bl false, H, I, rfl, by simpa using q⟩
  | byt i => obtain ⟨t, e⟩ := (show ∃ t, v = Value.bytes i t from rx); cases e; exact wpAny_is_other rfl (fun z => nomatch z) ⟨.bl false, H, I, rfl, by simpa using q⟩
  | flt i => obtain ⟨t, e⟩ := (show ∃ t, v = Value.float i t from rx); cases e; exact wpAny_is_other rfl (fun z => nomatch z) ⟨.bl false, H, I, rfl, by simpa using q⟩
  | ref a => cases (show v = Value.ref a from rx); exact wpAny_is_other rfl (fun z => nomatch z) ⟨.bl false, H, I, rfl, by simpa using q⟩
  | ty n => cases (show v = Value.type n from rx); exact wpAny_is_other rfl (fun z => nomatch z) ⟨.bl false, H, I, rfl, by simpa using q⟩
end
theorem same_upd {H : Hp} {p : Addr} {o : HO} (h : H p = none) : Same H (upd H p o) := fun b x e => by
  rw [upd_ne (ne_of_none e h)]
  exact e
/-- a list that was new and is changed: what stood before stands -/
theorem same_ch {H0 H : Hp} {p : Addr} {o : HO} (s : Same H0 H) (n : H0 p = none) : Same H0 (upd H p o) := fun b x e => by
  rw [upd_ne (ne_of_none e n)]
  exact s _ _ e
theorem ixn {n j : Nat} {z : Int} (e : z = (j : Int)) (hj : j < n) : ixN n z = some j := by
  rw [e]
  unfold ixN
  rw [if_pos (by omega), if_pos (by omega)]
  simp
theorem len_big {n : Nat} (h : n ≤ 100000) : n < sizeLine := Nat.lt_of_le_of_lt h (by decide)
theorem mem_ix {α : Type} {l : List α} {i : Nat} (h : i < l.length) : ∃ x, l[i]? = some x ∧ x ∈ l := ⟨l[i], List.getElem?_eq_getElem h, List.getElem_mem h⟩

def topS (i : Nat) : Stmt := PySem.Challenge.pw_callsheard_k07_whole_live_house.main.body.getD i (.Pass ⟨0, 0, 0, 0⟩)
abbrev sCell : Stmt := topS 16
abbrev sNum : Stmt := topS 17
def cellN (ns : List Int) (k : Nat) : Int := (ns.getD k 0).natAbs
theorem cellN_nn (ns : List Int) (k : Nat) : 0 ≤ cellN ns k := Int.natCast_nonneg _
section
variable {P : Program} {w : World} {K : PySem.W.Frag} {mg : Str → Option Value} {base : Heap}
theorem scCell : FnScope ["script", "k"] ["script", "k"] (defScope sCell) := ⟨rfl, rfl, rfl, by decide +kernel, rfl, by decide +kernel, by decide +kernel⟩
def spCell (K : PySem.W.Frag) : Sp := fun vs H Q _ => ∃ (a : Addr) (ns : List Int) (k : Nat), vs = [.ref a, .int k] ∧ SqL K H a (ns.map V.int) ∧ ∀ c, 0 ≤ c → Q (.int c) H
theorem ok_cell {f : Addr} {fd : FuncData} (F : Fun K "_law_cell" "_law_cell" sCell f fd) (T : Bi mg) : FnOk P w K mg base CX0 1 f fd ["script", "k"] (spCell K) := by
  refine F.ok scCell (fun vs H Q E h => ?_) (fun cdv A outer s H vs Q E hr h => ?_)
  · obtain ⟨a, ns, k, rfl, _⟩ := h
    rfl
  · obtain ⟨a, ns, k, rfl, hS, q⟩ := h
    refine ⟨_, (pss_cons (ps_if (pt_cmpR op_lt (pv 1) (pe_callB call_len_seq (by rfl) T.len (by decide +kernel) (pa_cons (pv 0) pa_nil)) (nomark _))
      (pss_one (ps_ret (pe_callB call_abs (by rfl) T.abs (by decide +kernel) (pa_cons (pe_callTy cr_intI (by rfl) T.int (by decide +kernel) (pa_cons (pe_ix ix_list (pv 0) (pv 1) (fun _ _ => rfl)) pa_nil)) pa_nil))))
      pss_nil)
      (pss_one (ps_ret pe_int))), ?_⟩
    walk_at "rd"
    refine ⟨_, .inl hS, ?_⟩
    rw [List.length_map]
    refine ite2 (fun hk => ?_) (fun _ => q _ (Int.le_refl _))
    have hk2 : k < ns.length := by omega
    refine ⟨_, hS, V.int ns[k], atI_nat (by rw [List.getElem?_map, List.getElem?_eq_getElem hk2]; rfl), _, rfl, ?_⟩
    refine q _ ?_
    split <;> omega
theorem scNum : FnScope ["cell", "count", "numbers", "rest", "mixed", "k"] ["cell", "count"] (defScope sNum) := ⟨rfl, rfl, rfl, by decide +kernel, rfl, by decide +kernel, by decide +kernel⟩
/-- n ints from 0 on below 997 -/
def Nums (n : Nat) (ns : List Int) : Prop := ns.length = n ∧ ∀ x ∈ ns, 0 ≤ x ∧ x < 997
def spNum (K : PySem.W.Frag) : Sp := fun vs H Q _ => ∃ (c : Int) (n : Nat), vs = [.int c, .int n] ∧ n ≤ 1000 ∧ ∀ ns p H', Nums n ns → Same H H' → H p = none → H' p = some (.lst (ns.map V.int)) → Q (.ref p) H'
theorem ok_num {f : Addr} {fd : FuncData} (F : Fun K "_law_numbers" "_law_numbers" sNum f fd) (T : Bi mg) : FnOk P w K mg base CX0 1 f fd ["cell", "count"] (spNum K) := by
  refine F.ok scNum (fun vs H Q E h => ?_) (fun cdv A outer s H vs Q E hr h => ?_)
  · obtain ⟨c, n, rfl, _⟩ := h
    rfl
  · obtain ⟨c, n, rfl, hn, q⟩ := h
    refine ⟨_, (pss_cons (ps_set (i := 2) scNum.nd rfl (Or.inl rfl) (pe_lst pa_nil))
      (pss_cons (ps_set (i := 3) scNum.nd rfl (Or.inl rfl) (pv 0))
      (pss_cons (ps_set (i := 4) scNum.nd rfl (Or.inl rfl) (pe_op op_mod (pe_callTy cr_intI (by rfl) T.int (by decide +kernel) (pa_cons (pe_op op_add (pe_op op_mul (pv 0) pe_int) pe_int) pa_nil)) pe_int))
      (pss_cons (ps_for PassesOwn.never rfl (pi_range1 (by rfl) T.range (pa_cons (pv 1) pa_nil)) (pg_name (i := 5) scNum.nd rfl (Or.inl rfl))
      (pss_cons (ps_set (i := 4) scNum.nd rfl (Or.inl rfl) (pe_op op_mod (pe_callTy cr_intI (by rfl) T.int (by decide +kernel) (pa_cons (pe_op op_add (pe_op op_add (pe_op op_mul (pv 4) pe_int) (pe_op op_mul pe_int (pv 5))) pe_int) pa_nil)) pe_int))
        (pss_one (ps_if (pt_cmpR op_ge (pv 0) (pe_op op_pow pe_int pe_int) (nomark _))
        (pss_cons (ps_expr (pe_bm PySem.F.plainAttrs_list PySem.F.slot_list_append PySem.F.type_list_append mt_append (pv 2) (pa_cons (pe_op op_mod (pe_callTy cr_intI (by rfl) T.int (by decide +kernel) (pa_cons (pv 3) pa_nil)) pe_int) pa_nil)))
          (pss_one (ps_set (i := 3) scNum.nd rfl (Or.inl rfl) (pe_op op_fdiv (pv 3) pe_int))))
        (pss_one (ps_expr (pe_bm PySem.F.plainAttrs_list PySem.F.slot_list_append PySem.F.type_list_append mt_append (pv 2) (pa_cons (pe_op op_mod (pe_callTy cr_intI (by rfl) T.int (by decide +kernel) (pa_cons (pe_op op_fdiv (pv 4) pe_int) pa_nil)) pe_int) pa_nil))))))))
      (pss_one (ps_ret (pv 2))))))), ?_⟩
    walk_at "rd"
    refine ⟨by decide, fun p np => ⟨.inr (by decide), by decide, ?_⟩⟩
    refine ⟨_, rfl, _, rfl, by omega, by omega, for_range (lo := 0) (n := (n : Int).toNat) (fun i σ H' => ∃ (ns : List Int) (rest mixed : Int) (v : Option V), σ = [some (.int c), some (.int n), some (.ref p), some (.int rest), some (.int mixed), v] ∧ Nums i ns ∧ Same H H' ∧ H' p = some (.lst (ns.map V.int)))
      ⟨[], c, _, none, rfl, ⟨rfl, fun x hx => by cases hx⟩, same_upd np, upd_same⟩ ?_ ?_⟩
    · rintro i σ H' hi ⟨ns, rest, mixed, v, rfl, hns, sm, hp⟩
      have small : (List.map V.int ns).length < sizeLine := len_big (by rw [List.length_map, hns.1]; omega)
      have next : ∀ y, 0 ≤ y → y < 997 → Nums (i + 1) (ns ++ [y]) := fun y h0 h1 => by
        refine ⟨by rw [List.length_append, hns.1]; rfl, fun x hx => ?_⟩
        rcases List.mem_append.mp hx with hx | hx
        · exact hns.2 x hx
        · rw [List.mem_singleton.mp hx]
          exact ⟨h0, h1⟩
      have ty : tyV K "list" (.ref p) H' := .inl ⟨rfl, _, SqL.of hp⟩
      walk_at "rd"
      refine ⟨.inr (by decide), .inl (by decide), by decide, ⟨by decide, by decide, by decide⟩, ite2 (fun _ => ?_) (fun _ => ?_)⟩
      · refine ⟨ty, by decide, _, hp, small, ⟨by decide, by decide⟩, ns ++ [rest % 997], next _ (Int.emod_nonneg _ (by decide)) (Int.emod_lt_of_pos _ (by decide)), same_ch sm np, ?_⟩
        rw [upd_same, List.map_append]
        rfl
      · refine ⟨ty, ⟨by decide, by decide⟩, by decide, _, hp, small, ns ++ [(mixed * 48271 + 7919 * (0 + (i : Int)) + 12345) % 2147483647 / 1009 % 997], next _ (Int.emod_nonneg _ (by decide)) (Int.emod_lt_of_pos _ (by decide)), same_ch sm np, ?_⟩
        rw [upd_same, List.map_append]
        rfl
    · rintro σ H' ⟨ns, rest, mixed, v, rfl, hns, sm, hp⟩
      walk_at "rd"
      exact q ns p H' (by simpa using hns) sm np hp
end

/-! ### pairs of ints in the heap -/
abbrev Pr := Int × Int
/-- v is a tuple of the two ints -/
def IsP (H : Hp) (v : V) (d : Pr) : Prop := ∃ t, v = .ref t ∧ H t = some (.tup [.int d.1, .int d.2])
def PL (H : Hp) (vs : List V) (D : List Pr) : Prop := Paired (IsP H) vs D
def kH (H : Hp) (v : V) : Pr := match v with
  | .ref t => match H t with
    | some (.tup [.int x, .int y]) => (x, y)
    | _ => (0, 0)
  | _ => (0, 0)
theorem IsP.k {H : Hp} {v : V} {d : Pr} (h : IsP H v d) : kH H v = d := by
  obtain ⟨t, rfl, e⟩ := h
  unfold kH
  simp only [e]
/-- tuples stand -/
def KT (H H' : Hp) : Prop := ∀ t xs, H t = some (.tup xs) → H' t = some (.tup xs)
theorem KT.refl (H : Hp) : KT H H := fun _ _ h => h
theorem KT.trans {H H1 H2 : Hp} (a : KT H H1) (b : KT H1 H2) : KT H H2 := fun t xs h => b t xs (a t xs h)
theorem KT.same {H H' : Hp} (s : Same H H') : KT H H' := fun t xs h => s t _ h
theorem KT.new {H : Hp} {p : Addr} {o : HO} (n : H p = none) : KT H (upd H p o) := KT.same (same_upd n)
theorem KT.ch {H : Hp} {p : Addr} {o o' : HO} (n : H p = some o') (ho : ∀ xs, o' ≠ .tup xs) : KT H (upd H p o) := fun t xs h => by
  rw [upd_ne]
  · exact h
  · rintro rfl
    rw [h] at n
    exact ho xs (Option.some.inj n).symm
theorem KT.lst {H : Hp} {p : Addr} {o : HO} {vs : List V} (n : H p = some (.lst vs)) : KT H (upd H p o) := KT.ch n (fun _ h => by cases h)
theorem IsP.kt {H H' : Hp} {v : V} {d : Pr} (h : IsP H v d) (k : KT H H') : IsP H' v d := by
  obtain ⟨t, e, h⟩ := h
  exact ⟨t, e, k _ _ h⟩
theorem PL.kt {H H' : Hp} {vs : List V} {D : List Pr} (h : PL H vs D) (k : KT H H') : PL H' vs D := Paired.mapP h fun _ _ q => q.kt k
theorem PL.len {H : Hp} {vs : List V} {D : List Pr} (h : PL H vs D) : vs.length = D.length := Paired.length h
theorem PL.nil0 (H : Hp) : PL H [] [] := Paired.nil
theorem PL.snoc {H : Hp} {vs : List V} {D : List Pr} {v : V} {d : Pr} (h : PL H vs D) (q : IsP H v d) : PL H (vs ++ [v]) (D ++ [d]) := Paired.snoc h q
theorem PL.get : ∀ {H : Hp} {vs : List V} {D : List Pr} {i : Nat} {v : V}, PL H vs D → vs[i]? = some v → ∃ d, D[i]? = some d ∧ IsP H v d
  | _, _, _, _, _, Paired.nil, e => by simp at e
  | _, _, _, 0, v, .cons r _, e => by
    have e2 := Option.some.inj e
    subst e2
    exact ⟨_, rfl, r⟩
  | _, _, _, i + 1, v, .cons _ t, e => PL.get (i := i) t e
theorem PL.get2 : ∀ {H : Hp} {vs : List V} {D : List Pr} {i : Nat} {d : Pr}, PL H vs D → D[i]? = some d → ∃ v, vs[i]? = some v ∧ IsP H v d
  | _, _, _, _, _, Paired.nil, e => by simp at e
  | _, _, _, 0, v, .cons r _, e => by
    have e2 := Option.some.inj e
    subst e2
    exact ⟨_, rfl, r⟩
  | _, _, _, i + 1, v, .cons _ t, e => PL.get2 (i := i) t e
theorem PL.toK : ∀ {H : Hp} {vs : List V} {D : List Pr}, PL H vs D → D = vs.map (kH H) ∧ ∀ v ∈ vs, IsP H v (kH H v)
  | _, _, _, Paired.nil => ⟨rfl, fun v hv => by cases hv⟩
  | H, _, _, .cons r t => by
    obtain ⟨e, h⟩ := PL.toK t
    have q := r.k
    refine ⟨by rw [List.map_cons, ← e, q], fun v hv => ?_⟩
    rcases List.mem_cons.mp hv with rfl | hv
    · rw [q]
      exact r
    · exact h v hv
theorem PL.ofK {H : Hp} : ∀ {vs : List V}, (∀ v ∈ vs, IsP H v (kH H v)) → PL H vs (vs.map (kH H))
  | [], _ => Paired.nil
  | v :: vs, h => .cons (h v List.mem_cons_self) (PL.ofK fun u hu => h u (List.mem_cons_of_mem _ hu))
/-! ### sorted lists of pairs -/
def lt2 (p q : Pr) : Prop := p.1 < q.1 ∨ (p.1 = q.1 ∧ p.2 < q.2)
def Asc (D : List Pr) : Prop := D.Pairwise lt2
theorem lt2_irr (p : Pr) : ¬ lt2 p p := by
  unfold lt2
  omega
theorem lt2_ne {p q : Pr} (h : lt2 p q) : p ≠ q := by
  rintro rfl
  exact lt2_irr p h
theorem Asc.nodup {D : List Pr} (h : Asc D) : D.Nodup := List.Pairwise.imp lt2_ne h
theorem asc_of {D : List Pr} (nd : D.Nodup) (h : D.Pairwise fun x y => ¬ lt2 y x) : Asc D := by
  induction D with
  | nil => exact List.Pairwise.nil
  | cons p D ih =>
    obtain ⟨h1, h2⟩ := List.pairwise_cons.mp h
    obtain ⟨n1, n2⟩ := List.nodup_cons.mp nd
    refine List.pairwise_cons.mpr ⟨fun q hq => ?_, ih n2 h2⟩
    have a := h1 q hq
    have b : p ≠ q := fun e => n1 (by rw [e]; exact hq)
    unfold lt2 at a ⊢
    obtain ⟨p1, p2⟩ := p
    obtain ⟨q1, q2⟩ := q
    have c : ¬ (p1 = q1 ∧ p2 = q2) := fun ⟨e1, e2⟩ => b (by rw [e1, e2])
    simp only at a ⊢
    omega
/-- two ascending lists with the same pairs are one -/
theorem asc_uniq : ∀ {D E : List Pr}, Asc D → Asc E → (∀ p, p ∈ D ↔ p ∈ E) → D = E
  | [], [], _, _, _ => rfl
  | [], q :: E, _, _, h => by
    have := (h q).mpr List.mem_cons_self
    cases this
  | p :: D, [], _, _, h => by
    have := (h p).mp List.mem_cons_self
    cases this
  | p :: D, q :: E, hD, hE, h => by
    obtain ⟨a1, a2⟩ := List.pairwise_cons.mp hD
    obtain ⟨b1, b2⟩ := List.pairwise_cons.mp hE
    have e : p = q := by
      rcases List.mem_cons.mp ((h p).mp List.mem_cons_self) with e | hp
      · exact e
      · rcases List.mem_cons.mp ((h q).mpr List.mem_cons_self) with e | hq
        · exact e.symm
        · have c1 := b1 p hp
          have c2 := a1 q hq
          unfold lt2 at c1 c2
          omega
    subst e
    rw [asc_uniq a2 b2 fun z => ?_]
    constructor
    · intro hz
      rcases List.mem_cons.mp ((h z).mp (List.mem_cons_of_mem _ hz)) with e | hz2
      · subst e
        exact absurd (a1 z hz) (lt2_irr z)
      · exact hz2
    · intro hz
      rcases List.mem_cons.mp ((h z).mpr (List.mem_cons_of_mem _ hz)) with e | hz2
      · subst e
        exact absurd (b1 z hz) (lt2_irr z)
      · exact hz2
theorem srtd_asc {H : Hp} {ys : List V} (nd : (ys.map (kH H)).Nodup) (h : SrtO.Srtd (ltP (kH H)) ys) : Asc (ys.map (kH H)) := by
  refine asc_of nd (List.pairwise_map.mpr (List.Pairwise.imp (fun {x y} h => ?_) h))
  exact SrtO.lexB_no.mp h
/-- doors of a house with r rooms -/
structure Drs (r : Nat) (D : List Pr) : Prop where
  asc : Asc D
  ok : ∀ d ∈ D, 0 ≤ d.1 ∧ d.1 < d.2 ∧ d.2 < r
def cd (d : Pr) : Nat := (d.1 * 12 + d.2).toNat
theorem drs_len' {r : Nat} {D : List Pr} (hr : r ≤ 12) (nd : D.Nodup) (ok : ∀ d ∈ D, 0 ≤ d.1 ∧ d.1 < d.2 ∧ d.2 < r) : D.length ≤ 66 := by
  have h1 : (D.map cd).Nodup := by
    refine List.pairwise_map.mpr (List.Pairwise.imp_of_mem (fun {x y} hx hy hne e => ?_) nd)
    have a := ok x hx
    have b := ok y hy
    unfold cd at e
    obtain ⟨x1, x2⟩ := x
    obtain ⟨y1, y2⟩ := y
    simp only at a b e
    have : x1 = y1 ∧ x2 = y2 := by omega
    exact hne (by rw [this.1, this.2])
  have h2 : ∀ c ∈ D.map cd, c ∈ (List.range 144).filter fun c => c / 12 < c % 12 := fun c hc => by
    obtain ⟨d, hd, rfl⟩ := List.mem_map.mp hc
    have a := ok d hd
    refine List.mem_filter.mpr ⟨List.mem_range.mpr ?_, ?_⟩
    · unfold cd
      omega
    · rw [decide_eq_true_eq]
      unfold cd
      omega
  have h3 := nat_nodup_len (D.map cd) _ h1 h2
  rw [List.length_map] at h3
  exact Nat.le_trans h3 (by decide)
theorem Drs.len {r : Nat} {D : List Pr} (hr : r ≤ 12) (h : Drs r D) : D.length ≤ 66 := drs_len' hr h.asc.nodup h.ok

abbrev sNam : Stmt := topS 18
abbrev sJnd : Stmt := topS 19
theorem sub_lt_of {i n : Nat} (h : i < n) : (0 : Int) < (n : Int) - (i : Int) := by omega
/-- the ints from 0 on below n -/
def rg (n : Nat) : List Int := (List.range n).map Int.ofNat
theorem rg_len (n : Nat) : (rg n).length = n := by unfold rg; rw [List.length_map, List.length_range]
theorem rgV_rg (n : Nat) : rgV 0 (n : Int) = (rg n).map V.int := by
  unfold rgV rg
  rw [List.map_map]
  show List.map _ (List.range ((n : Int) - 0).toNat) = _
  rw [show ((n : Int) - 0).toNat = n by omega]
  refine List.map_congr_left fun i _ => ?_
  show V.int (0 + (i : Int)) = V.int (i : Int)
  rw [Int.zero_add]
theorem set_map {α β : Type} (f : α → β) (l : List α) (i : Nat) (x : α) : (l.map f).set i (f x) = (l.set i x).map f := by
  rw [List.map_set]
section
variable {P : Program} {w : World} {K : PySem.W.Frag} {mg : Str → Option Value} {base : Heap}
theorem scNam : FnScope ["numbers", "at", "rooms", "names", "k", "j", "kept"] ["numbers", "at", "rooms"] (defScope sNam) := ⟨rfl, rfl, rfl, by decide +kernel, rfl, by decide +kernel, by decide +kernel⟩
def spNam (K : PySem.W.Frag) : Sp := fun vs H Q _ => ∃ (a : Addr) (ns : List Int) (at_ r : Nat), vs = [.ref a, .int at_, .int r] ∧ SqL K H a (ns.map V.int) ∧ at_ + r ≤ ns.length ∧ r ≤ 1000 ∧
  ∀ xs p H', List.Perm xs (rg r) → Same H H' → H p = none → H' p = some (.lst (xs.map V.int)) → Q (.ref p) H'
theorem ok_nam {f : Addr} {fd : FuncData} (F : Fun K "_law_names" "_law_names" sNam f fd) (T : Bi mg) : FnOk P w K mg base CX0 1 f fd ["numbers", "at", "rooms"] (spNam K) := by
  refine F.ok scNam (fun vs H Q E h => ?_) (fun cdv A outer s H vs Q E hr h => ?_)
  · obtain ⟨a, ns, at_, r, rfl, _⟩ := h
    rfl
  · obtain ⟨a, ns, at_, r, rfl, hS, hat, hr1, q⟩ := h
    refine ⟨_, (pss_cons (ps_set (i := 3) scNam.nd rfl (Or.inl rfl) (pe_listRg rfl (by rfl) T.list (prg_1 (by rfl) T.range (pv 2))))
      (pss_cons (ps_for PassesOwn.never rfl (pi_range1 (by rfl) T.range (pa_cons (pv 2) pa_nil)) (pg_name (i := 4) scNam.nd rfl (Or.inl rfl))
      (pss_cons (ps_set (i := 5) scNam.nd rfl (Or.inl rfl) (pe_op op_add (pv 4) (pe_op op_mod (pe_callTy cr_intI (by rfl) T.int (by decide +kernel) (pa_cons (pe_ix ix_list (pv 0) (pe_op op_add (pv 1) (pv 4)) (fun _ _ => rfl)) pa_nil)) (pe_op op_sub (pv 2) (pv 4)))))
        (pss_cons (ps_set (i := 6) scNam.nd rfl (Or.inl rfl) (pe_ix ix_list (pv 3) (pv 4) (fun _ _ => rfl)))
        (pss_cons (ps_asg (pe_ix ix_list (pv 3) (pv 5) (fun _ _ => rfl)) (pg_sub (pv 3) (pv 4) set_list))
        (pss_one (ps_asg (pv 6) (pg_sub (pv 3) (pv 5) set_list)))))))
      (pss_one (ps_ret (pv 3))))), ?_⟩
    walk_at "rd"
    refine ⟨RgOk.of_le (by omega) (by omega) (by omega) (by omega), fun p np => ?_⟩
    refine ⟨_, rfl, r, rfl, by omega, by omega, for_range (lo := 0) (n := (r : Int).toNat) (fun i σ H' => ∃ (xs : List Int) (v1 v2 v3 : Option V), σ = [some (.ref a), some (.int at_), some (.int r), some (.ref p), v1, v2, v3] ∧ List.Perm xs (rg r) ∧ Same H H' ∧ H' p = some (.lst (xs.map V.int)))
      ⟨rg r, none, none, none, rfl, List.Perm.refl _, same_upd np, by rw [upd_same, rgV_rg]⟩ ?_ ?_⟩
    · rintro i σ H' hi ⟨xs, v1, v2, v3, rfl, pm, sm, hp⟩
      have hi2 : i < r := by omega
      have hl : xs.length = r := by rw [pm.length_eq, rg_len]
      have hS' := sm.seq hS
      have hn : at_ + i < ns.length := by omega
      have hq : SqL K H' p (xs.map V.int) := SqL.of hp
      walk_at "rd"
      have hj0 := Int.emod_nonneg ns[at_ + i] (show ((r : Int) - (0 + (i : Int))) ≠ 0 by omega)
      have hj1 := Int.emod_lt_of_pos ns[at_ + i] (show 0 < ((r : Int) - (0 + (i : Int))) by omega)
      obtain ⟨j, hj⟩ : ∃ j : Nat, (0 + (i : Int)) + ns[at_ + i] % ((r : Int) - (0 + (i : Int))) = j := ⟨((0 + (i : Int)) + ns[at_ + i] % ((r : Int) - (0 + (i : Int)))).toNat, by omega⟩
      have hjr : j < r := by omega
      have gi : (xs.map V.int)[i]? = some (.int xs[i]) := by rw [List.getElem?_map, List.getElem?_eq_getElem (by omega)]; rfl
      have gj : (xs.map V.int)[j]? = some (.int xs[j]) := by rw [List.getElem?_map, List.getElem?_eq_getElem (by omega)]; rfl
      refine ⟨_, hS', .int ns[at_ + i], at_of (j := at_ + i) (by omega) (by rw [List.getElem?_map, List.getElem?_eq_getElem hn]; rfl), _, rfl, by omega, _, hq, .int xs[i], at_of (by omega) gi, _, hq, .int xs[j], at_of hj gj, _, hp, i, ixn (by omega) (by rw [List.length_map]; omega), _, upd_same, j, ixn hj (by rw [List.length_set, List.length_map]; omega), (xs.set i xs[j]).set j xs[i], (List.set_set_perm (by omega) (by omega)).trans pm, same_ch (same_ch sm np) np, ?_⟩
      rw [upd_same, set_map, set_map]
    · rintro σ H' ⟨xs, v1, v2, v3, rfl, pm, sm, hp⟩
      walk_at "rd"
      exact q xs p H' pm sm np hp
theorem scJnd : FnScope ["kind", "a", "b", "rooms", "number", "parent"] ["kind", "a", "b", "rooms", "number", "parent"] (defScope sJnd) := ⟨rfl, rfl, rfl, by decide +kernel, rfl, by decide +kernel, by decide +kernel⟩
def spJnd : Sp := fun vs H Q _ => ∃ (kd a b r n p : Int), vs = [.int kd, .int a, .int b, .int r, .int n, .int p] ∧ 0 < b ∧ ∀ c, Q (.bl c) H
theorem ok_jnd {f : Addr} {fd : FuncData} (F : Fun K "_law_joined" "_law_joined" sJnd f fd) (T : Bi mg) : FnOk P w K mg base CX0 1 f fd ["kind", "a", "b", "rooms", "number", "parent"] spJnd := by
  refine F.ok scJnd (fun vs H Q E h => ?_) (fun cdv A outer s H vs Q E hr h => ?_)
  · obtain ⟨kd, a, b, r, n, p, rfl, _⟩ := h
    rfl
  · obtain ⟨kd, a, b, r, n, p, rfl, hb, q⟩ := h
    refine ⟨_, (pss_cons (ps_if (pt_cmpR op_eqI (pv 0) pe_int (nomark _))
      (pss_one (ps_ret (pe_cmpR op_eqI (pv 1) pe_int (nomark _))))
      pss_nil)
      (pss_cons (ps_if (pt_cmpR op_eqI (pv 0) pe_int (nomark _))
      (pss_one (ps_ret (pe_or (pe_cmpR op_eqI (pv 2) (pe_op op_add (pv 1) pe_int) (nomark _)) (pe_one (pe_and (pe_cmpR op_eqI (pv 1) pe_int (nomark _)) (pe_one (pe_cmpR op_eqI (pv 2) (pe_op op_sub (pv 3) pe_int) (nomark _))))))))
      pss_nil)
      (pss_cons (ps_if (pt_cmpR op_eqI (pv 0) pe_int (nomark _))
      (pss_one (ps_ret pe_bl))
      pss_nil)
      (pss_cons (ps_if (pt_cmpR op_eqI (pv 0) pe_int (nomark _))
      (pss_one (ps_ret (pe_cmpR op_eqI (pv 1) (pe_op op_mod (pe_callTy cr_intI (by rfl) T.int (by decide +kernel) (pa_cons (pv 5) pa_nil)) (pv 2)) (nomark _))))
      pss_nil)
      (pss_cons (ps_if (pt_cmpR op_eqI (pv 0) pe_int (nomark _))
      (pss_one (ps_ret (pe_cmpR op_eqI (pe_op op_mod (pe_callTy cr_intI (by rfl) T.int (by decide +kernel) (pa_cons (pv 4) pa_nil)) pe_int) pe_int (nomark _))))
      pss_nil)
      (pss_cons (ps_if (pt_cmpR op_eqI (pv 0) pe_int (nomark _))
      (pss_one (ps_ret (pe_cmpR op_eqI (pe_op op_mod (pe_callTy cr_intI (by rfl) T.int (by decide +kernel) (pa_cons (pv 4) pa_nil)) pe_int) pe_int (nomark _))))
      pss_nil)
      (pss_cons (ps_if (pt_cmpR op_eqI (pv 0) pe_int (nomark _))
      (pss_one (ps_ret (pe_cmpR op_neI (pe_op op_mod (pe_callTy cr_intI (by rfl) T.int (by decide +kernel) (pa_cons (pv 4) pa_nil)) pe_int) pe_int (nomark _))))
      pss_nil)
      (pss_one (ps_ret (pe_cmpR op_eqI (pv 2) (pe_op op_add (pv 1) pe_int) (nomark _))))))))))), ?_⟩
    walk_at "rd"
    repeat (first | exact q _ | exact hb | decide | refine ⟨?_, ?_⟩ | refine ite2 (fun _ => ?_) (fun _ => ?_) | split)
end

abbrev sDrs : Stmt := topS 20
/-- min and max of the two names -/
def mm (xs : List Int) (p : Nat × Nat) : Pr := (if xs.getD p.2 0 < xs.getD p.1 0 then xs.getD p.2 0 else xs.getD p.1 0, if xs.getD p.2 0 > xs.getD p.1 0 then xs.getD p.2 0 else xs.getD p.1 0)
/-- pairs that have been met when the outer loop stands at b, the inner at a -/
structure Vis (r b a : Nat) (L : List (Nat × Nat)) : Prop where
  ok : ∀ p ∈ L, p.1 < p.2 ∧ p.2 < r ∧ (p.2 < b ∨ (p.2 = b ∧ p.1 < a))
  nd : L.Nodup
theorem Vis.zero (r : Nat) : Vis r 1 0 [] := ⟨fun p h => (by cases h), List.nodup_nil⟩
theorem Vis.skip {r b a : Nat} {L : List (Nat × Nat)} (h : Vis r b a L) : Vis r b (a + 1) L := by
  refine ⟨fun p hp => ?_, h.nd⟩
  have := h.ok p hp
  omega
theorem Vis.row {r b : Nat} {L : List (Nat × Nat)} (h : Vis r b b L) : Vis r (b + 1) 0 L := by
  refine ⟨fun p hp => ?_, h.nd⟩
  have := h.ok p hp
  omega
theorem Vis.more {r b a : Nat} {L : List (Nat × Nat)} (h : Vis r b a L) (hb : b < r) (ha : a < b) : Vis r b (a + 1) (L ++ [(a, b)]) := by
  refine ⟨fun p hp => ?_, ?_⟩
  · rcases List.mem_append.mp hp with hp | hp
    · have := h.ok p hp
      omega
    · rw [List.mem_singleton.mp hp]
      exact ⟨ha, hb, .inr ⟨rfl, Nat.lt_succ_self a⟩⟩
  · refine List.nodup_append.mpr ⟨h.nd, by simp, fun p hp q hq => ?_⟩
    rw [List.mem_singleton.mp hq]
    rintro rfl
    have := h.ok _ hp
    simp only at this
    omega
theorem rg_nodup (n : Nat) : (rg n).Nodup := by
  unfold rg
  exact List.pairwise_map.mpr (List.Pairwise.imp (fun {x y} h e => h (Int.ofNat.inj e)) List.nodup_range)
theorem rg_mem {n : Nat} {x : Int} (h : x ∈ rg n) : 0 ≤ x ∧ x < n := by
  obtain ⟨i, hi, rfl⟩ := List.mem_map.mp h
  have := List.mem_range.mp hi
  show 0 ≤ (i : Int) ∧ (i : Int) < n
  omega
/-- names: each room once -/
structure Nms (r : Nat) (xs : List Int) : Prop where
  pm : xs.Perm (rg r)
theorem Nms.len {r : Nat} {xs : List Int} (h : Nms r xs) : xs.length = r := by rw [h.pm.length_eq, rg_len]
theorem Nms.nd {r : Nat} {xs : List Int} (h : Nms r xs) : xs.Nodup := h.pm.nodup_iff.mpr (rg_nodup r)
theorem Nms.bd {r : Nat} {xs : List Int} (h : Nms r xs) {i : Nat} (hi : i < r) : 0 ≤ xs.getD i 0 ∧ xs.getD i 0 < r := by
  have hl := h.len
  have e : xs.getD i 0 = xs[i] := by rw [List.getD_eq_getElem?_getD, List.getElem?_eq_getElem (by omega)]; rfl
  rw [e]
  exact rg_mem (h.pm.mem_iff.mp (List.getElem_mem _))
theorem Nms.inj {r : Nat} {xs : List Int} (h : Nms r xs) {i j : Nat} (hi : i < r) (hj : j < r) (e : xs.getD i 0 = xs.getD j 0) : i = j := by
  have hl := h.len
  have e1 : xs.getD i 0 = xs[i] := by rw [List.getD_eq_getElem?_getD, List.getElem?_eq_getElem (by omega)]; rfl
  have e2 : xs.getD j 0 = xs[j] := by rw [List.getD_eq_getElem?_getD, List.getElem?_eq_getElem (by omega)]; rfl
  rw [e1, e2] at e
  refine nd_ix h.nd (List.getElem?_eq_getElem (by omega)) ?_
  rw [e]
  exact List.getElem?_eq_getElem (by omega)
theorem mm_ok {r : Nat} {xs : List Int} (h : Nms r xs) {p : Nat × Nat} (h1 : p.1 < p.2) (h2 : p.2 < r) : 0 ≤ (mm xs p).1 ∧ (mm xs p).1 < (mm xs p).2 ∧ (mm xs p).2 < r := by
  have a := h.bd (i := p.1) (by omega)
  have b := h.bd (i := p.2) h2
  have ne : xs.getD p.1 0 ≠ xs.getD p.2 0 := fun e => by
    have := h.inj (i := p.1) (j := p.2) (by omega) h2 e
    omega
  unfold mm
  simp only
  split <;> split <;> omega
theorem mm_inj {r : Nat} {xs : List Int} (h : Nms r xs) {p q : Nat × Nat} (p1 : p.1 < p.2) (p2 : p.2 < r) (q1 : q.1 < q.2) (q2 : q.2 < r) (e : mm xs p = mm xs q) : p = q := by
  have e1 := congrArg Prod.fst e
  have e2 := congrArg Prod.snd e
  unfold mm at e1 e2
  simp only at e1 e2
  have k : (xs.getD p.1 0 = xs.getD q.1 0 ∧ xs.getD p.2 0 = xs.getD q.2 0) ∨ (xs.getD p.1 0 = xs.getD q.2 0 ∧ xs.getD p.2 0 = xs.getD q.1 0) := by
    split at e1 <;> split at e1 <;> split at e2 <;> split at e2 <;> omega
  rcases k with ⟨k1, k2⟩ | ⟨k1, k2⟩
  · have a := h.inj (by omega) (by omega) k1
    have b := h.inj (by omega) (by omega) k2
    exact Prod.ext a b
  · have a := h.inj (by omega) (by omega) k1
    have b := h.inj (by omega) (by omega) k2
    omega
theorem vis_nd {r b a : Nat} {xs : List Int} {L : List (Nat × Nat)} (h : Nms r xs) (v : Vis r b a L) : (L.map (mm xs)).Nodup := by
  refine List.pairwise_map.mpr (List.Pairwise.imp_of_mem (fun {p q} hp hq hne e => ?_) v.nd)
  have a := v.ok p hp
  have b := v.ok q hq
  exact hne (mm_inj h a.1 a.2.1 b.1 b.2.1 e)
theorem vis_ok {r b a : Nat} {xs : List Int} {L : List (Nat × Nat)} (h : Nms r xs) (v : Vis r b a L) : ∀ d ∈ L.map (mm xs), 0 ≤ d.1 ∧ d.1 < d.2 ∧ d.2 < r := fun d hd => by
  obtain ⟨p, hp, rfl⟩ := List.mem_map.mp hd
  have a := v.ok p hp
  exact mm_ok h a.1 a.2.1
theorem tri {b : Nat} (h : b ≤ 11) : (b : Int) * ((b : Int) - 1) / 2 ≤ 55 ∧ 0 ≤ (b : Int) * ((b : Int) - 1) / 2 := by
  have : b = 0 ∨ b = 1 ∨ b = 2 ∨ b = 3 ∨ b = 4 ∨ b = 5 ∨ b = 6 ∨ b = 7 ∨ b = 8 ∨ b = 9 ∨ b = 10 ∨ b = 11 := by omega
  rcases this with rfl | rfl | rfl | rfl | rfl | rfl | rfl | rfl | rfl | rfl | rfl | rfl <;> decide
section
variable {P : Program} {w : World} {K : PySem.W.Frag} {mg : Str → Option Value} {base : Heap}
theorem scDrs : FnScope ["numbers", "rooms", "kind", "names", "doors", "b", "first", "a"] ["numbers", "rooms"] (defScope sDrs) := ⟨rfl, rfl, rfl, by decide +kernel, rfl, by decide +kernel, by decide +kernel⟩
def spDrs (K : PySem.W.Frag) : Sp := fun vs H Q _ => ∃ (a : Addr) (ns : List Int) (r : Nat), vs = [.ref a, .int r] ∧ SqL K H a (ns.map V.int) ∧ 79 ≤ ns.length ∧ 1 ≤ r ∧ r ≤ 12 ∧
  ∀ D vs p H', Drs r D → Same H H' → H p = none → H' p = some (.lst vs) → PL H' vs D → Q (.ref p) H'
theorem ok_drs {f fN fJ : Addr} {fd fdN fdJ : FuncData} (F : Fun K "_law_doors" "_law_doors" sDrs f fd) (T : Bi mg) (d__law_names : Df P w K mg base "_law_names" ["numbers", "at", "rooms"] 1 (spNam K) fN fdN)
    (d__law_joined : Df P w K mg base "_law_joined" ["kind", "a", "b", "rooms", "number", "parent"] 1 spJnd fJ fdJ) : FnOk P w K mg base CX0 2 f fd ["numbers", "rooms"] (spDrs K) := by
  refine F.ok scDrs (fun vs H Q E h => ?_) (fun cdv A outer s H vs Q E hr h => ?_)
  · obtain ⟨a, ns, r, rfl, _⟩ := h
    rfl
  · obtain ⟨a, ns, r, rfl, hS, hn, hr1, hr12, q⟩ := h
    refine ⟨_, (pss_cons (ps_set (i := 2) scDrs.nd rfl (Or.inl rfl) (pe_op op_mod (pe_callTy cr_intI (by rfl) T.int (by decide +kernel) (pa_cons (pe_ix ix_list (pv 0) pe_int (fun _ _ => rfl)) pa_nil)) pe_int))
      (pss_cons (ps_set (i := 3) scDrs.nd rfl (Or.inl rfl) (pe_call d__law_names.ok (hr.mono (by decide)) (by rfl) d__law_names.at_ d__law_names.kp d__law_names.b .nil pass0 (pa_cons (pv 0) (pa_cons pe_int (pa_cons (pv 1) pa_nil)))))
      (pss_cons (ps_set (i := 4) scDrs.nd rfl (Or.inl rfl) (pe_lst pa_nil))
      (pss_cons (ps_for PassesOwn.never rfl (pi_range2 (by rfl) T.range (pa_cons pe_int (pa_cons (pv 1) pa_nil))) (pg_name (i := 5) scDrs.nd rfl (Or.inl rfl))
      (pss_cons (ps_set (i := 6) scDrs.nd rfl (Or.inl rfl) (pe_op op_add (pe_op op_add pe_int (pv 1)) (pe_op op_fdiv (pe_op op_mul (pv 5) (pe_op op_sub (pv 5) pe_int)) pe_int)))
        (pss_one (ps_for PassesOwn.never rfl (pi_range1 (by rfl) T.range (pa_cons (pv 5) pa_nil)) (pg_name (i := 7) scDrs.nd rfl (Or.inl rfl))
        (pss_one (ps_if (pt_truth (pe_call d__law_joined.ok (hr.mono (by decide)) (by rfl) d__law_joined.at_ d__law_joined.kp d__law_joined.b .nil pass0 (pa_cons (pv 2) (pa_cons (pv 7) (pa_cons (pv 5) (pa_cons (pv 1) (pa_cons (pe_ix ix_list (pv 0) (pe_op op_add (pv 6) (pv 7)) (fun _ _ => rfl)) (pa_cons (pe_ix ix_list (pv 0) (pv 6) (fun _ _ => rfl)) pa_nil))))))) (by intro _; rfl))
          (pss_one (ps_expr (pe_bm PySem.F.plainAttrs_list PySem.F.slot_list_append PySem.F.type_list_append mt_append (pv 4) (pa_cons (pe_tup (pa_cons (pe_callB (call_min2 rfl) (by rfl) T.min (by decide +kernel) (pa_cons (pe_ix ix_list (pv 3) (pv 7) (fun _ _ => rfl)) (pa_cons (pe_ix ix_list (pv 3) (pv 5) (fun _ _ => rfl)) pa_nil))) (pa_cons (pe_callB (call_max2 rfl) (by rfl) T.max (by decide +kernel) (pa_cons (pe_ix ix_list (pv 3) (pv 7) (fun _ _ => rfl)) (pa_cons (pe_ix ix_list (pv 3) (pv 5) (fun _ _ => rfl)) pa_nil))) pa_nil))) pa_nil))))
          pss_nil))))))
      (pss_one (ps_ret (pe_callB cr_sortedPO (by rfl) T.sorted (by decide +kernel) (pa_cons (pv 4) pa_nil)))))))), ?_⟩
    have at_n : ∀ (k : Nat) (hk : k < ns.length), (ns.map V.int)[k]? = some (.int ns[k]) := fun k hk => by
      rw [List.getElem?_map, List.getElem?_eq_getElem hk]
      rfl
    walk_at "rd"
    refine ⟨_, hS, .int ns[0], at_of (j := 0) rfl (at_n 0 (by omega)), _, rfl, by decide, a, ns, 1, r, rfl, hS, by omega, by omega, fun xs pn H1 pm s1 nn hN => ?_⟩
    have N : Nms r xs := ⟨pm⟩
    have hl := N.len
    walk_at "rd"
    refine ⟨Nat.zero_le _, fun p np => ?_⟩
    obtain ⟨Pv, hPv⟩ : ∃ Pv : Nat → L2.St → Hp → Prop, Pv = (fun i σ H' => ∃ (L : List (Nat × Nat)) (vs : List V) (v5 v6 v7 : Option V), σ = [some (.ref a), some (.int r), some (.int (ns[0] % 8)), some (.ref pn), some (.ref p), v5, v6, v7] ∧ Vis r (i + 1) 0 L ∧ Same H1 H' ∧ H' p = some (.lst vs) ∧ PL H' vs (L.map (mm xs))) := ⟨_, rfl⟩
    refine ⟨_, rfl, 1, (r : Int), rfl, ⟨by omega, by omega, by omega, by omega⟩, for_range (lo := 1) (n := ((r : Int) - 1).toNat) Pv (by rw [hPv]; exact ⟨[], [], none, none, none, rfl, Vis.zero r, same_upd np, upd_same, PL.nil0 _⟩) ?_ ?_⟩
    · rintro i σ H' hi pv
      have nxt : ∀ L vs v5 v6 v7 H', Vis r (i + 1 + 1) 0 L → Same H1 H' → H' p = some (.lst vs) → PL H' vs (L.map (mm xs)) → Pv (i + 1) [some (.ref a), some (.int r), some (.int (ns[0] % 8)), some (.ref pn), some (.ref p), v5, v6, v7] H' := fun L vs v5 v6 v7 H' h1 h2 h3 h4 => by
        rw [hPv]
        exact ⟨L, vs, v5, v6, v7, rfl, h1, h2, h3, h4⟩
      rw [hPv] at pv
      obtain ⟨L, vs, v5, v6, v7, rfl, vis, s2, hp, pl⟩ := pv
      have hb : i + 1 ≤ 11 := by omega
      have tr := tri hb
      have eb : (1 : Int) + (i : Int) = ((i + 1 : Nat) : Int) := by omega
      obtain ⟨fi, hfi⟩ : ∃ fi : Nat, (1 : Int) + (r : Int) + (1 + (i : Int)) * (1 + (i : Int) - 1) / 2 = fi ∧ fi ≤ 68 := by
        rw [eb]
        exact ⟨(1 + (r : Int) + ((i + 1 : Nat) : Int) * (((i + 1 : Nat) : Int) - 1) / 2).toNat, by omega, by omega⟩
      walk_at "rd"
      refine ⟨.inl (by omega), ⟨by decide, by decide⟩, ?_⟩
      rw [hfi.1]
      obtain ⟨Pw, hPw⟩ : ∃ Pw : Nat → L2.St → Hp → Prop, Pw = (fun j σ H' => ∃ (L : List (Nat × Nat)) (vs : List V) (v7 : Option V), σ = [some (.ref a), some (.int r), some (.int (ns[0] % 8)), some (.ref pn), some (.ref p), some (.int (1 + (i : Int))), some (.int fi), v7] ∧ Vis r (i + 1) j L ∧ Same H1 H' ∧ H' p = some (.lst vs) ∧ PL H' vs (L.map (mm xs))) := ⟨_, rfl⟩
      refine ⟨_, rfl, 1 + (i : Int), rfl, by omega, by omega, for_range (lo := 0) (n := (1 + (i : Int)).toNat) Pw (by rw [hPw]; exact ⟨L, vs, v7, rfl, vis, s2, hp, pl⟩) ?_ ?_⟩
      · clear hp pl s2 vis vs L v7
        rintro j σ H' hj pv
        have nxw : ∀ L vs v7 H', Vis r (i + 1) (j + 1) L → Same H1 H' → H' p = some (.lst vs) → PL H' vs (L.map (mm xs)) → Pw (j + 1) [some (.ref a), some (.int r), some (.int (ns[0] % 8)), some (.ref pn), some (.ref p), some (.int (1 + (i : Int))), some (.int fi), v7] H' := fun L vs v7 H' h1 h2 h3 h4 => by
          rw [hPw]
          exact ⟨L, vs, v7, rfl, h1, h2, h3, h4⟩
        rw [hPw] at pv
        obtain ⟨L, vs, v7, rfl, vis, s2, hp, pl⟩ := pv
        have hjb : j < i + 1 := by omega
        have hS' : SqL K H' a (ns.map V.int) := s2.seq (s1.seq hS)
        have hN' : SqL K H' pn (xs.map V.int) := s2.seq (SqL.of hN)
        have gj : (xs.map V.int)[j]? = some (.int (xs.getD j 0)) := by rw [List.getElem?_map, List.getElem?_eq_getElem (by omega), List.getD_eq_getElem?_getD, List.getElem?_eq_getElem (by omega)]; rfl
        have gi : (xs.map V.int)[i + 1]? = some (.int (xs.getD (i + 1) 0)) := by rw [List.getElem?_map, List.getElem?_eq_getElem (by omega), List.getD_eq_getElem?_getD, List.getElem?_eq_getElem (by omega)]; rfl
        have small : vs.length ≤ 66 := by
          rw [pl.len]
          exact drs_len' hr12 (vis_nd N vis) (vis_ok N vis)
        walk_at "rd"
        refine ⟨_, hS', .int ns[fi + j], at_of (j := fi + j) (by omega) (at_n _ (by omega)), _, hS', .int ns[fi], at_of (j := fi) rfl (at_n _ (by omega)), ?_⟩
        refine ⟨_, _, _, _, _, _, rfl, by omega, fun c => ?_⟩
        refine ⟨_, rfl, ite2 (fun _ => ?_) (fun _ => nxw L vs _ _ vis.skip s2 hp pl)⟩
        refine ⟨.inl ⟨rfl, _, SqL.of hp⟩, _, hN', .int (xs.getD j 0), at_of (j := j) (by omega) gj, _, hN', .int (xs.getD (i + 1) 0), at_of (j := i + 1) (by omega) gi, ?_⟩
        refine ⟨_, rfl, _, rfl, _, hN', .int (xs.getD j 0), at_of (j := j) (by omega) gj, _, hN', .int (xs.getD (i + 1) 0), at_of (j := i + 1) (by omega) gi, _, rfl, _, rfl, ?_⟩
        refine ⟨by decide, fun t nt => ⟨vs, ?_, len_big (by omega), ?_⟩⟩
        · rw [upd_ne (ne_of_none hp nt)]
          exact hp
        · have np' : p ≠ t := ne_of_none hp nt
          refine nxw (L ++ [(j, i + 1)]) (vs ++ [.ref t]) _ _ (vis.more (by omega) hjb) (same_ch (s2.trans (same_upd nt)) np) upd_same ?_
          rw [List.map_append]
          refine PL.snoc ((pl.kt (KT.new nt)).kt (KT.lst (by rw [upd_ne np']; exact hp))) ⟨t, rfl, ?_⟩
          rw [upd_ne np'.symm, upd_same]
          rfl
      · clear hp pl s2 vis vs L v7
        rintro σ H' pv
        rw [hPw] at pv
        obtain ⟨L, vs, v7, rfl, vis, s2, hp, pl⟩ := pv
        have e : (1 + (i : Int)).toNat = i + 1 := by omega
        rw [e] at vis
        exact nxt L vs _ _ _ _ vis.row s2 hp pl
    · rintro σ H' pv
      rw [hPv] at pv
      obtain ⟨L, vs, v5, v6, v7, rfl, vis, s2, hp, pl⟩ := pv
      walk_at "rd"
      obtain ⟨k1, k2⟩ := pl.toK
      refine ⟨p, vs, kH H', rfl, SqL.of hp, k2, fun ys t so st nt => ?_⟩
      have pmy := st.perm
      have hy : ∀ v ∈ ys, IsP H' v (kH H' v) := fun v hv => k2 v (pmy.mem_iff.mp hv)
      have nd : (ys.map (kH H')).Nodup := by
        refine (pmy.map _).nodup_iff.mpr ?_
        rw [← k1]
        exact vis_nd N vis
      refine q (ys.map (kH H')) ys t _ ⟨srtd_asc nd so, fun d hd => ?_⟩ ?_ ?_ upd_same ((PL.ofK hy).kt (KT.new nt))
      · refine vis_ok N vis d ?_
        rw [k1]
        exact (pmy.map _).mem_iff.mp hd
      · exact ((s1.trans s2).trans (same_upd nt))
      · exact (s1.trans s2).free nt
end

abbrev sSame : Stmt := topS 23
/-- isinstance of built-in kinds -/
def isTy (m n : String) : Bool := m == n || (m == "bool" && n == "int")
theorem kit5 {K : PySem.W.Frag} {m n : String} (hm : m = "bool" ∨ m = "int" ∨ m = "str" ∨ m = "list" ∨ m = "tuple") (hn : n = "bool" ∨ n = "int" ∨ n = "str" ∨ n = "list" ∨ n = "tuple") : PySem.W.kitOne K (.type m) (.type n) = some (isTy m n) := by
  rcases hm with rfl | rfl | rfl | rfl | rfl <;> rcases hn with rfl | rfl | rfl | rfl | rfl <;> exact kit_ty (by decide +kernel)
def rIs5 (K : PySem.W.Frag) : List V → Hp → VK → Prop := fun xs H Q => ∃ (x : V) (n m : String), xs = [x, .ty n] ∧ TyX K H x (.type m) ∧ (m = "bool" ∨ m = "int" ∨ m = "str" ∨ m = "list" ∨ m = "tuple") ∧ (n = "bool" ∨ n = "int" ∨ n = "str" ∨ n = "list" ∨ n = "tuple") ∧ Q (.bl (isTy m n)) H
theorem cr_is5 {X : Cx} : CallR X (.builtin "isinstance") (rIs5 X.K) := fun pins s σ H xs us Q I r h => by
  obtain ⟨x, n, m, rfl, ty, hm, hn, q⟩ := h
  exact call_isi pins s σ H _ us Q I r ⟨x, .ty n, _, _, _, rfl, .ty n, ty, kit5 hm hn, q⟩
theorem is5_of {K : PySem.W.Frag} {H : Hp} {x : V} {n m : String} {Q : VK} (ty : TyX K H x (.type m)) (hm : m = "bool" ∨ m = "int" ∨ m = "str" ∨ m = "list" ∨ m = "tuple") (hn : n = "bool" ∨ n = "int" ∨ n = "str" ∨ n = "list" ∨ n = "tuple") (q : Q (.bl (isTy m n)) H) : rIs5 K [x, .ty n] H Q :=
  ⟨x, n, m, rfl, ty, hm, hn, q⟩
theorem eqS_of {H : Hp} {x : V} {Q : VK} (h : scal x x = true) (q : Q (.bl true) H) : rEq x x H Q := ⟨h, by rw [decide_eq_true rfl]; exact q⟩
local macro_rules | `(tactic| walk_at "i5") => `(tactic| ((first | refine is5_of (.base (.int _)) (by decide) (by decide) ?_ | refine is5_of (.base (.str _)) (by decide) (by decide) ?_ | refine is5_of (.base (.bl _)) (by decide) (by decide) ?_ | refine is5_of (.base (.lst (by assumption))) (by decide) (by decide) ?_ | refine is5_of (.base (.tup (by assumption))) (by decide) (by decide) ?_)))
local macro_rules | `(tactic| walk_at "i6") => `(tactic| (simp only [rIsT, isTy, String.reduceBEq, Bool.or_false, Bool.or_true, Bool.and_false, Bool.and_true, Bool.true_or, Bool.false_or, Bool.true_and, Bool.false_and, reduceCtorEq, decide_false, decide_true, V.bl.injEq, exists_eq_left', if_true, if_false, Bool.false_eq_true, ↓reduceIte, Bool.not_true, Bool.not_false, ite_self]))
def flat4 : V → Bool
  | .non => true
  | .bl _ => true
  | .int _ => true
  | .str _ => true
  | _ => false
/-- the same data, of at most this depth, the lists and tuples tracked -/
def Sm (H : Hp) : Nat → V → V → Prop
  | 0, x, y => x = y ∧ flat4 x = true
  | n + 1, x, y => (x = y ∧ flat4 x = true) ∨ ∃ a b xs ys, x = .ref a ∧ y = .ref b ∧ ((H a = some (.lst xs) ∧ H b = some (.lst ys)) ∨ (H a = some (.tup xs) ∧ H b = some (.tup ys))) ∧ Paired (Sm H n) xs ys ∧ xs.length ≤ 100000
theorem Sm.flat {H : Hp} {n : Nat} {x : V} (h : flat4 x = true) : Sm H n x x := by
  cases n with
  | zero => exact ⟨rfl, h⟩
  | succ n => exact .inl ⟨rfl, h⟩
theorem paired_get {α β : Type} {F : α → β → Prop} : ∀ {xs : List α} {ys : List β} {i : Nat}, Paired F xs ys → i < xs.length → ∃ x y, xs[i]? = some x ∧ ys[i]? = some y ∧ F x y
  | _, _, _, .nil, h => by cases h
  | _, _, 0, .cons r _, _ => ⟨_, _, rfl, rfl, r⟩
  | _, _, i + 1, .cons _ t, h => paired_get (i := i) t (Nat.lt_of_succ_lt_succ h)
section
variable {P : Program} {w : World} {K : PySem.W.Frag} {mg : Str → Option Value} {base : Heap}
theorem scSame : FnScope ["got", "due", "k"] ["got", "due"] (defScope sSame) := ⟨rfl, rfl, rfl, by decide +kernel, rfl, by decide +kernel, by decide +kernel⟩
def spSame (n : Nat) : Sp := fun vs H Q _ => ∃ x y, vs = [x, y] ∧ Sm H n x y ∧ Q (.bl true) H
theorem ok_same {f : Addr} {fd : FuncData} (F : Fun K "_law_same" "_law_same" sSame f fd) (T : Bi mg) (bd : Binds K fd ["got", "due"] []) (hmg : mg "_law_same" = some (.ref f)) : ∀ n, FnOk P w K mg base CX0 (n + 1) f fd ["got", "due"] (spSame n) := by
  intro n
  induction n with
  | zero =>
    refine F.ok scSame (fun vs H Q E h => ?_) (fun cdv A outer s H vs Q E hr h => ?_)
    · obtain ⟨x, y, rfl, _⟩ := h
      rfl
    · obtain ⟨x, y, rfl, ⟨rfl, hf⟩, q⟩ := h
      refine ⟨_, (pss_cons (ps_if (pt_cmpR op_isN (pv 1) pe_non (nomark _))
      (pss_one (ps_ret (pe_cmpR op_isN (pv 0) pe_non (nomark _))))
      pss_nil)
      (pss_cons (ps_if (pt_cmpR op_isT (pv 1) pe_bl (nomark _))
      (pss_one (ps_ret (pe_cmpR op_isT (pv 0) pe_bl (nomark _))))
      pss_nil)
      (pss_cons (ps_if (pt_cmpR op_isT (pv 1) pe_bl (nomark _))
      (pss_one (ps_ret (pe_cmpR op_isT (pv 0) pe_bl (nomark _))))
      pss_nil)
      (pss_cons (ps_if (pt_val (pe_callB cr_is5 (by rfl) T.isinstance (by decide +kernel) (pa_cons (pv 1) (pa_cons (pe_bltn (v := .ty "int") (by rfl) T.int (by decide +kernel) rfl) pa_nil))))
      (pss_one (ps_ret (pe_and (pe_callB cr_is5 (by rfl) T.isinstance (by decide +kernel) (pa_cons (pv 0) (pa_cons (pe_bltn (v := .ty "int") (by rfl) T.int (by decide +kernel) rfl) pa_nil))) (pe_and (pe_not (pe_callB cr_is5 (by rfl) T.isinstance (by decide +kernel) (pa_cons (pv 0) (pa_cons (pe_bltn (v := .ty "bool") (by rfl) T.bool (by decide +kernel) rfl) pa_nil)))) (pe_one (pe_cmpR op_eq (pv 0) (pv 1) (nomark _)))))))
      pss_nil)
      (pss_cons (ps_if (pt_val (pe_callB cr_is5 (by rfl) T.isinstance (by decide +kernel) (pa_cons (pv 1) (pa_cons (pe_bltn (v := .ty "str") (by rfl) T.str (by decide +kernel) rfl) pa_nil))))
      (pss_one (ps_ret (pe_and (pe_callB cr_is5 (by rfl) T.isinstance (by decide +kernel) (pa_cons (pv 0) (pa_cons (pe_bltn (v := .ty "str") (by rfl) T.str (by decide +kernel) rfl) pa_nil))) (pe_one (pe_cmpR op_eq (pv 0) (pv 1) (nomark _))))))
      pss_nil)
      (pss_cons (ps_if (PW.pt (pw_and (pt_val (pe_callB cr_is5 (by rfl) T.isinstance (by decide +kernel) (pa_cons (pv 1) (pa_cons (pe_bltn (v := .ty "list") (by rfl) T.list (by decide +kernel) rfl) pa_nil)))) (pw_and1 (pt_not (pt_val (pe_callB cr_is5 (by rfl) T.isinstance (by decide +kernel) (pa_cons (pv 0) (pa_cons (pe_bltn (v := .ty "list") (by rfl) T.list (by decide +kernel) rfl) pa_nil))))))))
      (pss_one (ps_ret pe_bl))
      pss_nil)
      (pss_cons (ps_if (PW.pt (pw_and (pt_val (pe_callB cr_is5 (by rfl) T.isinstance (by decide +kernel) (pa_cons (pv 1) (pa_cons (pe_bltn (v := .ty "tuple") (by rfl) T.tuple (by decide +kernel) rfl) pa_nil)))) (pw_and1 (pt_not (pt_val (pe_callB cr_is5 (by rfl) T.isinstance (by decide +kernel) (pa_cons (pv 0) (pa_cons (pe_bltn (v := .ty "tuple") (by rfl) T.tuple (by decide +kernel) rfl) pa_nil))))))))
      (pss_one (ps_ret pe_bl))
      pss_nil)
      (pss_cons (ps_if (pt_cmpR op_neI (pe_callB call_len_seq (by rfl) T.len (by decide +kernel) (pa_cons (pv 0) pa_nil)) (pe_callB call_len_seq (by rfl) T.len (by decide +kernel) (pa_cons (pv 1) pa_nil)) (nomark _))
      (pss_one (ps_ret pe_bl))
      pss_nil)
      (pss_cons (ps_never)
      (pss_one (ps_ret pe_bl))))))))))), ?_⟩
      walk_at "rd"
      cases x with
      | non => walk_at "i6"; exact q
      | bl b =>
        cases b with
        | true => walk_at "i6"; exact q
        | false => walk_at "i6"; exact q
      | int i =>
        walk_at "i6"
        repeat (walk_at "i5"; walk_at "i6")
        exact eqS_of rfl q
      | str z =>
        walk_at "i6"
        repeat (walk_at "i5"; walk_at "i6")
        exact eqS_of rfl q
      | _ => cases hf
  | succ n ih =>
    refine F.ok scSame (fun vs H Q E h => ?_) (fun cdv A outer s H vs Q E hr h => ?_)
    · obtain ⟨x, y, rfl, _⟩ := h
      rfl
    · obtain ⟨x, y, rfl, hs, q⟩ := h
      refine ⟨_, (pss_cons (ps_if (pt_cmpR op_isN (pv 1) pe_non (nomark _))
      (pss_one (ps_ret (pe_cmpR op_isN (pv 0) pe_non (nomark _))))
      pss_nil)
      (pss_cons (ps_if (pt_cmpR op_isT (pv 1) pe_bl (nomark _))
      (pss_one (ps_ret (pe_cmpR op_isT (pv 0) pe_bl (nomark _))))
      pss_nil)
      (pss_cons (ps_if (pt_cmpR op_isT (pv 1) pe_bl (nomark _))
      (pss_one (ps_ret (pe_cmpR op_isT (pv 0) pe_bl (nomark _))))
      pss_nil)
      (pss_cons (ps_if (pt_val (pe_callB cr_is5 (by rfl) T.isinstance (by decide +kernel) (pa_cons (pv 1) (pa_cons (pe_bltn (v := .ty "int") (by rfl) T.int (by decide +kernel) rfl) pa_nil))))
      (pss_one (ps_ret (pe_and (pe_callB cr_is5 (by rfl) T.isinstance (by decide +kernel) (pa_cons (pv 0) (pa_cons (pe_bltn (v := .ty "int") (by rfl) T.int (by decide +kernel) rfl) pa_nil))) (pe_and (pe_not (pe_callB cr_is5 (by rfl) T.isinstance (by decide +kernel) (pa_cons (pv 0) (pa_cons (pe_bltn (v := .ty "bool") (by rfl) T.bool (by decide +kernel) rfl) pa_nil)))) (pe_one (pe_cmpR op_eq (pv 0) (pv 1) (nomark _)))))))
      pss_nil)
      (pss_cons (ps_if (pt_val (pe_callB cr_is5 (by rfl) T.isinstance (by decide +kernel) (pa_cons (pv 1) (pa_cons (pe_bltn (v := .ty "str") (by rfl) T.str (by decide +kernel) rfl) pa_nil))))
      (pss_one (ps_ret (pe_and (pe_callB cr_is5 (by rfl) T.isinstance (by decide +kernel) (pa_cons (pv 0) (pa_cons (pe_bltn (v := .ty "str") (by rfl) T.str (by decide +kernel) rfl) pa_nil))) (pe_one (pe_cmpR op_eq (pv 0) (pv 1) (nomark _))))))
      pss_nil)
      (pss_cons (ps_if (PW.pt (pw_and (pt_val (pe_callB cr_is5 (by rfl) T.isinstance (by decide +kernel) (pa_cons (pv 1) (pa_cons (pe_bltn (v := .ty "list") (by rfl) T.list (by decide +kernel) rfl) pa_nil)))) (pw_and1 (pt_not (pt_val (pe_callB cr_is5 (by rfl) T.isinstance (by decide +kernel) (pa_cons (pv 0) (pa_cons (pe_bltn (v := .ty "list") (by rfl) T.list (by decide +kernel) rfl) pa_nil))))))))
      (pss_one (ps_ret pe_bl))
      pss_nil)
      (pss_cons (ps_if (PW.pt (pw_and (pt_val (pe_callB cr_is5 (by rfl) T.isinstance (by decide +kernel) (pa_cons (pv 1) (pa_cons (pe_bltn (v := .ty "tuple") (by rfl) T.tuple (by decide +kernel) rfl) pa_nil)))) (pw_and1 (pt_not (pt_val (pe_callB cr_is5 (by rfl) T.isinstance (by decide +kernel) (pa_cons (pv 0) (pa_cons (pe_bltn (v := .ty "tuple") (by rfl) T.tuple (by decide +kernel) rfl) pa_nil))))))))
      (pss_one (ps_ret pe_bl))
      pss_nil)
      (pss_cons (ps_if (pt_cmpR op_neI (pe_callB call_len_seq (by rfl) T.len (by decide +kernel) (pa_cons (pv 0) pa_nil)) (pe_callB call_len_seq (by rfl) T.len (by decide +kernel) (pa_cons (pv 1) pa_nil)) (nomark _))
      (pss_one (ps_ret pe_bl))
      pss_nil)
      (pss_cons (ps_for PassesOwn.never rfl (pi_range1 (by rfl) T.range (pa_cons (pe_callB call_len_seq (by rfl) T.len (by decide +kernel) (pa_cons (pv 1) pa_nil)) pa_nil)) (pg_name (i := 2) scSame.nd rfl (Or.inl rfl))
      (pss_one (ps_if (pt_not (pt_val (pe_call ih hr (by rfl) hmg F.kp bd .nil pass0 (pa_cons (pe_ix ix_seq (pv 0) (pv 2) (fun _ _ => rfl)) (pa_cons (pe_ix ix_seq (pv 1) (pv 2) (fun _ _ => rfl)) pa_nil)))))
        (pss_one (ps_ret pe_bl))
        pss_nil)))
      (pss_one (ps_ret pe_bl))))))))))), ?_⟩
      walk_at "rd"
      rcases hs with ⟨rfl, hf⟩ | ⟨a, b, xs, ys, rfl, rfl, hk, pr, hl⟩
      · skip
        cases x with
        | non => walk_at "i6"; exact q
        | bl b =>
          cases b with
          | true => walk_at "i6"; exact q
          | false => walk_at "i6"; exact q
        | int i =>
          walk_at "i6"
          repeat (walk_at "i5"; walk_at "i6")
          exact eqS_of rfl q
        | str z =>
          walk_at "i6"
          repeat (walk_at "i5"; walk_at "i6")
          exact eqS_of rfl q
        | _ => cases hf
      · have el : xs.length = ys.length := pr.length
        have hx : SqL K H a xs ∨ SqT K H a xs := by
          rcases hk with ⟨ha, _⟩ | ⟨ha, _⟩
          · exact .inl (SqL.of ha)
          · exact .inr (SqT.of ha)
        have hy : SqL K H b ys ∨ SqT K H b ys := by
          rcases hk with ⟨_, ha⟩ | ⟨_, ha⟩
          · exact .inl (SqL.of ha)
          · exact .inr (SqT.of ha)
        have ix : ∀ {zs : List V} {k : Nat} {p : Addr} {v : V} {Q : VK}, (SqL K H p zs ∨ SqT K H p zs) → zs[k]? = some v → Q v H → rIx K (.ref p) (.int k) H Q := fun hz hv hq => by
          rcases hz with hz | hz
          · exact .inl ⟨_, _, _, _, rfl, rfl, hz, atI_nat hv, hq⟩
          · exact .inr (.inl ⟨_, _, _, _, rfl, rfl, hz, atI_nat hv, hq⟩)
        rcases hk with ⟨ha, hb⟩ | ⟨ha, hb⟩
        all_goals
          walk_at "i6"
          repeat (walk_at "i5"; walk_at "i6")
          refine ⟨_, rfl, _, hx, _, rfl, _, hy, ?_⟩
          rw [el, decide_eq_true rfl]
          refine iteF ?_
          obtain ⟨Pv, hPv⟩ : ∃ Pv : Nat → L2.St → Hp → Prop, Pv = (fun i σ H' => ∃ v : Option V, σ = [some (.ref a), some (.ref b), v] ∧ H' = H) := ⟨_, rfl⟩
          refine ⟨_, rfl, b, rfl, ys, hy, ys.length, rfl, by omega, by omega, for_range (lo := 0) (n := ((ys.length : Nat) : Int).toNat) Pv (by rw [hPv]; exact ⟨none, rfl, rfl⟩) ?_ ?_⟩
          · rintro i σ H' hi pv
            have nxt : ∀ v, Pv (i + 1) [some (.ref a), some (.ref b), v] H := fun v => by
              rw [hPv]
              exact ⟨v, rfl, rfl⟩
            rw [hPv] at pv
            obtain ⟨v, rfl, rfl⟩ := pv
            obtain ⟨x1, y1, g1, g2, sm⟩ := paired_get (i := i) pr (by omega)
            walk_at "rd"
            rw [Int.zero_add]
            refine ix hx g1 (ix hy g2 ⟨_, _, rfl, sm, ?_⟩)
            exact ⟨true, rfl, iteF (nxt _)⟩
          · rintro σ H' pv
            rw [hPv] at pv
            obtain ⟨v, rfl, rfl⟩ := pv
            walk_at "rd"
            exact q
end

/-! ### a set of tuples of ints, whatever their number (the table's masks: 7, 31, 127) -/
structure PsR (P : Program) (w : World) (h : Heap) (a : Addr) (L : List (Addr × List Int)) (es : Array (Int × Value)) (ep : Nat) (t : SetTable) : Prop where
  obj : ∃ o, h.get? a = some o ∧ o.ExactSet ∧ o.data = .set es ep t
  rw_ : es.toList = rowsOf P w L
  tb : TabOk t (L.map fun p => thash P w p.2)
  nod : (L.map (·.2)).Nodup
  tps : ∀ p ∈ L, IsT P w h p.2 p.1
  pln : t.plain = true
  ld : w.params.followText "set-order" = true ∨ t.led = true
  rm : L.length * 5 < t.mask * 3
section
variable {P : Program} {w : World} {A : Around} {E : Value → Shared → Prop} {s : Shared}
variable {a : Addr} {L : List (Addr × List Int)} {es : Array (Int × Value)} {ep : Nat} {t : SetTable}
theorem PsR.sz (R : PsR P w s.heap a L es ep t) : es.size = L.length := by
  have e := congrArg List.length R.rw_
  rw [Array.length_toList] at e
  rw [e]
  exact List.length_map _
theorem PsR.psz (R : PsR P w s.heap a L es ep t) : t.place.size = L.length := by
  have e := R.tb.sz
  rw [List.length_map] at e
  exact e
theorem PsR.fts (R : PsR P w s.heap a L es ep t) : t.fits es.size = true := by
  have e1 := R.psz
  have e2 := R.sz
  have e3 := R.rm
  have e4 : t.fill = t.place.size := by
    show t.place.size + t.dummies.size = t.place.size
    rw [R.tb.dm]
    rfl
  show (t.place.size == es.size && decide (t.fill ≤ t.mask)) = true
  rw [e4, e1, e2, beq_self_eq_true, Bool.true_and, decide_eq_true_eq]
  omega
theorem PsR.ent (R : PsR P w s.heap a L es ep t) {i : Nat} {p : Addr × List Int} (g : L[i]? = some p) : es[i]? = some (thash P w p.2, Value.ref p.1) := by
  have e : (rowsOf P w L)[i]? = some (thash P w p.2, Value.ref p.1) := by
    show (L.map _)[i]? = _
    rw [List.getElem?_map, g]
    rfl
  rw [← R.rw_, Array.getElem?_toList] at e
  exact e
theorem PsR.odd (R : PsR P w s.heap a L es ep t) : ¬ t.gaveWay = true := fun z => by
  have m := mask_odd R.tb.mok
  have z2 : (t.mask % 2 == 0) = true := z
  rw [m] at z2
  cases z2
/-- the c-th state of the search for the tuple k -/
abbrev stAt (P : Program) (w : World) (t : SetTable) (k : List Int) (c : Nat) : SetTable.Probe := nth t.mask (t.probeStart (thash P w k)) c
abbrev slAt (P : Program) (w : World) (t : SetTable) (k : List Int) (c : Nat) : Nat := (stAt P w t k c).j
theorem stAt_dm (k : List Int) (c : Nat) : (stAt P w t k c).dummy = none := by
  have all : ∀ (n : Nat) (p : SetTable.Probe), p.dummy = none → (nth t.mask p n).dummy = none := by
    intro n
    induction n with
    | zero => exact fun _ e => e
    | succ n ih =>
      intro p e
      show (nth t.mask (adv t.mask p) n).dummy = none
      exact ih _ (by rw [← adv_eq, advance_dummy]; exact e)
  exact all c _ rfl
theorem stAt_add (k : List Int) (c q : Nat) : nth t.mask (stAt P w t k c) q = stAt P w t k (c + q) := (nth_add t.mask c _ q).symm
theorem psearch (R : PsR P w s.heap a L es ep t) {x : Addr} {k : List Int} (hx : IsT P w s.heap k x) (hu : A.units < cLine) (ad : Bool) {N : Nat} (hN : N < 10 * SetTable.turns t.mask)
    (free : slAt P w t k N ∉ t.place.toList) (full : ∀ c, c < N → slAt P w t k c ∈ t.place.toList) {Q : SetFound → Shared → Prop}
    (yes : ∀ i, k ∈ L.map (·.2) → Q (.there (if ad then none else some i)) s) (no : k ∉ L.map (·.2) → Q (.free (slAt P w t k N) false) s) :
    ∀ (f c : Nat) (st : Option SetTable.Probe), st.getD (t.probeStart (thash P w k)) = stAt P w t k c → c ≤ N → N < f + c →
      (∀ (i : Nat) p, L[i]? = some p → p.2 = k → ∃ c', c ≤ c' ∧ c' < N ∧ t.place.toList[i]? = some (slAt P w t k c')) →
      wpAny (model P w) A (setSearchFrom a (.ref x) (thash P w k) ad f st) Q E s := by
  intro f
  induction f with
  | zero => intro c st _ h1 h2 _; omega
  | succ f ih =>
    intro c st est hc hf ahead
    obtain ⟨o, ho, hex, hd⟩ := R.obj
    rw [setSearchFrom_succ]
    refine wpAny_bind (wpAny_setState_of ho hd R.fts ?_)
    dsimp only
    refine wp_if_neg R.odd ?_
    try refine wpAny_bind (wpAny_pure ?_)
    have hashes : ∀ (i : Nat) p, L[i]? = some p → (es[i]?.map (·.1)).getD 0 = thash P w p.2 := fun i p g => by
      rw [R.ent g]
      rfl
    have spec := go_spec t R.tb.ris R.tb.dm (fun i => (es[i]?.map (·.1)).getD 0) (thash P w k) (10 * SetTable.turns t.mask) (N - c) (stAt P w t k c) (stAt_dm k c) (by omega)
      (fun q hq => by rw [stAt_add]; exact full (c + q) (by omega)) (by rw [stAt_add, Nat.add_sub_cancel' hc]; exact free)
    rw [est]
    simp only [stAt_add] at spec
    rcases spec with ⟨q, i, hq, hi, _, early, pr⟩ | ⟨early, pr⟩
    · -- an entry of this hash stands there
      have pr2 : t.probe (fun i => (es[i]?.map (·.1)).getD 0) (thash P w k) (stAt P w t k c) = _ := pr
      rw [pr2]
      dsimp only
      have il : i < L.length := by
        have e := (List.getElem?_eq_some_iff.mp hi).1
        rw [Array.length_toList, R.psz] at e
        exact e
      obtain ⟨p, gp⟩ : ∃ p, L[i]? = some p := ⟨_, List.getElem?_eq_getElem il⟩
      have mp : p ∈ L := List.mem_of_getElem? gp
      have live : t.slot (slAt P w t k (c + q)) = .live i := slot_live R.tb.ris hi
      have go : wpAny (model P w) A (searchRest a (.ref x) (thash P w k) ad f es t (slAt P w t k (c + q)) i (stAt P w t k (c + (q + 1)))) Q E s := by
        unfold searchRest
        rw [R.ent gp]
        dsimp only
        refine wpAny_bind (wpAny_holding (wpAny_eqBool_tuple hu (R.tps p mp) hx ?_))
        refine wpAny_bind (wpAny_setState_of ho hd R.fts ?_)
        dsimp only
        have later : p.2 ≠ k → wpAny (model P w) A (setSearchFrom a (.ref x) (thash P w k) ad f (some (stAt P w t k (c + (q + 1))))) Q E s := fun ne => by
          refine ih (c + (q + 1)) _ rfl (by omega) (by omega) fun i2 p2 g2 e2 => ?_
          obtain ⟨c2, b1, b2, b3⟩ := ahead i2 p2 g2 e2
          refine ⟨c2, ?_, b2, b3⟩
          refine Classical.byContradiction fun lt => ?_
          by_cases hc2 : c2 < c + q
          · refine early (c2 - c) i2 (by omega) (by rw [Nat.add_sub_cancel' b1]; exact b3) ?_
            rw [hashes i2 p2 g2, e2]
          · have e3 : c2 = c + q := by omega
            rw [e3] at b3
            have l2 := slot_live R.tb.ris b3
            rw [live] at l2
            injection l2 with l2
            rw [← l2, gp] at g2
            rw [Option.some.inj g2] at ne
            exact ne e2
        by_cases hk : p.2 = k
        · have mk : k ∈ L.map (·.2) := List.mem_map.mpr ⟨p, mp, hk⟩
          cases ad with
          | true =>
            refine wp_if_pos (by simp [hk]) ?_
            exact wpAny_pure (yes i mk)
          | false =>
            refine wp_if_neg (by simp) ?_
            try refine wpAny_bind (wpAny_pure ?_)
            rw [sameMem]
            dsimp only
            simp only [if_true, live, R.ent gp]
            refine wpAny_bind (wpAny_isSame_ref_self (wpAny_bind (wpAny_pure ?_)))
            rw [if_pos rfl]
            dsimp only
            rw [if_pos (decide_eq_true hk)]
            exact wpAny_pure (yes i mk)
        · refine wp_if_neg (by simp [hk]) ?_
          try refine wpAny_bind (wpAny_pure ?_)
          rw [sameMem]
          dsimp only
          simp only [if_true, live, R.ent gp]
          refine wpAny_bind (wpAny_isSame_ref_self (wpAny_bind (wpAny_pure ?_)))
          rw [if_pos rfl]
          dsimp only
          rw [if_neg (by rw [decide_eq_true_eq]; exact hk)]
          exact later hk
      by_cases hl : t.led = true
      · refine wp_if_neg (by rw [hl]; decide) ?_
        try refine wpAny_bind (wpAny_pure ?_)
        exact go
      · refine wp_if_pos (by simp [hl]) ?_
        refine wpAny_bind (seen_tup hx (fun y hy => ?_) ?_)
        · obtain ⟨e, he, rfl⟩ := List.mem_map.mp hy
          have he2 : e ∈ es.toList := by
            have := (Array.mem_filter.mp (Array.mem_toList_iff.mp he)).1
            exact Array.mem_toList_iff.mpr this
          rw [R.rw_] at he2
          obtain ⟨p2, m2, rfl⟩ := List.mem_map.mp he2
          exact ⟨p2.2, p2.1, rfl, R.tps p2 m2⟩
        · refine wp_if_neg Bool.false_ne_true ?_
          try refine wpAny_bind (wpAny_pure ?_)
          exact go
    · -- the empty slot
      have pr2 : t.probe (fun i => (es[i]?.map (·.1)).getD 0) (thash P w k) (stAt P w t k c) = _ := pr
      rw [pr2, Nat.add_sub_cancel' hc]
      dsimp only
      refine wpAny_pure (no fun hm => ?_)
      obtain ⟨p, mp, e⟩ := List.mem_map.mp hm
      obtain ⟨i, gp⟩ := List.getElem?_of_mem mp
      obtain ⟨c2, b1, b2, b3⟩ := ahead i p gp e
      refine early (c2 - c) i (by omega) (by rw [Nat.add_sub_cancel' b1]; exact b3) ?_
      rw [hashes i p gp, e]
/-- the search as it is asked for -/
theorem psearch0 (R : PsR P w s.heap a L es ep t) {x : Addr} {k : List Int} (hx : IsT P w s.heap k x) (hu : A.units < cLine) (ad : Bool) {Q : SetFound → Shared → Prop}
    (yes : ∀ i, k ∈ L.map (·.2) → Q (.there (if ad then none else some i)) s)
    (no : ∀ N, k ∉ L.map (·.2) → slAt P w t k N ∉ t.place.toList → (∀ c, c < N → slAt P w t k c ∈ t.place.toList) → Q (.free (slAt P w t k N) false) s) :
    wpAny (model P w) A (setSearch a (.ref x) (thash P w k) ad) Q E s := by
  have few := R.rm
  obtain ⟨N, n1, n2, n3⟩ := R.tb.first (by rw [List.length_map]; omega) (thash P w k)
  have n4 : N < 100000 := by
    have e : 10 * SetTable.turns t.mask ≤ 1420 := by
      unfold SetTable.turns
      rcases R.tb.mok with e | e | e <;> omega
    omega
  unfold setSearch
  refine psearch R hx hu ad n1 n2 n3 yes (fun z => no N z n2 n3) 100000 0 none rfl (Nat.zero_le _) (by omega) fun i p gp e => ?_
  have g1 : (L.map fun p => thash P w p.2)[i]? = some (thash P w k) := by
    rw [List.getElem?_map, gp, ← e]
    rfl
  have g2 : i < t.place.toList.length := by
    rw [Array.length_toList, R.psz]
    exact (List.getElem?_eq_some_iff.mp gp).1
  obtain ⟨c, c1, c2⟩ := R.tb.before n2 g1 (List.getElem?_eq_getElem g2)
  refine ⟨c, Nat.zero_le _, c1, ?_⟩
  rw [List.getElem?_eq_getElem g2]
  exact congrArg some c2.symm
end

section
variable {P : Program} {w : World} {A : Around} {E : Value → Shared → Prop} {s : Shared}
variable {a : Addr} {L : List (Addr × List Int)} {es : Array (Int × Value)} {ep : Nat} {t : SetTable}
theorem PsR.ty (R : PsR P w s.heap a L es ep t) : s.TypeIs (.ref a) "set" := by
  obtain ⟨o, ho, hx, _⟩ := R.obj
  exact ⟨o, ho, hx.1⟩
theorem PsR.nodict (R : PsR P w s.heap a L es ep t) : ∀ b, Value.ref a = .ref b → ∃ ob, s.heap.get? b = some ob ∧ ob.dict = none := fun b e => by
  injection e with e
  subst e
  obtain ⟨o, ho, hx, _⟩ := R.obj
  exact ⟨o, ho, hx.2.1⟩
/-- who is sought among tuples -/
theorem pfind (R : PsR P w s.heap a L es ep t) {x : Addr} {k : List Int} (hx : IsT P w s.heap k x) (hu : A.units < cLine) {Q : Option Nat → Shared → Prop}
    (h : ∀ r : Option Nat, r.isSome = decide (k ∈ L.map (·.2)) → Q r s) : wpAny (model P w) A (setFind a (.ref x) (thash P w k)) Q E s := by
  obtain ⟨o, ho, hex, hd⟩ := R.obj
  show wpAny (model P w) A (setFindIn a (.ref x) (thash P w k) (99999 + 1)) Q E s
  unfold setFindIn
  refine wpAny_bind (wpAny_setState_of ho hd R.fts ?_)
  dsimp only
  refine wp_if_neg (by simp [byScan, Value.scannable]) ?_
  try refine wpAny_bind (wpAny_pure ?_)
  refine wpAny_bind (psearch0 R hx hu false (fun i m => ?_) fun N m _ _ => ?_)
  · dsimp only
    exact wpAny_pure (h (some i) (by rw [decide_eq_true m]; rfl))
  · dsimp only
    exact wpAny_pure (h none (by rw [decide_eq_false m]; rfl))
theorem pis_in (R : PsR P w s.heap a L es ep t) {x : Addr} {k : List Int} (hx : IsT P w s.heap k x) (hu : A.units + 4 < cLine) {Q : Value → Shared → Prop}
    (h : Q (.bool (decide (k ∈ L.map (·.2)))) { s with toks := s.toks + (k.length + 1) }) : wpAny (model P w) A (compareOp .In (.ref x) (.ref a)) Q E s := by
  have ty := R.ty
  have ask : wpAny (model P w) A.in1 (Builtin.«frozenset.__contains__» ⟨[.ref a, .ref x], []⟩) (fun fin s' => ∃ v, fin = .done (.ret v) ∧ wpAny (model P w) A (truthy v) (fun c s' => wpAny (model P w) A (pure (Value.bool c)) Q E s') E s') E s := by
    simp only [Builtin.«frozenset.__contains__», Builtin.Frozenset.oneOther, Builtin.Frozenset.addrOf, Builtin.Frozenset.withSetAsKey, setContains, List.isEmpty_nil, bind_assoc]
    refine wpAny_bind (wpAny_pure ?_); try dsimp only
    refine wpAny_bind (wpAny_pure ?_); try dsimp only
    refine wpAny_bind (wpAny_tryCatch (wpAny_holding (wpAny_bind (wpAny_pyHash_tuple (by show A.units + 1 < cLine; omega) hx ?_))))
    refine wpAny_bind (pfind (s := { s with toks := s.toks + (k.length + 1) }) R hx (by show A.units + 1 < cLine; omega) fun r er => wpAny_pure ?_)
    show wpAny _ _ (ret (Value.bool r.isSome)) _ _ _
    rw [er]
    exact wpAny_pure ⟨_, rfl, wpAny_truthy_bool (wpAny_pure h)⟩
  show wpAny _ _ (contains (.ref a) (.ref x) >>= fun b => pure (Value.bool b)) Q E s
  refine wpAny_bind ?_
  unfold contains
  try with_reducible refine wpAny_holding ?_
  refine wpAny_bind (wpAny_specialOf ty F.slot_set_contains.lookup ?_)
  refine wp_if_neg (by rw [beq_builtin_none]; decide) (wpAny_bind (wpAny_callSpecialUnlessNone?_slot (name := Str.ofString "__contains__") ty F.slot_set_contains (wpAny_call_entry F.slot_set_contains ty entry_set_contains ask (F.args_set_contains_2 _ _))))
end

section
variable {P : Program} {w : World} {A : Around} {E : Value → Shared → Prop} {s : Shared}
variable {a : Addr} {L : List (Addr × List Int)} {es : Array (Int × Value)} {ep : Nat} {t : SetTable}
theorem PsR.small {h : Heap} (R : PsR P w h a L es ep t) (few : L.length < 64) : SetTR P w h a L es ep t := ⟨R.obj, R.rw_, R.tb, R.nod, R.tps, R.pln, R.ld, R.rm, few⟩
theorem PsR.of {h : Heap} (R : SetTR P w h a L es ep t) : PsR P w h a L es ep t := ⟨R.ob, R.rows, R.tab, R.nd, R.tup, R.plain, R.led, R.room⟩
/-- one more tuple -/
theorem padd (R : PsR P w s.heap a L es ep t) {x : Addr} {k : List Int} (hx : IsT P w s.heap k x) (hu : A.units < cLine) (bnd : L.length + 1 ≤ 76) {Q : Bool → Shared → Prop}
    (h : ∀ b h' L' es' ep' t', Heap.SameBut a s.heap h' → PsR P w h' a L' es' ep' t' → (k ∈ L.map (·.2) → L' = L) → (k ∉ L.map (·.2) → L'.Perm ((x, k) :: L)) → Q b { s with heap := h' }) :
    wpAny (model P w) A (setAddHashed a (.ref x) (thash P w k)) Q E s := by
  by_cases few : L.length + 1 < 64
  · exact add_at (R.small (by omega)) hx hu few fun b h' L' es' ep' t' sb R' c1 c2 => h b h' L' es' ep' t' sb (PsR.of R') c1 c2
  · obtain ⟨o, ho, hex, hd⟩ := R.obj
    have m127 : t.mask = 127 := by
      have := R.rm
      rcases R.tb.mok with e | e | e <;> omega
    unfold setAddHashed
    refine wpAny_holding ?_
    show wpAny (model P w) A (setAddHashedIn a (.ref x) (thash P w k) (99999 + 1)) Q E s
    rw [setAddHashedIn_succ]
    refine wpAny_bind (wpAny_setState_of ho hd R.fts ?_)
    dsimp only
    refine wp_if_neg (by simp [byScan, Value.scannable]) ?_
    try refine wpAny_bind (wpAny_pure ?_)
    refine wpAny_bind (psearch0 R hx hu true (fun i m => ?_) fun N m n1 n2 => ?_)
    · dsimp only
      exact wpAny_pure (h false s.heap L es ep t (Heap.SameBut.refl a s.heap) R (fun _ => rfl) fun z => absurd m z)
    · dsimp only
      refine wpAny_bind (wpAny_setState_of ho hd R.fts ?_)
      dsimp only
      obtain ⟨q1, q2, q3, q4, q5, q6, q7, q8, q9⟩ := R.tb.put n1 n2
      have e0 : way t.mask (thash P w k) N = slAt P w t k N := rfl
      rw [e0] at q1 q2 q3 q4 q5 q6 q7 q8 q9
      generalize slAt P w t k N = sl at q1 q2 q3 q4 q5 q6 q7 q8 q9 ⊢
      rw [q1]
      generalize (t.put sl).1 = t1 at q3 q4 q5 q6 q7 q8 q9 ⊢
      generalize SetTable.below t.place sl = b at q2 q3 ⊢
      have plain1 : t1.plain = true := by rw [q6]; exact R.pln
      refine wp_if_pos plain1 (wpAny_bind (hashBy_tup hx ?_))
      simp only [if_true, Bool.not_false, Bool.true_and]
      have pm : (L.take b ++ (x, k) :: L.drop b).Perm ((x, k) :: L) := put_perm L b (x, k)
      have rows : (SetTable.insertAt es b (thash P w k, Value.ref x)).toList = rowsOf P w (L.take b ++ (x, k) :: L.drop b) := by
        rw [rows_put, ← R.rw_]
        exact SetTable.toList_insertAt _ _ _
      have tabs : TabOk t1 ((L.take b ++ (x, k) :: L.drop b).map fun p => thash P w p.2) := by
        rw [List.map_append, List.map_cons, List.map_take, List.map_drop]
        exact q3
      generalize SetTable.insertAt es b (thash P w k, Value.ref x) = es1 at rows ⊢
      generalize L.take b ++ (x, k) :: L.drop b = L1 at pm rows tabs
      have len1 : L1.length = L.length + 1 := pm.length_eq
      have size1 : es1.size = L.length + 1 := by
        have e := congrArg List.length rows
        rw [Array.length_toList] at e
        rw [e, ← len1]
        exact List.length_map _
      have notFull : ¬ t1.tooFull = true := fun z => by
        have z2 : decide (t1.fill * 5 ≥ t1.mask * 3) = true := z
        rw [decide_eq_true_eq, q9, List.length_map, q4, m127] at z2
        omega
      refine wpAny_bind (wpAny_storeSet_of ho hd ?_ (by rw [size1, sizeLine_eq]; omega))
      refine wp_if_neg notFull ?_
      have sb : Heap.SameBut a s.heap (s.heap.update a (Obj.putSet es1 t1)) := Heap.SameBut.update ..
      refine wpAny_pure (h true _ L1 es1 (ep + 1) t1 sb ⟨⟨_, store_at ho hd, ⟨hex.1, hex.2.1, hex.2.2⟩, rfl⟩, rows, tabs, ?_, fun p hp => ?_, plain1, by rw [q5]; exact R.ld, by rw [len1, q4, m127]; omega⟩ (fun z => absurd z m) fun _ => pm)
      · refine (pm.map (·.2)).nodup_iff.mpr ?_
        rw [List.map_cons]
        exact List.nodup_cons.mpr ⟨m, R.nod⟩
      · rcases List.mem_cons.mp (pm.mem_iff.mp hp) with e | hp2
        · rw [e]
          exact isT_same hx ho hd sb
        · exact isT_same (R.tps p hp2) ho hd sb
end

/-! ### as rules of the layer: a set of pairs of ints -/
theorem perm_map {α β : Type} {f : α → β} {l m : List β} (h : l.Perm m) : ∀ L : List α, m = L.map f → ∃ L' : List α, List.Perm L' L ∧ l = List.map f L' := by
  induction h with
  | nil => intro L e; exact ⟨[], by rw [List.map_eq_nil_iff.mp e.symm], rfl⟩
  | cons x _ ih =>
    intro L e
    cases L with
    | nil => cases e
    | cons y L =>
      obtain ⟨e1, e2⟩ := List.cons.inj e
      obtain ⟨L', p, e3⟩ := ih L e2
      exact ⟨y :: L', p.cons y, by rw [List.map_cons, e1, e3]⟩
  | swap x y l =>
    intro L e
    match L, e with
    | y' :: x' :: L, e =>
      obtain ⟨e1, e2⟩ := List.cons.inj e
      obtain ⟨e3, e4⟩ := List.cons.inj e2
      exact ⟨x' :: y' :: L, List.Perm.swap y' x' L, by rw [List.map_cons, List.map_cons, ← e1, ← e3, ← e4]⟩
  | trans _ _ ih1 ih2 =>
    intro L e
    obtain ⟨L1, p1, e1⟩ := ih2 L e
    obtain ⟨L2, p2, e2⟩ := ih1 L1 e1
    exact ⟨L2, p2.trans p1, e2⟩
def pr2 : List Int → Pr
  | [x, y] => (x, y)
  | _ => (0, 0)
section
variable {P : Program} {w : World} {A : Around} {E : Value → Shared → Prop} {s : Shared}
variable {a : Addr} {L : List (Addr × List Int)} {es : Array (Int × Value)} {ep : Nat} {t : SetTable}
theorem IsT.pair {h : Heap} {b : Addr} {x y : Int} (q : IsT P w h [x, y] b) : Srt.IsPair h (.ref b) x y := by
  obtain ⟨o, items, n, ho, hc, hd, hi⟩ := q
  obtain ⟨its⟩ := items
  cases hi with
  | cons h1 h2 =>
    cases h2 with
    | cons h3 h4 =>
      cases h4
      obtain ⟨t1, rfl⟩ := Value.isInt_shape h1
      obtain ⟨t2, rfl⟩ := Value.isInt_shape h3
      exact ⟨b, o, t1, t2, n, rfl, ho, hc, hd⟩
/-- the pair that stands at a value -/
def kL (L : List (Addr × List Int)) (v : Value) : Pr := match v with
  | .ref b => pr2 ((L.lookup b).getD [])
  | _ => (0, 0)
theorem kL_of {h : Heap} (tps : ∀ p ∈ L, IsT P w h p.2 p.1) {q : Addr × List Int} (m : q ∈ L) : kL L (.ref q.1) = pr2 q.2 := by
  have key : ∀ L : List (Addr × List Int), (∀ p ∈ L, IsT P w h p.2 p.1) → q ∈ L → L.lookup q.1 = some q.2 := by
    intro L
    induction L with
    | nil => intro _ z; cases z
    | cons p L ih =>
      intro tps m
      obtain ⟨b, k⟩ := p
      by_cases e : q.1 = b
      · have t1 := tps _ m
        have t2 := tps (b, k) List.mem_cons_self
        rw [e] at t1
        have e2 : q.2 = k := t1.inj t2
        rw [List.lookup_cons, e, beq_self_eq_true, e2]
      · have m2 : q ∈ L := by
          rcases List.mem_cons.mp m with z | z
          · rw [z] at e
            exact absurd rfl e
          · exact z
        rw [List.lookup_cons, beq_eq_false_iff_ne.mpr e]
        exact ih (fun p hp => tps p (List.mem_cons_of_mem _ hp)) m2
  show pr2 ((L.lookup q.1).getD []) = _
  rw [key L tps m]
  rfl
/-- sorted(set) -/
theorem psorted (R : PsR P w s.heap a L es ep t) (hh : A.handled = none) (two : ∀ p ∈ L, ∃ x y, p.2 = [x, y]) (few : L.length ≤ 1000) {Q : Value → Shared → Prop}
    (h : ∀ s' p c (L' : List (Addr × List Int)), (∀ b o, s.heap.get? b = some o → s'.heap.get? b = some o) → s'.gens = s.gens → s'.os = s.os → s.heap.objs.size ≤ p → s'.heap.get? p = some (seqObj "list" (L'.map fun q => Value.ref q.1).toArray c) → L'.Perm L →
      L'.Pairwise (fun q r => ¬ lt2 (pr2 r.2) (pr2 q.2)) → Q (.ref p) s') : wpAny (model P w) A (call (.builtin "sorted") [.ref a]) Q E s := by
  obtain ⟨o, ho, hex, hd⟩ := R.obj
  have sz := R.sz
  refine Calls.call_function_entry kind_sorted plain_sorted entry_sorted (args_sorted1 _) ?_
  unfold Builtin.«sorted»; refine wpAny_bind (m := checkCount "sorted" 1 1 _) (wpAny_pure ?_)
  refine wpAny_bind (collect_set (A := A.in1) hh ⟨o, ho, hex.1, hd⟩ R.fts (by rw [sz]; unfold scanBound; omega) R.tb.ris R.ld fun s1 vs keep grow g1 o1 pm => ?_)
  have e1 : es.toList.map (·.2) = L.map fun q => Value.ref q.1 := by
    rw [R.rw_]
    show List.map _ (L.map _) = _
    rw [List.map_map]
    rfl
  rw [e1] at pm
  have lv : vs.length ≤ sizeLine := by
    rw [pm.length_eq, List.length_map, sizeLine_eq]
    omega
  refine wpAny_bind (wpAny_newList ?_ lv)
  have new : (s1.heap.push (seqObj "list" vs.toArray 0)).get? s1.heap.objs.size = some (seqObj "list" vs.toArray 0) := Heap.get?_push_size _ rfl
  have pairs : ∀ v ∈ vs, Srt.IsPair (s1.heap.push (seqObj "list" vs.toArray 0)) v (kL L v).1 (kL L v).2 := fun v hv => by
    obtain ⟨q, hq, rfl⟩ := List.mem_map.mp (pm.mem_iff.mp hv)
    rw [kL_of R.tps hq]
    obtain ⟨x, y, e2⟩ := two q hq
    have t1 := R.tps q hq
    rw [e2] at t1 ⊢
    exact Srt.IsPair.keeps (IsT.pair t1) fun b u e _ => Heap.get?_push_of_some _ (keep b u e)
  refine wpAny_bind (wpAny_holding (wpAny_call_entry slot_list_sort ⟨_, new, rfl⟩ entry_list_sort (SrtO.list_sort_ord (s := { s1 with heap := s1.heap.push (seqObj "list" vs.toArray 0) }) (SrtO.swo_lex (kL L)) new lv (fun h2 => SrtO.pairs_sortableO (by omega) pairs fun o e c => ?_) fun out so st => ⟨_, rfl, ?_⟩) (args_list_sort _)))
  · have e3 : some o = some (seqObj "list" vs.toArray 0) := e.symm.trans new
    cases e3
    exact absurd (Value.type.inj c) (by decide)
  · obtain ⟨L', p1, p2⟩ := perm_map (st.perm.trans pm) L rfl
    obtain ⟨c, hc⟩ := sortedHeap_at (vs := vs) (out := out.toArray) new
    refine wpAny_pure ⟨_, rfl, h _ s1.heap.objs.size c L' (fun b u e => ?_) g1 o1 grow ?_ p1 ?_⟩
    · have e4 := keep b u e
      have lt := Heap.lt_size e4
      show (sortedHeap (s1.heap.push (seqObj "list" vs.toArray 0)) s1.heap.objs.size vs out.toArray).get? b = some u
      rw [sortedHeap_old (Nat.ne_of_lt lt) (by rw [size_push']; exact Nat.lt_succ_of_lt lt)]
      exact Heap.get?_push_of_some _ e4
    · rw [← p2]
      exact hc
    · rw [p2] at so
      refine List.Pairwise.imp_of_mem (fun {q r} hq hr z => ?_) (List.pairwise_map.mp so)
      have z2 : SrtO.lexB (kL L (Value.ref r.1)) (kL L (Value.ref q.1)) = false := z
      rw [kL_of R.tps (p1.mem_iff.mp hq), kL_of R.tps (p1.mem_iff.mp hr)] at z2
      exact SrtO.lexB_no.mp z2
end
/-- the set at a without its tuples -/
structure Ps0 (P : Program) (w : World) (h : Heap) (a : Addr) (L : List (Addr × List Int)) : Prop where
  ex : ∃ (es : Array (Int × Value)) (ep : Nat) (t : SetTable), (∃ o, h.get? a = some o ∧ o.ExactSet ∧ o.data = .set es ep t) ∧ es.toList = rowsOf P w L ∧ TabOk t (L.map fun p => thash P w p.2) ∧ (L.map (·.2)).Nodup ∧ t.plain = true ∧ (w.params.followText "set-order" = true ∨ t.led = true) ∧ L.length * 5 < t.mask * 3
def PsO (P : Program) (w : World) (a : Addr) (L : List (Addr × List Int)) : HO := .ext fun h => Ps0 P w h a L
theorem PsR.p0 {P : Program} {w : World} {h : Heap} {a : Addr} {L : List (Addr × List Int)} {es : Array (Int × Value)} {ep : Nat} {t : SetTable} (R : PsR P w h a L es ep t) : Ps0 P w h a L := ⟨es, ep, t, R.obj, R.rw_, R.tb, R.nod, R.pln, R.ld, R.rm⟩
theorem Ps0.full {P : Program} {w : World} {h : Heap} {a : Addr} {L : List (Addr × List Int)} (R : Ps0 P w h a L) (tp : ∀ p ∈ L, IsT P w h p.2 p.1) : ∃ es ep t, PsR P w h a L es ep t := by
  obtain ⟨es, ep, t, h1, h2, h3, h4, h5, h6, h7⟩ := R.ex
  exact ⟨es, ep, t, ⟨h1, h2, h3, h4, tp, h5, h6, h7⟩⟩
theorem psO_new {P : Program} {w : World} {H : Hp} {h : Heap} {a : Addr} {L : List (Addr × List Int)} (R : Ps0 P w h a L) : ObjOk P w H h a (PsO P w a L) := by
  refine ⟨R, ?_, fun h1 h2 p k => ?_⟩
  · obtain ⟨_, _, _, ⟨o, ho, _⟩, _⟩ := R.ex
    exact ⟨o, ho⟩
  · obtain ⟨es, ep, t, ⟨o, ho, r⟩, q⟩ := Ps0.ex p
    exact ⟨es, ep, t, ⟨o, k o ho, r⟩, q⟩
section
variable {X : Cx}
theorem ps_get {pins : List (Addr × Obj)} {σ : L2.St} {H : Hp} {s : Shared} {a : Addr} {L : List (Addr × List Int)} (I : Inv X pins σ H s) (ha : H a = some (PsO X.prog X.w a L)) (tp : ∀ p ∈ L, SqT X.K H p.1 (p.2.map V.int)) : ∃ es ep t, PsR X.prog X.w s.heap a L es ep t :=
  Ps0.full (I.hok a _ ha).1 fun p hp => I.isT (tp p hp)
/-- set(), to be filled with pairs -/
def rPs0 (P : Program) (w : World) : List V → Hp → VK → Prop := fun xs H Q => xs = [] ∧ ∀ p, H p = none → Q (.ref p) (upd H p (PsO P w p []))
theorem cr_ps0 : CallR X (.type "set") (rPs0 X.prog X.w) := by
  intro pins s σ H xs us Q I r h
  obtain ⟨rfl, q⟩ := h
  cases r
  refine setR_new fun _ => ?_
  exact ⟨.ref _, upd H s.heap.objs.size (PsO X.prog X.w s.heap.objs.size []), I.laid (t' := s.toks) (fun b u e => Heap.get?_push_of_some _ e) (Nat.le_refl _) (psO_new (PsR.of (setTR_fresh (Heap.get?_push_size _ rfl))).p0), rfl, q _ (I.hok.fresh (Nat.le_refl _))⟩
/-- (a, b) in seen -/
def rPsIn (K : PySem.W.Frag) (P : Program) (w : World) : V → V → Hp → VK → Prop := fun x y H Q => ∃ b k a L, x = V.ref b ∧ y = V.ref a ∧ H a = some (PsO P w a L) ∧ (∀ p ∈ L, SqT K H p.1 (p.2.map V.int)) ∧ SqT K H b (k.map V.int) ∧ Q (.bl (decide (k ∈ L.map (·.2)))) H
theorem op_psIn (hu : X.A.units + 64 < cLine) : OpR X (compareOp .In) (rPsIn X.K X.prog X.w) := by
  intro pins s σ H x y v u Q I rx ry h
  obtain ⟨b, k, a, L, rfl, rfl, ha, tp, hb, q⟩ := h
  cases (show v = Value.ref b from rx)
  cases (show u = Value.ref a from ry)
  obtain ⟨es, ep, t, R⟩ := ps_get I ha tp
  exact pis_in R (I.isT hb) (by omega) ⟨.bl _, H, I.tok _, rfl, q⟩
/-- seen.add((a, b)) -/
def rPsAdd (K : PySem.W.Frag) (P : Program) (w : World) : V → List V → Hp → VK → Prop := fun x xs H Q => ∃ b k a L, x = V.ref a ∧ xs = [V.ref b] ∧ H a = some (PsO P w a L) ∧ (∀ p ∈ L, SqT K H p.1 (p.2.map V.int)) ∧ SqT K H b (k.map V.int) ∧ L.length + 1 ≤ 76 ∧
  ∀ L', (k ∈ L.map (·.2) → L' = L) → (k ∉ L.map (·.2) → L'.Perm ((b, k) :: L)) → Q .non (upd H a (PsO P w a L'))
theorem mt_psAdd (hu : X.A.units + 64 < cLine) : MtR X "set.add" (rPsAdd X.K X.prog X.w) := by
  intro pins s σ H x xs v us Q I rx rxs h
  obtain ⟨b, k, a, L, rfl, rfl, ha, tp, hb, bnd, q⟩ := h
  cases rx
  cases rxs with
  | cons ry rt =>
    cases rt
    cases (show _ = Value.ref b from ry)
    obtain ⟨es, ep, t, R⟩ := ps_get I ha tp
    have hx := I.isT hb
    refine wpAny_call_entry F.slot_set_add R.ty F.entry_set_add ?_ (F.args_set_add_2 _ _)
    simp only [Builtin.«set.add», Builtin.Frozenset.oneOther, Builtin.Frozenset.addrOf, setAdd, List.isEmpty_nil, bind_assoc]
    refine wpAny_bind (wpAny_pure ?_); try dsimp only
    refine wpAny_bind (wpAny_pure ?_); try dsimp only
    refine wpAny_bind (wpAny_holding (wpAny_bind (wpAny_pyHash_tuple (by show X.A.units + 1 < cLine; omega) hx ?_)))
    refine padd (s := { s with toks := s.toks + (k.length + 1) }) R hx (by show X.A.units + 1 < cLine; omega) bnd fun c h' L' es' ep' t' sb R' c1 c2 => ?_
    show wpAny _ _ (ret Value.none) _ _ _
    have he : ∃ u, h'.get? a = some u := by
      obtain ⟨o, ho, _⟩ := R'.obj
      exact ⟨o, ho⟩
    exact wpAny_pure ⟨_, rfl, .non, upd H a (PsO X.prog X.w a L'), I.write (e := a) (t' := s.toks + (k.length + 1)) (by rw [ha]; trivial) (.inl rfl) (fun b u hb hu => (sb.2 b hb).trans hu) he (psO_new R'.p0), rfl, q L' c1 c2⟩
/-- sorted(seen) -/
def rPsSort (K : PySem.W.Frag) (P : Program) (w : World) : List V → Hp → VK → Prop := fun vs H Q => ∃ a L, vs = [V.ref a] ∧ H a = some (PsO P w a L) ∧ (∀ p ∈ L, SqT K H p.1 (p.2.map V.int)) ∧ (∀ p ∈ L, ∃ x y, p.2 = [x, y]) ∧ L.length ≤ 1000 ∧
  ∀ (L' : List (Addr × List Int)) (p : Addr), L'.Perm L → (L'.map (·.2)).Nodup → L'.Pairwise (fun q r => ¬ lt2 (pr2 r.2) (pr2 q.2)) → H p = none → Q (.ref p) (upd H p (.lst (L'.map fun q => V.ref q.1)))
theorem cr_psSort (hc : X.calm = true) : CallR X (.builtin "sorted") (rPsSort X.K X.prog X.w) := by
  intro pins s σ H vs us Q I r h
  obtain ⟨a, L, rfl, ha, tp, two, few, q⟩ := h
  obtain ⟨es, ep, t, R⟩ := ps_get I ha tp
  rw [Vals.ref1 r]
  refine psorted R (I.ok.hd hc) two few fun s' p c L' keep g o hp hg pm pw => ?_
  have hn : H p = none := I.hok.fresh hp
  have ll : (L'.map fun q => V.ref q.1).length ≤ sizeLine := by
    rw [List.length_map, pm.length_eq, sizeLine_eq]
    omega
  have J : Inv X pins σ (upd H p (.lst (L'.map fun q => V.ref q.1))) { s with heap := s'.heap, gens := s'.gens, drawn := s'.drawn, toks := s'.toks } :=
    I.call (ch := []) (Un.laid keep hp hn) (I.hok.laid keep hp ⟨ll, _, c, vals_of_refs L', hg⟩) (by rw [g]; exact I.bare) (fun _ z => nomatch z)
  have e : s' = { s with heap := s'.heap, gens := s'.gens, drawn := s'.drawn, toks := s'.toks } := by
    cases s'
    cases s
    cases o
    rfl
  rw [e]
  exact ⟨.ref p, _, J, rfl, q L' p pm ((pm.map (·.2)).nodup_iff.mpr R.nod) pw hn⟩
/-- the call of the method -/
def tPsAdd (K : PySem.W.Frag) (P : Program) (w : World) (to : TE) (t : TA) : TE := fun σ H Q => to σ H fun x H1 => (∃ a L, x = V.ref a ∧ H1 a = some (PsO P w a L)) ∧ t σ H1 fun xs H2 => rPsAdd K P w x xs H2 Q
theorem ps_look {pins : List (Addr × Obj)} {σ : L2.St} {H : Hp} {s : Shared} {a : Addr} {L : List (Addr × List Int)} (I : Inv X pins σ H s) (ha : H a = some (PsO X.prog X.w a L)) : s.TypeIs (.ref a) "set" ∧ ∀ b, Value.ref a = .ref b → ∃ ob, s.heap.get? b = some ob ∧ ob.dict = none := by
  obtain ⟨_, _, _, ⟨o, ho, hx, _⟩, _⟩ := Ps0.ex (I.hok a _ ha).1
  refine ⟨⟨o, ho, hx.1⟩, fun b e => ?_⟩
  injection e with e
  subst e
  exact ⟨o, ho, hx.2.1⟩
theorem pe_psAdd {o e : Expr} {es : List Expr} {to : TE} {t : TA} {apos cpos : Pos} (hu : X.A.units + 64 < cLine) (ho : PE X o to) (ha : PA X (e :: es) t)
    (b1 : attributeBase o "add" X.env (eval o X.env) = eval o X.env := by rfl)
    (b2 : ((backTo cpos (starEach (e :: es) X.env)).all (fun x => !x.1) && (backToKw cpos (keywordEach [] X.env)).all (fun x => x.1.isSome) && decide ((e :: es).length + ([] : List Keyword).length + (if ([] : List Keyword).isEmpty then 0 else 1) < 30)) = true := by rfl)
    (b3 : (apos.endLine == cpos.line) = true := by rfl) (b4 : starEach (e :: es) X.env = (false, eval e X.env) :: starEach es X.env := by rfl) (b5 : (backTo cpos (starEach es X.env)).any (·.1) = false := by rfl) :
    PE X (.Call (.Attribute o "add" apos) (e :: es) [] cpos) (tPsAdd X.K X.prog X.w to t) := by
  refine ⟨fun pins s σ H Q I h => wpAny_Call_method_late b1 b2 b3 rfl (thn (ho.run pins s σ H _ I h) ?_)⟩
  rintro v s1 ⟨x, H1, I1, r1, ⟨a, L, rfl, hka⟩, q1⟩
  cases r1
  obtain ⟨k1, k2⟩ := ps_look I1 hka
  refine ⟨"set", "set.add", F.plainAttrs_set, F.slot_set_add, F.type_set_add, k1, k2, ?_⟩
  have run := ha.run cpos pins s1 σ H1 _ I1 q1
  rw [b4] at run ⊢
  refine Calls.callWith_builtin ?_ (Calls.evalArgs_plain (thn run ?_))
  · show (false || (backTo cpos (starEach es X.env)).any (·.1)) = false
    rw [b5]
    rfl
  · rintro us s2 ⟨vs, H2, I2, r2, q2⟩
    exact mt_psAdd hu pins s2 σ H2 (.ref a) vs (.ref a) us Q I2 rfl r2 q2
end

abbrev sHouse : Stmt := topS 5
abbrev sHinit : Stmt := inClass sHouse 2
abbrev sHcount : Stmt := inClass sHouse 3
abbrev sHdoors : Stmt := inClass sHouse 4
abbrev sHnear : Stmt := inClass sHouse 5
abbrev sHhas : Stmt := inClass sHouse 6
abbrev sRoom : Stmt := topS 6
abbrev sChk : Stmt := topS 7
/-- what the walk asks of the class House -/
structure Hs (K : PySem.W.Frag) (mg : Str → Option Value) (C : Addr) : Prop where
  cl : Cls K C
  nR : NoAttr K C "rooms"
  nD : NoAttr K C "_doors"
  nN : NoAttr K C "_near"
  mgC : mg "House" = some (.ref C)
  rd : ∃ mc u, ClX.CRead K C mc ∧ ClX.CVal K C mc "MOST_ROOMS" (.int 12) u
theorem for_enum {K : PySem.W.Frag} {a : Addr} {xs : List V} {g : TG} {tb : TS} {D : Ends} {σ : L2.St} {H : Hp} (Pv : Nat → L2.St → Hp → Prop) (h0 : Pv 0 σ H) (hl : ∀ i σ H, Pv i σ H → SqL K H a xs)
    (hs : ∀ (i : Nat) (x : V) (t : Addr) (σ : L2.St) (H : Hp), xs[i]? = some x → Pv i σ H → H t = none → g (.ref t) σ (upd H t (.tup [.int (i : Nat), x])) fun σ2 H2 => tb { D with nx := Pv (i + 1), ct := Pv (i + 1), bk := D.nx } σ2 H2) (hd : ∀ σ H, Pv xs.length σ H → D.nx σ H) :
    tFor (fun _ H R => R (Ite K a) H) g tb D σ H := by
  refine ⟨fun i m σ H => m = xs.length - i ∧ i ≤ xs.length ∧ Pv i σ H, ⟨xs.length, rfl, Nat.zero_le _, h0⟩, ?_⟩
  rintro i m σ H ⟨rfl, hi, p⟩
  have q := hl i σ H p
  by_cases lt : i < xs.length
  · refine .inr ⟨⟨xs, xs[i], q, List.getElem?_eq_getElem lt⟩, Pv (i + 1), fun σ' H' p' => ⟨xs.length - (i + 1), by omega, rfl, lt, p'⟩, ?_⟩
    rintro v H' ⟨t, x, rfl, nt, rfl, f⟩
    exact hs i x t σ H (f xs q) p nt
  · have e : i = xs.length := by omega
    subst e
    exact .inl ⟨⟨xs, q, Nat.le_refl _⟩, hd σ H p⟩
section
variable {P : Program} {w : World} {K : PySem.W.Frag} {mg : Str → Option Value} {base : Heap}
theorem scRoom : FnScope ["rooms"] ["rooms"] (defScope sRoom) := ⟨rfl, rfl, rfl, by decide +kernel, rfl, by decide +kernel, by decide +kernel⟩
def spRoom : Sp := fun vs H Q _ => ∃ r : Int, vs = [.int r] ∧ 1 ≤ r ∧ r ≤ 12 ∧ Q .non H
theorem ok_room {f C : Addr} {fd : FuncData} (F : Fun K "check_room_count" "check_room_count" sRoom f fd) (T : Hs K mg C) : FnOk P w K mg base CX0 1 f fd ["rooms"] spRoom := by
  refine F.ok scRoom (fun vs H Q E h => ?_) (fun cdv A outer s H vs Q E hr h => ?_)
  · obtain ⟨r, rfl, _⟩ := h
    rfl
  · obtain ⟨r, rfl, h1, h2, q⟩ := h
    refine ⟨_, (pss_one (ps_if (pt_not (pt_chain op_le op_le pe_int (pv 0) (ClX.pe_cval (pe_glob (v := .ref C) (by rfl) T.mgC rfl))))
      (pss_one (ps_never))
      pss_nil)), ?_⟩
    obtain ⟨mc, u, c1, c2⟩ := T.rd
    walk_at "rd"
    rw [if_pos h1]
    refine ⟨C, mc, .int 12, u, rfl, c1, c2, 12, rfl, ?_⟩
    rw [decide_eq_true h2]
    exact iteF q
theorem scChk : FnScope ["rooms", "doors", "seen", "place", "a", "b"] ["rooms", "doors"] (defScope sChk) := ⟨rfl, rfl, rfl, by decide +kernel, rfl, by decide +kernel, by decide +kernel⟩
def two (d : Pr) : List Int := [d.1, d.2]
theorem psO_ne {P : Program} {w : World} {a : Addr} {L : List (Addr × List Int)} {xs : List V} : PsO P w a L ≠ .tup xs := fun h => by
  unfold PsO at h
  cases h
theorem two_inj {d e : Pr} (h : two d = two e) : d = e := by
  unfold two at h
  obtain ⟨h1, h2⟩ := List.cons.inj h
  exact Prod.ext h1 (List.cons.inj h2).1
theorem not_taken {D : List Pr} (nd : D.Nodup) {i : Nat} {d : Pr} (g : D[i]? = some d) : d ∉ D.take i := fun z => by
  obtain ⟨j, gj⟩ := List.getElem?_of_mem z
  have lt : j < (D.take i).length := (List.getElem?_eq_some_iff.mp gj).1
  rw [List.length_take] at lt
  rw [List.getElem?_take_of_lt (by omega)] at gj
  have := nd_ix nd gj g
  omega
def spChk : Sp := fun vs H Q _ => ∃ (r : Nat) (l : Addr) (us : List V) (D : List Pr), vs = [.int r, .ref l] ∧ H l = some (.lst us) ∧ PL H us D ∧ D.Nodup ∧ (∀ d ∈ D, 0 ≤ d.1 ∧ d.1 < d.2 ∧ d.2 < r) ∧ r ≤ 12 ∧
  ∀ D' ws p H', Asc D' → (∀ d, d ∈ D' ↔ d ∈ D) → Same H H' → H p = none → H' p = some (.lst ws) → PL H' ws D' → Q (.ref p) H'
theorem ok_chk {f : Addr} {fd : FuncData} (F : Fun K "checked_doors" "checked_doors" sChk f fd) (T : Bi mg) : FnOk P w K mg base CX0 1 f fd ["rooms", "doors"] spChk := by
  refine F.ok scChk (fun vs H Q E h => ?_) (fun cdv A outer s H vs Q E hr h => ?_)
  · obtain ⟨r, l, us, D, rfl, _⟩ := h
    rfl
  · obtain ⟨r, l, us, D, rfl, hl, pl, nd, ok, hr12, q⟩ := h
    refine ⟨_, (pss_cons (ps_set (i := 2) scChk.nd rfl (Or.inl rfl) (pe_callTy0 cr_ps0 (by rfl) T.set (by decide +kernel)))
      (pss_cons (ps_for PassesOwn.never rfl (pi_enum (by rfl) T.enumerate (pa_cons (pv 1) pa_nil)) (pg_tup rfl (pgs_cons (pg_name (i := 3) scChk.nd rfl (Or.inl rfl)) (pgs_cons (pg_tup rfl (pgs_cons (pg_name (i := 4) scChk.nd rfl (Or.inl rfl)) (pgs_cons (pg_name (i := 5) scChk.nd rfl (Or.inl rfl)) pgs_nil))) pgs_nil)))
      (pss_cons (ps_if (PW.pt (pw_or (pt_not (PW.pt (pw_and (pt_chain op_le op_lt pe_int (pv 4) (pv 0)) (pw_and1 (pt_chain op_le op_lt pe_int (pv 5) (pv 0)))))) (pw_or (pt_cmpR op_eqI (pv 4) (pv 5) (nomark _)) (pw_or1 (pt_cmpR (op_psIn hr.units) (pe_tup (pa_cons (pv 4) (pa_cons (pv 5) pa_nil))) (pv 2) (by rfl))))))
        (pss_one (ps_never))
        pss_nil)
        (pss_one (ps_expr (pe_psAdd hr.units (pv 2) (pa_cons (pe_tup (pa_cons (pv 4) (pa_cons (pv 5) pa_nil))) pa_nil))))))
      (pss_one (ps_ret (pe_callB (cr_psSort rfl) (by rfl) T.sorted (by decide +kernel) (pa_cons (pv 2) pa_nil)))))), ?_⟩
    walk_at "rd"
    refine ⟨rfl, fun p np => ?_⟩
    obtain ⟨Pv, hPv⟩ : ∃ Pv : Nat → L2.St → Hp → Prop, Pv = (fun i σ H' => ∃ (L : List (Addr × List Int)) (v3 v4 v5 : Option V), σ = [some (.int r), some (.ref l), some (.ref p), v3, v4, v5] ∧ Same H H' ∧ H' p = some (PsO P w p L) ∧ (∀ q ∈ L, H' q.1 = some (.tup (q.2.map V.int))) ∧ List.Perm (L.map (·.2)) ((D.take i).map two)) := ⟨_, rfl⟩
    have hul : us.length = D.length := pl.len
    have dlen := drs_len' hr12 nd ok
    refine ⟨_, rfl, l, us, rfl, SqL.of (same_upd np l _ hl), for_enum (xs := us) Pv (by rw [hPv]; exact ⟨[], none, none, none, rfl, same_upd np, upd_same, fun q hq => (by cases hq), List.Perm.refl _⟩) (fun i σ H' pv => ?_) ?_ ?_⟩
    · rw [hPv] at pv
      obtain ⟨L, v3, v4, v5, _, sm, _⟩ := pv
      exact SqL.of (sm l _ hl)
    · rintro i v t σ H' gv pv nt
      have nxt : ∀ (L : List (Addr × List Int)) (v3 v4 v5 : Option V) (H' : Hp), Same H H' → H' p = some (PsO P w p L) → (∀ q ∈ L, H' q.1 = some (.tup (q.2.map V.int))) → List.Perm (L.map (·.2)) ((D.take (i + 1)).map two) → Pv (i + 1) [some (.int r), some (.ref l), some (.ref p), v3, v4, v5] H' := fun L v3 v4 v5 H' h1 h2 h3 h4 => by
        rw [hPv]
        exact ⟨L, v3, v4, v5, rfl, h1, h2, h3, h4⟩
      rw [hPv] at pv
      obtain ⟨L, v3, v4, v5, rfl, sm, hp, tp, pm⟩ := pv
      obtain ⟨d, gd, td, rfl, htd⟩ := pl.get gv
      have hid : i < D.length := (List.getElem?_eq_some_iff.mp gd).1
      have md : d ∈ D := List.mem_of_getElem? gd
      have okd := ok d md
      have hl1 := sm l _ hl
      have htd1 := sm td _ htd
      have ntd : td ≠ t := ne_of_none htd1 nt
      have htd2 : upd H' t (HO.tup [V.int i, V.ref td]) td = some (.tup [.int d.1, .int d.2]) := by rw [upd_ne ntd]; exact htd1
      walk_at "rd"
      refine ⟨[.int i, .ref td], SqT.of upd_same, rfl, .int i, [.ref td], rfl, .ref td, [], rfl, td, rfl, [.int d.1, .int d.2], SqT.of htd2, rfl, .int d.1, [.int d.2], rfl, .int d.2, [], rfl, rfl, rfl, d.1, rfl, ?_⟩
      rw [if_pos okd.1]
      refine ⟨d.1, rfl, ?_⟩
      rw [if_pos (show d.1 < (r : Int) by omega)]
      refine ⟨d.2, rfl, ?_⟩
      rw [if_pos (show 0 ≤ d.2 by omega)]
      refine ⟨d.2, rfl, ?_⟩
      rw [decide_eq_true okd.2.2]
      refine iteF ?_
      refine ⟨d.1, rfl, d.2, rfl, ?_⟩
      rw [if_neg (show ¬ d.1 = d.2 by omega)]
      refine ⟨by decide, fun t1 nt1 => ?_⟩
      have ne1 : t1 ≠ p := fun e => by
        rw [e, upd_ne (show p ≠ t from ne_of_none hp nt), hp] at nt1
        cases nt1
      have s1 : Same H' (upd (upd H' t (HO.tup [V.int i, V.ref td])) t1 (HO.tup [V.int d.1, V.int d.2])) := (same_upd nt).trans (same_upd nt1)
      have out : two d ∉ L.map (·.2) := fun z => by
        obtain ⟨e, he, ee⟩ := List.mem_map.mp (pm.mem_iff.mp z)
        rw [two_inj ee] at he
        exact not_taken nd gd he
      have lenL : L.length ≤ 66 := by
        have e := pm.length_eq
        rw [List.length_map, List.length_map, List.length_take] at e
        omega
      refine ⟨t1, two d, p, L, rfl, rfl, s1 p _ hp, fun q hq => SqT.of (s1 _ _ (tp q hq)), SqT.of upd_same, ?_⟩
      rw [decide_eq_false out]
      refine ⟨false, rfl, iteF ?_⟩
      generalize upd (upd H' t (HO.tup [V.int i, V.ref td])) t1 (HO.tup [V.int d.1, V.int d.2]) = H1 at s1
      have hp1 := s1 p _ hp
      refine ⟨_, rfl, ⟨p, L, rfl, hp1⟩, _, rfl, _, rfl, (by show 2 ≤ sizeLine; decide), fun t2 nt2 => ?_⟩
      have s2 : Same H1 (upd H1 t2 (HO.tup [V.int d.1, V.int d.2])) := same_upd nt2
      have hp2 := s2 p _ hp1
      refine ⟨t2, two d, p, L, rfl, rfl, hp2, fun q hq => SqT.of (s2 _ _ (s1 _ _ (tp q hq))), SqT.of upd_same, by omega, fun L' _ c2 => ?_⟩
      have pm2 := c2 out
      have keep : ∀ b xs, upd H1 t2 (HO.tup [V.int d.1, V.int d.2]) b = some (.tup xs) → upd (upd H1 t2 (HO.tup [V.int d.1, V.int d.2])) p (PsO P w p L') b = some (.tup xs) := fun b xs e => by
        rw [upd_ne]
        · exact e
        · rintro rfl
          rw [hp2] at e
          exact psO_ne (Option.some.inj e)
      refine nxt L' _ _ _ _ (same_ch ((sm.trans s1).trans s2) np) upd_same (fun q hq => ?_) ?_
      · refine keep _ _ ?_
        rcases List.mem_cons.mp (pm2.mem_iff.mp hq) with e | hq2
        · rw [e]
          exact upd_same
        · exact s2 _ _ (s1 _ _ (tp q hq2))
      · refine (pm2.map (·.2)).trans ?_
        rw [List.map_cons, List.take_add_one, gd, List.map_append]
        exact (List.Perm.cons _ pm).trans (List.perm_append_singleton _ _).symm
    · intro σ H' pv
      rw [hPv] at pv
      obtain ⟨L, v3, v4, v5, rfl, sm, hp, tp, pm⟩ := pv
      rw [hul, List.take_length] at pm
      have shape : ∀ q ∈ L, ∃ d ∈ D, q.2 = two d := fun q hq => by
        obtain ⟨d, hd, e⟩ := List.mem_map.mp (pm.mem_iff.mp (List.mem_map.mpr ⟨q, hq, rfl⟩))
        exact ⟨d, hd, e.symm⟩
      have lenL : L.length = D.length := by
        have e := pm.length_eq
        rw [List.length_map, List.length_map] at e
        exact e
      walk_at "rd"
      refine ⟨p, L, rfl, hp, fun q hq => SqT.of (tp q hq), fun q hq => ?_, by omega, fun L' t p1 n1 w1 nt => ?_⟩
      · obtain ⟨d, _, e⟩ := shape q hq
        exact ⟨d.1, d.2, e⟩
      · have hl' : ∀ q ∈ L', pr2 q.2 ∈ D ∧ H' q.1 = some (.tup [.int (pr2 q.2).1, .int (pr2 q.2).2]) := fun q hq => by
          have hq2 := p1.mem_iff.mp hq
          obtain ⟨d, hd, e⟩ := shape q hq2
          have e2 := tp q hq2
          rw [e] at e2 ⊢
          exact ⟨hd, e2⟩
        have back : ∀ q ∈ L', two (pr2 q.2) = q.2 := fun q hq => by
          obtain ⟨d, hd, e⟩ := shape q (p1.mem_iff.mp hq)
          rw [e]
          rfl
        refine q (L'.map fun q => pr2 q.2) (L'.map fun q => V.ref q.1) t _ (asc_of ?_ ?_) (fun d => ?_) (sm.trans (same_upd nt)) (sm.free nt) upd_same ?_
        · refine List.pairwise_map.mpr (List.Pairwise.imp_of_mem (fun {x y} hx hy hne e => hne ?_) (List.pairwise_map.mp n1))
          rw [← back x hx, ← back y hy, e]
        · exact List.pairwise_map.mpr w1
        · constructor
          · intro hd
            obtain ⟨q, hq, rfl⟩ := List.mem_map.mp hd
            exact (hl' q hq).1
          · intro hd
            have m1 : two d ∈ L.map (·.2) := pm.mem_iff.mpr (List.mem_map.mpr ⟨d, hd, rfl⟩)
            obtain ⟨q, hq, e⟩ := List.mem_map.mp m1
            refine List.mem_map.mpr ⟨q, p1.mem_iff.mpr hq, ?_⟩
            rw [e]
            rfl
        · have all : ∀ M : List (Addr × List Int), (∀ q ∈ M, H' q.1 = some (.tup [.int (pr2 q.2).1, .int (pr2 q.2).2])) → PL H' (M.map fun q => V.ref q.1) (M.map fun q => pr2 q.2) := by
            intro M
            induction M with
            | nil => intro _; exact Paired.nil
            | cons q M ih => intro h; exact Paired.cons ⟨q.1, rfl, h q List.mem_cons_self⟩ (ih fun z hz => h z (List.mem_cons_of_mem _ hz))
          exact (all L' fun q hq => (hl' q hq).2).kt (KT.new nt)
end

/-! ### the house as an object -/
def hf (r : Int) (l m : Addr) : List (Str × V) := putF "_near" (.ref m) (putF "_doors" (.ref l) (putF "rooms" (.int r) []))
theorem hn1 : ¬ (("rooms" : Str) = "_doors") := by decide +kernel
theorem hn2 : ¬ (("rooms" : Str) = "_near") := by decide +kernel
theorem hn3 : ¬ (("_doors" : Str) = "_near") := by decide +kernel
theorem hf_rooms (r : Int) (l m : Addr) : (hf r l m).lookup ("rooms" : Str) = some (.int r) := by
  unfold hf
  rw [lookup_putF, if_neg hn2, lookup_putF, if_neg hn1, lookup_putF, if_pos rfl]
theorem hf_doors (r : Int) (l m : Addr) : (hf r l m).lookup ("_doors" : Str) = some (.ref l) := by
  unfold hf
  rw [lookup_putF, if_neg hn3, lookup_putF, if_pos rfl]
theorem hf_near (r : Int) (l m : Addr) : (hf r l m).lookup ("_near" : Str) = some (.ref m) := by
  unfold hf
  rw [lookup_putF, if_pos rfl]
theorem hf_no (r : Int) (l m : Addr) {x : Str} (h1 : ¬ x = "_near") (h2 : ¬ x = "_doors") (h3 : ¬ x = "rooms") : (hf r l m).lookup x = none := by
  unfold hf
  rw [lookup_putF, if_neg h1, lookup_putF, if_neg h2, lookup_putF, if_neg h3]
  rfl
/-- the neighbours of room i by the doors D, in the order in which they are met -/
def nearF (i : Int) (D : List Pr) : List Int := D.filterMap fun d => if d.1 = i then some d.2 else if d.2 = i then some d.1 else none
/-- a house with these rooms and doors stands at p -/
structure HouseAt (C : Addr) (H : Hp) (p : Addr) (r : Nat) (D : List Pr) (own : List Addr) : Prop where
  ex : ∃ (dx l m : Addr) (ls : List V) (ns : List Addr), H p = some (.ins C dx (hf r l m)) ∧ H l = some (.lst ls) ∧ PL H ls D ∧ H m = some (.lst (ns.map V.ref)) ∧ ns.length = r ∧ (∀ i n, ns[i]? = some n → H n = some (.lst ((nearF (i : Nat) D).map V.int))) ∧ own = p :: l :: m :: ns
  ok : Drs r D
  r1 : 1 ≤ r
  r12 : r ≤ 12
theorem nearF_snoc (j : Int) (D : List Pr) (d : Pr) : nearF j (D ++ [d]) = nearF j D ++ (if d.1 = j then [d.2] else if d.2 = j then [d.1] else []) := by
  unfold nearF
  rw [List.filterMap_append]
  congr 1
  show List.filterMap _ [d] = _
  rw [List.filterMap_cons]
  by_cases h1 : d.1 = j
  · simp [h1]
  · by_cases h2 : d.2 = j
    · simp [h1, h2]
    · simp [h1, h2]
def mm2 (d : Pr) : Pr := (if d.2 < d.1 then d.2 else d.1, if d.2 > d.1 then d.2 else d.1)
section
variable {P : Program} {w : World} {K : PySem.W.Frag} {mg : Str → Option Value} {base : Heap}
theorem scHinit : FnScope ["self", "rooms", "doors", "a", "b", "_"] ["self", "rooms", "doors"] (defScope sHinit) := ⟨rfl, rfl, rfl, by decide +kernel, rfl, by decide +kernel, by decide +kernel⟩
def spHinit (C : Addr) : Sp := fun vs H Q _ => ∃ (p dx l : Addr) (r : Nat) (us : List V) (D E : List Pr), vs = [.ref p, .int r, .ref l] ∧ H p = some (.ins C dx []) ∧ H l = some (.lst us) ∧ PL H us D ∧ D.map mm2 = E ∧ E.Nodup ∧ (∀ d ∈ E, 0 ≤ d.1 ∧ d.1 < d.2 ∧ d.2 < r) ∧ 1 ≤ r ∧ r ≤ 12 ∧
  ∀ D' own H', (∀ d, d ∈ D' ↔ d ∈ E) → HouseAt C H' p r D' own → (∀ b o, H b = some o → b ≠ p → H' b = some o) → (∀ b ∈ own, b ≠ p → H b = none) → Q .non H'
theorem ok_hinit {f C fR fC : Addr} {fd fdR fdC : FuncData} (F : Fun K "__init__" "House.__init__" sHinit f fd) (T : Bi mg) (U : Hs K mg C) (d_check_room_count : Df P w K mg base "check_room_count" ["rooms"] 1 spRoom fR fdR)
    (d_checked_doors : Df P w K mg base "checked_doors" ["rooms", "doors"] 1 spChk fC fdC) : FnOk P w K mg base CX0 2 f fd ["self", "rooms", "doors"] (spHinit C) := by
  refine F.ok scHinit (fun vs H Q E h => ?_) (fun cdv A outer s H vs Q E hr h => ?_)
  · obtain ⟨p, dx, l, r, us, D, E, rfl, _⟩ := h
    rfl
  · obtain ⟨p, dx, l, r, us, D, E, rfl, hp, hl, pl, eE, nd, ok, hr1, hr12, q⟩ := h
    refine ⟨_, (pss_cons (ps_expr (pe_call d_check_room_count.ok (hr.mono (by decide)) (by rfl) d_check_room_count.at_ d_check_room_count.kp d_check_room_count.b .nil pass0 (pa_cons (pv 1) pa_nil)))
      (pss_cons (ps_fld (pv 0) (pv 1) rfl)
      (pss_cons (ps_fld (pv 0) (pe_call d_checked_doors.ok (hr.mono (by decide)) (by rfl) d_checked_doors.at_ d_checked_doors.kp d_checked_doors.b .nil pass0 (pa_cons (pv 1) (pa_cons (pe_lc (own := [("a", 3), ("b", 4)]) (g := gTup K 2 (gCons (gName 3) (gCons (gName 4) gNil))) (by rfl) scHinit.nd (pi_list (pv 2)) (blkOk_by (N := ["self", "rooms", "doors", "a", "b", "_"]) (sc := defScope sHinit) (by decide +kernel)) (fun _ _ _ _ _ => pg_tup rfl (pgs_cons (pg_name (i := 3) scHinit.nd rfl (Or.inl rfl)) (pgs_cons (pg_name (i := 4) scHinit.nd rfl (Or.inl rfl)) pgs_nil))) (fun _ _ _ _ _ => pts_nil) (fun _ _ _ _ _ => (pe_tup (pa_cons (pe_callB (call_min2 rfl) (by rfl) T.min (by decide +kernel) (pa_cons (pv 3) (pa_cons (pv 4) pa_nil))) (pa_cons (pe_callB (call_max2 rfl) (by rfl) T.max (by decide +kernel) (pa_cons (pv 3) (pa_cons (pv 4) pa_nil))) pa_nil))))) pa_nil))) rfl)
      (pss_cons (ps_fld (pv 0) (pe_lc (own := [("_", 5)]) (by rfl) scHinit.nd (pi_range1 (by rfl) T.range (pa_cons (pv 1) pa_nil)) (blkOk_by (N := ["self", "rooms", "doors", "a", "b", "_"]) (sc := defScope sHinit) (by decide +kernel)) (fun _ _ _ _ _ => pg_name (i := 5) scHinit.nd rfl (Or.inl rfl)) (fun _ _ _ _ _ => pts_nil) (fun _ _ _ _ _ => (pe_lst pa_nil))) rfl)
      (pss_one (ps_for PassesOwn.never rfl (pi_list (pe_fld (pv 0) rfl)) (pg_tup rfl (pgs_cons (pg_name (i := 3) scHinit.nd rfl (Or.inl rfl)) (pgs_cons (pg_name (i := 4) scHinit.nd rfl (Or.inl rfl)) pgs_nil)))
      (pss_cons (ps_expr (pe_bm PySem.F.plainAttrs_list PySem.F.slot_list_append PySem.F.type_list_append mt_append (pe_ix ix_list (pe_fld (pv 0) rfl) (pv 3) (fun _ _ => rfl)) (pa_cons (pv 4) pa_nil)))
        (pss_one (ps_expr (pe_bm PySem.F.plainAttrs_list PySem.F.slot_list_append PySem.F.type_list_append mt_append (pe_ix ix_list (pe_fld (pv 0) rfl) (pv 4) (fun _ _ => rfl)) (pa_cons (pv 3) pa_nil))))))))))), ?_⟩
    walk_at "rd"
    refine ⟨r, rfl, by omega, by omega, ?_⟩
    have npl : l ≠ p := ne_of hl hp (by intro z; cases z)
    refine ⟨C, dx, [], hp, U.cl, U.nR, (by show 0 < 1000; decide), ?_⟩
    have hl1 : upd H p (HO.ins C dx (putF "rooms" (V.int r) [])) l = some (.lst us) := by rw [upd_ne npl]; exact hl
    have pl1 : PL (upd H p (HO.ins C dx (putF "rooms" (V.int r) []))) us D := pl.kt (KT.ch hp (fun _ z => by cases z))
    have hp1 : upd H p (HO.ins C dx (putF "rooms" (V.int r) [])) p = some (HO.ins C dx (putF "rooms" (V.int r) [])) := upd_same
    have old1 : ∀ b o, H b = some o → b ≠ p → upd H p (HO.ins C dx (putF "rooms" (V.int r) [])) b = some o := fun b o e h => by rw [upd_ne h]; exact e
    have free1 : ∀ b, upd H p (HO.ins C dx (putF "rooms" (V.int r) [])) b = none → H b = none ∧ b ≠ p := fun b e => by
      have h : b ≠ p := fun z => by
        rw [z, upd_same] at e
        cases e
      rw [upd_ne h] at e
      exact ⟨e, h⟩
    generalize upd H p (HO.ins C dx (putF "rooms" (V.int r) [])) = H1 at hl1 pl1 hp1 old1 free1
    have dlen : D.length ≤ 66 := by
      have e := drs_len' hr12 nd ok
      rw [← eE, List.length_map] at e
      exact e
    have ul : us.length = D.length := pl.len
    -- [(min(a, b), max(a, b)) for a, b in doors]
    refine ⟨_, rfl, l, rfl, ⟨_, SqL.of hl1⟩, fun c nc => ?_⟩
    obtain ⟨Pv, hPv⟩ : ∃ Pv : Nat → Hp → Prop, Pv = (fun i H' => ∃ ws, Same H1 H' ∧ H' c = some (.lst ws) ∧ PL H' ws ((D.take i).map mm2)) := ⟨_, rfl⟩
    refine lc_list (K := K) (a := l) (xs := us) Pv (by rw [hPv]; exact ⟨[], same_upd nc, upd_same, PL.nil0 _⟩) (fun i H' _ pv => by rw [hPv] at pv; obtain ⟨_, sm, _⟩ := pv; exact SqL.of (sm _ _ hl1)) (fun i v H' gv pv => ?_) (fun H' pv => ?_)
    · have nxt : ∀ ws H', Same H1 H' → H' c = some (.lst ws) → PL H' ws ((D.take (i + 1)).map mm2) → Pv (i + 1) H' := fun ws H' h1 h2 h3 => by
        rw [hPv]
        exact ⟨ws, h1, h2, h3⟩
      rw [hPv] at pv
      obtain ⟨ws, sm, hc, pw⟩ := pv
      obtain ⟨d, gd, td, rfl, htd⟩ := pl1.get gv
      have hid : i < D.length := (List.getElem?_eq_some_iff.mp gd).1
      have htd1 := sm _ _ htd
      have lw : ws.length ≤ 66 := by
        rw [pw.len, List.length_map, List.length_take]
        omega
      simp only [wipe]
      walk_at "rd"
      refine ⟨_, SqT.of htd1, rfl, _, _, rfl, _, _, rfl, rfl, ?_⟩
      walk_at "rd"
      refine ⟨(by show 2 ≤ sizeLine; decide), fun t nt => ?_⟩
      have nct : c ≠ t := ne_of_none hc nt
      refine ⟨ws, by rw [upd_ne nct]; exact hc, len_big (by omega), nxt (ws ++ [.ref t]) _ (same_ch (sm.trans (same_upd nt)) nc) upd_same ?_⟩
      rw [List.take_add_one, gd, List.map_append]
      refine PL.snoc ((pw.kt (KT.new nt)).kt (KT.lst (by rw [upd_ne nct]; exact hc))) ⟨t, rfl, ?_⟩
      rw [upd_ne nct.symm, upd_same]
      rfl
    · rw [hPv] at pv
      obtain ⟨ws, s2, hc, pw⟩ := pv
      rw [ul, List.take_length, eE] at pw
      -- checked_doors
      refine ⟨r, c, ws, E, rfl, hc, pw, nd, ok, hr12, fun D' ls q0 H2 asc mem s3 nq hq pq => ?_⟩
      have s13 : Same H1 H2 := s2.trans s3
      have hp2 := s13 _ _ hp1
      have nqp : q0 ≠ p := ne_of hq hp2 (by intro z; cases z)
      refine ⟨C, dx, _, hp2, U.cl, U.nD, (by show 1 < 1000; decide), ?_⟩
      have hq3 : upd H2 p (HO.ins C dx (putF "_doors" (V.ref q0) (putF "rooms" (V.int r) []))) q0 = some (.lst ls) := by rw [upd_ne nqp]; exact hq
      have hp3 : upd H2 p (HO.ins C dx (putF "_doors" (V.ref q0) (putF "rooms" (V.int r) []))) p = some (HO.ins C dx (putF "_doors" (V.ref q0) (putF "rooms" (V.int r) []))) := upd_same
      have pq3 : PL (upd H2 p (HO.ins C dx (putF "_doors" (V.ref q0) (putF "rooms" (V.int r) [])))) ls D' := pq.kt (KT.ch hp2 (fun _ z => by cases z))
      have old3 : ∀ b o, H b = some o → b ≠ p → upd H2 p (HO.ins C dx (putF "_doors" (V.ref q0) (putF "rooms" (V.int r) []))) b = some o := fun b o e h => by
        rw [upd_ne h]
        exact s13 _ _ (old1 b o e h)
      have free3 : ∀ b, upd H2 p (HO.ins C dx (putF "_doors" (V.ref q0) (putF "rooms" (V.int r) []))) b = none → H b = none ∧ b ≠ p := fun b e => by
        have h : b ≠ p := fun z => by
          rw [z, upd_same] at e
          cases e
        rw [upd_ne h] at e
        exact free1 b (s13.free e)
      have fq : H q0 = none := (free1 q0 (s2.free nq)).1
      generalize upd H2 p (HO.ins C dx (putF "_doors" (V.ref q0) (putF "rooms" (V.int r) []))) = H3 at hq3 hp3 pq3 old3 free3
      -- [[] for _ in range(rooms)]
      refine ⟨_, rfl, r, rfl, by omega, by omega, fun m nm => ?_⟩
      obtain ⟨Pv, hPv⟩ : ∃ Pv : Nat → Hp → Prop, Pv = (fun i H' => ∃ ns : List Addr, Same H3 H' ∧ H' m = some (.lst (ns.map V.ref)) ∧ ns.length = i ∧ ns.Nodup ∧ (∀ n ∈ ns, H' n = some (.lst []) ∧ H3 n = none ∧ n ≠ m)) := ⟨_, rfl⟩
      refine lc_range (lo := 0) (n := ((r : Nat) : Int).toNat) Pv (by rw [hPv]; exact ⟨[], same_upd nm, upd_same, rfl, List.nodup_nil, fun n hn => by cases hn⟩) (fun i H' hi pv => ?_) (fun H' pv => ?_)
      · have nxt : ∀ (ns : List Addr) H', Same H3 H' → H' m = some (.lst (ns.map V.ref)) → ns.length = i + 1 → ns.Nodup → (∀ n ∈ ns, H' n = some (.lst []) ∧ H3 n = none ∧ n ≠ m) → Pv (i + 1) H' := fun ns H' h1 h2 h3 h4 h5 => by
          rw [hPv]
          exact ⟨ns, h1, h2, h3, h4, h5⟩
        rw [hPv] at pv
        obtain ⟨ns, sm, hm, ln, nn, hn⟩ := pv
        simp only [wipe]
        walk_at "rd"
        refine ⟨by decide, fun e ne => ?_⟩
        have nem : m ≠ e := ne_of_none hm ne
        refine ⟨ns.map V.ref, by rw [upd_ne nem]; exact hm, len_big (by rw [List.length_map]; omega), nxt (ns ++ [e]) _ (same_ch (sm.trans (same_upd ne)) nm) (by rw [upd_same, List.map_append]; rfl) (by rw [List.length_append, ln]; rfl) ?_ fun n hn2 => ?_⟩
        · refine List.nodup_append.mpr ⟨nn, by simp, fun a ha b hb => ?_⟩
          rw [List.mem_singleton.mp hb]
          exact ne_of_none (hn a ha).1 ne
        · rcases List.mem_append.mp hn2 with h | h
          · obtain ⟨h1, h2, h3⟩ := hn n h
            refine ⟨?_, h2, h3⟩
            rw [upd_ne h3, upd_ne (ne_of_none h1 ne)]
            exact h1
          · rw [List.mem_singleton.mp h]
            refine ⟨?_, sm.free ne, nem.symm⟩
            rw [upd_ne nem.symm, upd_same]
      · rw [hPv] at pv
        obtain ⟨ns, s4, hm, ln, nn, hn⟩ := pv
        have hp4 := s4 _ _ hp3
        have nmp : m ≠ p := (ne_of_none hp3 nm).symm
        refine ⟨C, dx, _, hp4, U.cl, U.nN, (by show 2 < 1000; decide), ?_⟩
        have ehf : putF "_near" (V.ref m) (putF "_doors" (V.ref q0) (putF "rooms" (V.int r) [])) = hf r q0 m := rfl
        rw [ehf]
        have npn : ∀ n ∈ ns, n ≠ p := fun n h => (ne_of_none hp3 (hn n h).2.1).symm
        have nqn : ∀ n ∈ ns, n ≠ q0 := fun n h => (ne_of_none hq3 (hn n h).2.1).symm
        have hp5 : upd H' p (HO.ins C dx (hf r q0 m)) p = some (HO.ins C dx (hf r q0 m)) := upd_same
        have hq5 : upd H' p (HO.ins C dx (hf r q0 m)) q0 = some (.lst ls) := by rw [upd_ne nqp]; exact s4 _ _ hq3
        have hm5 : upd H' p (HO.ins C dx (hf r q0 m)) m = some (.lst (ns.map V.ref)) := by rw [upd_ne nmp]; exact hm
        have hn5 : ∀ n ∈ ns, upd H' p (HO.ins C dx (hf r q0 m)) n = some (.lst []) := fun n h => by rw [upd_ne (npn n h)]; exact (hn n h).1
        have pq5 : PL (upd H' p (HO.ins C dx (hf r q0 m))) ls D' := (pq3.kt (KT.same s4)).kt (KT.ch hp4 (fun _ z => by cases z))
        have old5 : ∀ b o, H b = some o → b ≠ p → upd H' p (HO.ins C dx (hf r q0 m)) b = some o := fun b o e h => by
          rw [upd_ne h]
          exact s4 _ _ (old3 b o e h)
        have fm : H m = none := (free3 m nm).1
        have fn : ∀ n ∈ ns, H n = none := fun n h => (free3 n (hn n h).2.1).1
        have nmn : ∀ n ∈ ns, n ≠ m := fun n h => (hn n h).2.2
        generalize upd H' p (HO.ins C dx (hf r q0 m)) = H5 at hp5 hq5 hm5 hn5 pq5 old5
        have drs : Drs r D' := ⟨asc, fun d hd => ok d ((mem d).mp hd)⟩
        have dl : D'.length ≤ 66 := drs.len hr12
        have ll : ls.length = D'.length := pq.len
        -- the rooms' neighbours
        obtain ⟨Pw, hPw⟩ : ∃ Pw : Nat → L2.St → Hp → Prop, Pw = (fun i σ H' => ∃ v3 v4 : Option V, σ = [some (.ref p), some (.int r), some (.ref l), v3, v4, none] ∧ (∀ b o, H5 b = some o → b ∉ ns → H' b = some o) ∧ (∀ (j : Nat) n, ns[j]? = some n → H' n = some (.lst ((nearF (j : Nat) (D'.take i)).map V.int)))) := ⟨_, rfl⟩
        refine ⟨_, rfl, p, C, dx, _, .ref q0, rfl, hp5, U.cl, U.nD, hf_doors _ _ _, q0, rfl, ⟨_, SqL.of hq5⟩, for_list (K := K) (a := q0) (xs := ls) Pw (by rw [hPw]; exact ⟨none, none, rfl, fun b o e _ => e, fun j n g => hn5 n (List.mem_of_getElem? g)⟩) (fun i σ H' _ pv => ?_) (fun i v σ H' gv pv => ?_) (fun σ H' pv => ?_)⟩
        · rw [hPw] at pv
          obtain ⟨_, _, _, k1, _⟩ := pv
          exact SqL.of (k1 _ _ hq5 fun z => nqn _ z rfl)
        · have nxt : ∀ v3 v4 H', (∀ b o, H5 b = some o → b ∉ ns → H' b = some o) → (∀ (j : Nat) n, ns[j]? = some n → H' n = some (.lst ((nearF (j : Nat) (D'.take (i + 1))).map V.int))) → Pw (i + 1) [some (.ref p), some (.int r), some (.ref l), v3, v4, none] H' := fun v3 v4 H' h1 h2 => by
            rw [hPw]
            exact ⟨v3, v4, rfl, h1, h2⟩
          rw [hPw] at pv
          obtain ⟨v3, v4, rfl, k1, k2⟩ := pv
          obtain ⟨d, gd, td, rfl, htd⟩ := pq5.get gv
          have okd := drs.ok d (List.mem_of_getElem? gd)
          have htd1 : H' td = some (.tup [.int d.1, .int d.2]) := k1 _ _ htd fun z => by
            have e := hn5 td z
            rw [htd] at e
            cases e
          obtain ⟨ja, eja⟩ : ∃ ja : Nat, d.1 = ja := ⟨d.1.toNat, by omega⟩
          obtain ⟨jb, ejb⟩ : ∃ jb : Nat, d.2 = jb := ⟨d.2.toNat, by omega⟩
          obtain ⟨na, gna⟩ : ∃ n, ns[ja]? = some n := ⟨_, List.getElem?_eq_getElem (by omega)⟩
          obtain ⟨nb, gnb⟩ : ∃ n, ns[jb]? = some n := ⟨_, List.getElem?_eq_getElem (by omega)⟩
          have nab : na ≠ nb := fun z => by
            rw [← z] at gnb
            have := nd_ix nn gna gnb
            omega
          have mna := List.mem_of_getElem? gna
          have mnb := List.mem_of_getElem? gnb
          have hp6 := k1 _ _ hp5 fun z => npn _ z rfl
          have hm6 := k1 _ _ hm5 fun z => nmn _ z rfl
          have short : ∀ j : Int, (nearF j (D'.take i)).length ≤ 66 := fun j => by
            have := List.length_filterMap_le (fun d : Pr => if d.1 = j then some d.2 else if d.2 = j then some d.1 else none) (D'.take i)
            rw [List.length_take] at this
            show (List.filterMap _ _).length ≤ 66
            omega
          have ga := k2 ja na gna
          have gb := k2 jb nb gnb
          walk_at "rd"
          refine ⟨_, SqT.of htd1, rfl, _, _, rfl, _, _, rfl, rfl, ?_⟩
          walk_at "rd"
          have npa : p ≠ na := fun z => npn na mna z.symm
          have nma : m ≠ na := fun z => nmn na mna z.symm
          have big : ∀ j : Int, ((nearF j (D'.take i)).map V.int).length < sizeLine := fun j => len_big (by rw [List.length_map]; have := short j; omega)
          refine ⟨C, dx, _, hp6, U.cl, U.nN, .ref m, hf_near _ _ _, m, rfl, _, SqL.of hm6, .ref na, at_of (j := ja) eja (by rw [List.getElem?_map, gna]; rfl), .inl ⟨rfl, _, SqL.of ga⟩, na, rfl, _, ga, big _, ?_⟩
          refine ⟨C, dx, _, by rw [upd_ne npa]; exact hp6, U.cl, U.nN, .ref m, hf_near _ _ _, m, rfl, _, SqL.of (by rw [upd_ne nma]; exact hm6), .ref nb, at_of (j := jb) ejb (by rw [List.getElem?_map, gnb]; rfl), ?_⟩
          have gb2 : upd H' na (HO.lst ((nearF (ja : Nat) (D'.take i)).map V.int ++ [V.int d.2])) nb = some (.lst ((nearF (jb : Nat) (D'.take i)).map V.int)) := by rw [upd_ne nab.symm]; exact gb
          refine ⟨.inl ⟨rfl, _, SqL.of gb2⟩, nb, rfl, _, gb2, big _, ?_⟩
          refine nxt _ _ _ (fun b o e h => ?_) (fun j n gn => ?_)
          · rw [upd_ne (show b ≠ nb from fun z => h (by rw [z]; exact mnb)), upd_ne (show b ≠ na from fun z => h (by rw [z]; exact mna))]
            exact k1 b o e h
          · rw [List.take_add_one, gd]
            show _ = some (HO.lst ((nearF (j : Nat) (D'.take i ++ [d])).map V.int))
            rw [nearF_snoc]
            by_cases e1 : n = nb
            · subst e1
              have ej := nd_ix nn gn gnb
              subst ej
              rw [upd_same, if_neg (by omega), if_pos ejb, List.map_append, eja]
              rfl
            · rw [upd_ne e1]
              by_cases e2 : n = na
              · subst e2
                have ej := nd_ix nn gn gna
                subst ej
                rw [upd_same, if_pos eja, List.map_append]
                rfl
              · have j1 : ¬ d.1 = (j : Int) := fun z => e2 (by
                  have ej : j = ja := by omega
                  rw [ej, gna] at gn
                  exact (Option.some.inj gn).symm)
                have j2 : ¬ d.2 = (j : Int) := fun z => e1 (by
                  have ej : j = jb := by omega
                  rw [ej, gnb] at gn
                  exact (Option.some.inj gn).symm)
                rw [upd_ne e2, if_neg j1, if_neg j2, List.append_nil]
                exact k2 j n gn
        · rw [hPw] at pv
          obtain ⟨v3, v4, rfl, k1, k2⟩ := pv
          rw [ll, List.take_length] at k2
          refine q D' (p :: q0 :: m :: ns) H' mem ⟨⟨dx, q0, m, ls, ns, k1 _ _ hp5 fun z => npn _ z rfl, k1 _ _ hq5 fun z => nqn _ z rfl, ?_, k1 _ _ hm5 fun z => nmn _ z rfl, by omega, k2, rfl⟩, drs, hr1, hr12⟩ (fun b o e h => ?_) fun b hb h => ?_
          · refine Paired.mapP pq5 fun v d ⟨t, e, ht⟩ => ⟨t, e, k1 _ _ ht fun z => ?_⟩
            have e2 := hn5 t z
            rw [ht] at e2
            cases e2
          · refine k1 _ _ (old5 b o e h) fun z => ?_
            rw [fn b z] at e
            cases e
          · rcases List.mem_cons.mp hb with z | hb
            · exact absurd z h
            · rcases List.mem_cons.mp hb with z | hb
              · rw [z]; exact fq
              · rcases List.mem_cons.mp hb with z | hb
                · rw [z]; exact fm
                · exact fn b hb
end

theorem HouseAt.keep {C : Addr} {H H' : Hp} {p : Addr} {r : Nat} {D : List Pr} {own : List Addr} (h : HouseAt C H p r D own) (k : ∀ b o, b ∈ own → H b = some o → H' b = some o) (kt : KT H H') : HouseAt C H' p r D own := by
  obtain ⟨dx, l, m, ls, ns, h1, h2, h3, h4, h5, h6, rfl⟩ := h.ex
  refine ⟨⟨dx, l, m, ls, ns, k _ _ List.mem_cons_self h1, k _ _ (by simp) h2, h3.kt kt, k _ _ (by simp) h4, h5, fun i n g => k _ _ (by have := List.mem_of_getElem? g; simp [this]) (h6 i n g), rfl⟩, h.ok, h.r1, h.r12⟩
theorem HouseAt.same {C : Addr} {H H' : Hp} {p : Addr} {r : Nat} {D : List Pr} {own : List Addr} (h : HouseAt C H p r D own) (s : Same H H') : HouseAt C H' p r D own := h.keep (fun b o _ e => s b o e) (KT.same s)
theorem HouseAt.stands {C : Addr} {H : Hp} {p : Addr} {r : Nat} {D : List Pr} {own : List Addr} (h : HouseAt C H p r D own) : ∀ b ∈ own, ∃ o, H b = some o := by
  obtain ⟨dx, l, m, ls, ns, h1, h2, h3, h4, h5, h6, rfl⟩ := h.ex
  intro b hb
  rcases List.mem_cons.mp hb with z | hb
  · exact ⟨_, by rw [z]; exact h1⟩
  · rcases List.mem_cons.mp hb with z | hb
    · exact ⟨_, by rw [z]; exact h2⟩
    · rcases List.mem_cons.mp hb with z | hb
      · exact ⟨_, by rw [z]; exact h4⟩
      · obtain ⟨i, g⟩ := List.getElem?_of_mem hb
        exact ⟨_, h6 i b g⟩
section
variable {P : Program} {w : World} {K : PySem.W.Frag} {mg : Str → Option Value} {base : Heap}
theorem scHdoors : FnScope ["self"] ["self"] (defScope sHdoors) := ⟨rfl, rfl, rfl, by decide +kernel, rfl, by decide +kernel, by decide +kernel⟩
def spHdoors (C : Addr) : Sp := fun vs H Q _ => ∃ (p : Addr) (r : Nat) (D : List Pr) (own : List Addr), vs = [.ref p] ∧ HouseAt C H p r D own ∧ ∀ ls q, PL H ls D → H q = none → Q (.ref q) (upd H q (.lst ls))
theorem ok_hdoors {f C : Addr} {fd : FuncData} (F : Fun K "doors" "House.doors" sHdoors f fd) (T : Bi mg) (U : Hs K mg C) : FnOk P w K mg base CX0 1 f fd ["self"] (spHdoors C) := by
  refine F.ok scHdoors (fun vs H Q E h => ?_) (fun cdv A outer s H vs Q E hr h => ?_)
  · obtain ⟨p, r, D, own, rfl, _⟩ := h
    rfl
  · obtain ⟨p, r, D, own, rfl, hh, q⟩ := h
    obtain ⟨dx, l, m, ls, ns, h1, h2, h3, h4, h5, h6, rfl⟩ := hh.ex
    refine ⟨_, (pss_one (ps_ret (pe_callTy call_list_of (by rfl) T.list (by decide +kernel) (pa_cons (pe_fld (pv 0) rfl) pa_nil)))), ?_⟩
    walk_at "rd"
    exact ⟨C, dx, _, h1, U.cl, U.nD, .ref l, hf_doors _ _ _, l, rfl, _, .inl (SqL.of h2), fun t nt => q ls t h3 nt⟩
theorem scHnear : FnScope ["self", "room"] ["self", "room"] (defScope sHnear) := ⟨rfl, rfl, rfl, by decide +kernel, rfl, by decide +kernel, by decide +kernel⟩
def spHnear (C : Addr) : Sp := fun vs H Q _ => ∃ (p : Addr) (r : Nat) (D : List Pr) (own : List Addr) (i : Nat), vs = [.ref p, .int i] ∧ HouseAt C H p r D own ∧ i < r ∧ ∀ q, H q = none → Q (.ref q) (upd H q (.lst ((nearF (i : Nat) D).map V.int)))
theorem ok_hnear {f C : Addr} {fd : FuncData} (F : Fun K "neighbours" "House.neighbours" sHnear f fd) (T : Bi mg) (U : Hs K mg C) : FnOk P w K mg base CX0 1 f fd ["self", "room"] (spHnear C) := by
  refine F.ok scHnear (fun vs H Q E h => ?_) (fun cdv A outer s H vs Q E hr h => ?_)
  · obtain ⟨p, r, D, own, i, rfl, _⟩ := h
    rfl
  · obtain ⟨p, r, D, own, i, rfl, hh, hi, q⟩ := h
    obtain ⟨dx, l, m, ls, ns, h1, h2, h3, h4, h5, h6, rfl⟩ := hh.ex
    obtain ⟨n, gn⟩ : ∃ n, ns[i]? = some n := ⟨_, List.getElem?_eq_getElem (by omega)⟩
    refine ⟨_, (pss_one (ps_ret (pe_callTy call_list_of (by rfl) T.list (by decide +kernel) (pa_cons (pe_ix ix_list (pe_fld (pv 0) rfl) (pv 1) (fun _ _ => rfl)) pa_nil)))), ?_⟩
    walk_at "rd"
    refine ⟨C, dx, _, h1, U.cl, U.nN, .ref m, hf_near _ _ _, m, rfl, _, SqL.of h4, .ref n, atI_nat (by rw [List.getElem?_map, gn]; rfl), n, rfl, _, .inl (SqL.of (h6 i n gn)), fun t nt => q t nt⟩
end

/-! ### a bound method as a value, and its call -/
def tBnd (C : Addr) (m : Str) (g : Addr) (ta : TE) : TE := fun σ H Q => ta σ H fun x H1 => ∃ a dx fs, x = .ref a ∧ H1 a = some (.ins C dx fs) ∧ fs.lookup m = none ∧ ∀ q, H1 q = none → Q (.ref q) (upd H1 q (.met g a))
theorem pe_bnd {X : Cx} {C g : Addr} {m : Str} {e : Expr} {ta : TE} {pos : Pos} (he : PE X e ta) (c : Cls X.K C) (k : BMeth X.K C m g) (hb : attributeBase e m X.env (eval e X.env) = eval e X.env := by rfl) : PE X (.Attribute e m pos) (tBnd C m g ta) := by
  refine ⟨fun pins s σ H Q I h => ?_⟩
  refine attr_of hb (thn (he.run pins s σ H _ I h) fun u s1 ⟨x, H1, I1, rx, a, dx, fs, ex, ea, l, q⟩ => ?_)
  subst ex
  obtain rfl : u = Value.ref a := rx
  exact getbound_ok I1 ea c k l fun p s2 hp I2 => ⟨.ref p, _, I2, rfl, q p hp⟩
/-- f(e, ..), the i-th slot a bound method of the def at g -/
def tCallM (i : Nat) (g : Addr) (sp : Sp) (E : XK) (t : TA) : TE := fun σ H Q => ∃ q a, σ[i]? = some (some (.ref q)) ∧ t σ H fun vs H1 => H1 q = some (.met g a) ∧ sp (.ref a :: vs) H1 Q E
theorem pe_callM {X : Cx} {CX : CXT} {k i : Nat} {g : Addr} {sp : Sp} {E : XK} {x : Str} {p pos : Pos} {e : Expr} {es : List Expr} {t : TA} (F : FnR X.prog X.w X.K X.mg X.base CX k g sp) (hr : Room k X.A) (hN : X.N[i]? = some x) (hv : L2.Vis X.env.scope x) (hf : PySem.W.fnIn X.K g = true) (hx : Passes CX X E) (ha : PA X (e :: es) t)
    (hdb : (x == ("__debug__" : Str)) = false := by decide) (hcd : (x == ("__classdict__" : Str)) = false := by decide)
    (he : starEach (e :: es) X.env = (false, eval e X.env) :: starEach es X.env := by rfl) (hpl : (backTo pos (starEach es X.env)).any (·.1) = false := by rfl) : PE X (.Call (.Name x p) (e :: es) [] pos) (tCallM i g sp E t) := by
  refine ⟨fun pins s σ H Q I h => ?_⟩
  obtain ⟨q, a, hs, ht⟩ := h
  refine wpAny_Call_Name_kw (thn ((pe_var (pos := p) hN hv hdb hcd).run pins s σ H (fun v H1 => v = .ref q ∧ H1 = H) I ⟨.ref q, hs, rfl, rfl⟩) fun u s1 ⟨v, H1, I1, r1, q1⟩ => ?_)
  obtain ⟨rfl, rfl⟩ := q1
  cases r1
  have h2 : wpAny (model X.prog X.w) X.A (spliced (backTo pos (starEach (e :: es) X.env))) (fun us s2 => PySem.W.MethP X.K q g (.ref a) s2.heap ∧ wpAny (model X.prog X.w) X.A (call (.ref q) ([] ++ us)) (EP X pins σ Q) X.xe s2) X.xe s1 :=
    thn (ha.run pos pins s1 σ _ _ I1 ht) fun us s2 ⟨vs, H2, I2, r, hm, hsp⟩ => ⟨met_P I2 hm, wpAny_call (call_met I2 hm (run_fnR (us := Value.ref a :: us) (vs := V.ref a :: vs) F hr hx I2 (.cons rfl r) hsp))⟩
  rw [he] at h2 ⊢
  exact PySem.W.callWith_of (P := PySem.W.MethP X.K q g (.ref a)) (by show ((false || (backTo pos (starEach es X.env)).any (·.1)) || false) = false; rw [hpl]; rfl) (PySem.W.keeps_M hf) (PySem.Calls.evalArgs_plain h2)

/-! ### sorted of a tuple of ints -/
def rSortTup (K : PySem.W.Frag) : List V → Hp → VK → Prop := fun vs H Q => ∃ (a : Addr) (ns : List Int), vs = [V.ref a] ∧ (SqL K H a (ns.map V.int) ∨ SqT K H a (ns.map V.int)) ∧ ns.length < 64 ∧
  ∀ (ns' : List Int) (p : Addr), ns'.Perm ns → ns'.Pairwise (· ≤ ·) → H p = none → Q (.ref p) (upd H p (.lst (ns'.map V.int)))
theorem cr_sortTup {X : Cx} : CallR X (.builtin "sorted") (rSortTup X.K) := by
  intro pins s σ H vs us Q I r h
  obtain ⟨a, ns, rfl, hs, h64, q⟩ := h
  rcases hs with hs | hs
  · exact cr_sorted pins s σ H _ us Q I r ⟨a, ns, rfl, hs, h64, q⟩
  obtain ⟨its, rv, ⟨o, ho, hc, n, hd⟩, hz⟩ := I.tuple hs
  rw [Vals.ref1 r]
  have hi := rv.ints
  have il : its.length = ns.length := hi.length
  refine Calls.call_function_entry kind_sorted plain_sorted entry_sorted (args_sorted1 _) ?_
  unfold Builtin.«sorted»
  refine wpAny_bind (m := checkCount "sorted" 1 1 _) (wpAny_pure ?_)
  refine wpAny_bind (wpAny_collect_seq a (.inr rfl) ho hc hd (fun h' hk => ?_) (by rw [List.size_toArray, il]; exact small64 h64))
  rw [show its.toArray.toList = its by simp]
  have I1 : Inv X pins σ H { s with heap := h' } := I.kept (t' := s.toks) hk
  refine wpAny_bind (wpAny_newList ?_ (by rw [il]; exact small64 h64))
  have new : (h'.push (seqObj "list" its.toArray 0)).get? h'.objs.size = some (seqObj "list" its.toArray 0) := Heap.get?_push_size _ rfl
  refine wpAny_bind (wpAny_holding (wpAny_call_entry slot_list_sort ⟨_, new, rfl⟩ entry_list_sort (list_sort_tree (s := { s with heap := h'.push (seqObj "list" its.toArray 0) }) new hi (by rw [il]; exact h64) fun out ns' a1 a2 a3 => ⟨_, rfl, ?_⟩) (args_list_sort _)))
  obtain ⟨ep, he⟩ := sortedHeap_at (vs := its) (out := out) new
  have hlen : (ns'.map V.int).length ≤ sizeLine := by rw [List.length_map, a2.length_eq]; exact small64 h64
  refine wpAny_pure ⟨_, rfl, .ref h'.objs.size, upd H h'.objs.size (.lst (ns'.map V.int)), I1.laid (t' := s.toks) (fun b u e => ?_) (Nat.le_refl _) ⟨hlen, out.toList, ep, vals_of_ints a1, he⟩, rfl, q ns' _ a2 a3 (I1.hok.fresh (Nat.le_refl _))⟩
  have lt := Heap.lt_size e
  show (sortedHeap (h'.push (seqObj "list" its.toArray 0)) h'.objs.size its out).get? b = some u
  rw [sortedHeap_old (Nat.ne_of_lt lt) (by rw [size_push']; exact Nat.lt_succ_of_lt lt)]
  exact Heap.get?_push_of_some _ e

/-! ### pieces of a house -/
def Adj (D : List Pr) (a b : Int) : Prop := (a, b) ∈ D ∨ (b, a) ∈ D
theorem mem_nearF {D : List Pr} {a b : Int} (ok : ∀ d ∈ D, d.1 < d.2) : b ∈ nearF a D ↔ Adj D a b := by
  unfold nearF Adj
  rw [List.mem_filterMap]
  constructor
  · rintro ⟨d, hd, e⟩
    by_cases h1 : d.1 = a
    · rw [if_pos h1] at e
      have e := Option.some.inj e
      subst h1
      subst e
      exact .inl hd
    · rw [if_neg h1] at e
      by_cases h2 : d.2 = a
      · rw [if_pos h2] at e
        have e := Option.some.inj e
        subst h2
        subst e
        exact .inr hd
      · rw [if_neg h2] at e
        cases e
  · rintro (h | h)
    · exact ⟨_, h, if_pos rfl⟩
    · have := ok _ h
      refine ⟨_, h, ?_⟩
      rw [if_neg (by simp only at this ⊢; omega), if_pos rfl]
inductive Rch (D : List Pr) (R : List Int) (s : Int) : Int → Prop
  | base : s ∈ R → Rch D R s s
  | step {a b : Int} : Rch D R s a → Adj D a b → b ∈ R → Rch D R s b
theorem Rch.mem {D : List Pr} {R : List Int} {s x : Int} (h : Rch D R s x) : x ∈ R := by
  cases h with
  | base h => exact h
  | step _ _ h => exact h
theorem Rch.start {D : List Pr} {R : List Int} {s x : Int} (h : Rch D R s x) : s ∈ R := by
  induction h with
  | base h => exact h
  | step _ _ _ ih => exact ih
theorem Rch.trans {D : List Pr} {R : List Int} {s x y : Int} (h : Rch D R s x) (k : Rch D R x y) : Rch D R s y := by
  induction k with
  | base _ => exact h
  | step _ a b ih => exact ih.step a b
theorem Rch.symm {D : List Pr} {R : List Int} {s x : Int} (h : Rch D R s x) : Rch D R x s := by
  induction h with
  | base h => exact .base h
  | step k a b ih => exact Rch.trans (.step (.base b) a.symm k.mem) ih
theorem Rch.mono {D : List Pr} {R R' : List Int} {s x : Int} (h : Rch D R s x) (m : ∀ x, x ∈ R → x ∈ R') : Rch D R' s x := by
  induction h with
  | base h => exact .base (m _ h)
  | step _ a b ih => exact ih.step a (m _ b)
theorem pw_uniq {α : Type} {r : α → α → Prop} (asy : ∀ a b, r a b → r b a → False) : ∀ {D E : List α}, D.Pairwise r → E.Pairwise r → (∀ p, p ∈ D ↔ p ∈ E) → D = E
  | [], [], _, _, _ => rfl
  | [], q :: E, _, _, h => by
    have := (h q).mpr List.mem_cons_self
    cases this
  | p :: D, [], _, _, h => by
    have := (h p).mp List.mem_cons_self
    cases this
  | p :: D, q :: E, hD, hE, h => by
    obtain ⟨a1, a2⟩ := List.pairwise_cons.mp hD
    obtain ⟨b1, b2⟩ := List.pairwise_cons.mp hE
    have e : p = q := by
      rcases List.mem_cons.mp ((h p).mp List.mem_cons_self) with e | hp
      · exact e
      · rcases List.mem_cons.mp ((h q).mpr List.mem_cons_self) with e | hq
        · exact e.symm
        · exact (asy _ _ (b1 p hp) (a1 q hq)).elim
    subst e
    rw [pw_uniq asy a2 b2 fun z => ?_]
    constructor
    · intro hz
      rcases List.mem_cons.mp ((h z).mp (List.mem_cons_of_mem _ hz)) with e | m
      · subst e
        exact (asy _ _ (a1 z hz) (a1 z hz)).elim
      · exact m
    · intro hz
      rcases List.mem_cons.mp ((h z).mpr (List.mem_cons_of_mem _ hz)) with e | m
      · subst e
        exact (asy _ _ (b1 z hz) (b1 z hz)).elim
      · exact m
def Up (ys : List Int) : Prop := ys.Pairwise (· < ·)
theorem up_uniq {ys zs : List Int} (h1 : Up ys) (h2 : Up zs) (h : ∀ x, x ∈ ys ↔ x ∈ zs) : ys = zs := pw_uniq (fun a b h1 h2 => by omega) h1 h2 h
def hdI : List Int → Int
  | [] => 0
  | x :: _ => x
theorem hdI_mem {ys : List Int} {x : Int} (h : x ∈ ys) : hdI ys ∈ ys := by
  cases ys with
  | nil => cases h
  | cons y ys => exact List.mem_cons_self
theorem hdI_le {ys : List Int} {x : Int} (u : Up ys) (h : x ∈ ys) : hdI ys ≤ x := by
  cases ys with
  | nil => cases h
  | cons y ys =>
    rcases List.mem_cons.mp h with e | m
    · rw [e]; exact Int.le_refl _
    · exact Int.le_of_lt ((List.pairwise_cons.mp u).1 x m)
/-- the piece of s among the rooms R -/
def Pc (D : List Pr) (R : List Int) (s : Int) (ys : List Int) : Prop := Up ys ∧ ∀ x, x ∈ ys ↔ Rch D R s x
/-- all pieces of the rooms R, by their least rooms -/
structure Pcs (D : List Pr) (R : List Int) (P : List (List Int)) : Prop where
  pc : ∀ ys ∈ P, ∃ s ∈ R, Pc D R s ys
  cov : ∀ s ∈ R, ∃ ys ∈ P, s ∈ ys
  asc : P.Pairwise fun a b => hdI a < hdI b
theorem Pc.of {D : List Pr} {R : List Int} {s t : Int} {ys : List Int} (h : Pc D R s ys) (m : t ∈ ys) : Pc D R t ys :=
  ⟨h.1, fun x => ⟨fun hx => (((h.2 t).mp m).symm).trans ((h.2 x).mp hx), fun hx => (h.2 x).mpr (((h.2 t).mp m).trans hx)⟩⟩
theorem Pc.congr {D : List Pr} {R R' : List Int} {s : Int} {ys : List Int} (h : Pc D R s ys) (e : ∀ x, x ∈ R ↔ x ∈ R') : Pc D R' s ys :=
  ⟨h.1, fun x => (h.2 x).trans ⟨fun z => z.mono fun x => (e x).mp, fun z => z.mono fun x => (e x).mpr⟩⟩
theorem Pc.uniq {D : List Pr} {R : List Int} {s : Int} {ys zs : List Int} (h : Pc D R s ys) (k : Pc D R s zs) : ys = zs := up_uniq h.1 k.1 fun x => (h.2 x).trans (k.2 x).symm
theorem Pc.self {D : List Pr} {R : List Int} {s : Int} {ys : List Int} (h : Pc D R s ys) (m : s ∈ R) : s ∈ ys := (h.2 s).mpr (.base m)
theorem Pcs.sub {D : List Pr} {R R' : List Int} {P P' : List (List Int)} (h : Pcs D R P) (k : Pcs D R' P') (e : ∀ x, x ∈ R ↔ x ∈ R') {ys : List Int} (m : ys ∈ P) : ys ∈ P' := by
  obtain ⟨s, hs, hc⟩ := h.pc ys m
  obtain ⟨zs, hz, sz⟩ := k.cov s ((e s).mp hs)
  obtain ⟨t, ht, hk⟩ := k.pc zs hz
  rw [(hc.congr e).uniq (hk.of sz)]
  exact hz
theorem Pcs.uniq {D : List Pr} {R R' : List Int} {P P' : List (List Int)} (h : Pcs D R P) (k : Pcs D R' P') (e : ∀ x, x ∈ R ↔ x ∈ R') : P = P' :=
  pw_uniq (fun a b h1 h2 => by omega) h.asc k.asc fun ys => ⟨fun m => h.sub k e m, fun m => k.sub h (fun x => (e x).symm) m⟩
theorem Pcs.nil (D : List Pr) : Pcs D [] [] := ⟨fun ys m => (by cases m), fun s m => (by cases m), List.Pairwise.nil⟩
/-- a piece is one piece -/
theorem Pc.one {D : List Pr} {R R' : List Int} {s : Int} {ys : List Int} (h : Pc D R s ys) (m : s ∈ R) (e : ∀ x, x ∈ R' ↔ x ∈ ys) : Pcs D R' [ys] := by
  have key : ∀ x, Rch D R s x → Rch D R' s x := fun x k => by
    induction k with
    | base k => exact .base ((e s).mpr (h.self m))
    | step k a b ih => exact ih.step a ((e _).mpr ((h.2 _).mpr (k.step a b)))
  refine ⟨fun zs hz => ?_, fun t ht => ⟨ys, List.mem_cons_self, (e t).mp ht⟩, List.pairwise_singleton _ _⟩
  rw [List.mem_singleton.mp hz]
  exact ⟨s, (e s).mpr (h.self m), h.1, fun x => ⟨fun hx => key x ((h.2 x).mp hx), fun hx => (e x).mp hx.mem⟩⟩
/-- two pieces are not one -/
theorem Pc.two {D : List Pr} {R R' : List Int} {s t : Int} {ys zs : List Int} {P : List (List Int)} (h : Pc D R s ys) (k : Pc D R t zs) (hs : s ∈ R) (ht : t ∈ R) (ne : ys ≠ zs) (e : ∀ x, x ∈ R' ↔ x ∈ ys ∨ x ∈ zs) (p : Pcs D R' P) : P.length ≠ 1 := by
  intro z
  obtain ⟨c, rfl⟩ : ∃ c, P = [c] := by
    cases P with
    | nil => cases z
    | cons c P =>
      cases P with
      | nil => exact ⟨c, rfl⟩
      | cons d P => exact absurd z (by rw [List.length_cons, List.length_cons]; omega)
  obtain ⟨c1, m1, s1⟩ := p.cov s ((e s).mpr (.inl (h.self hs)))
  obtain ⟨c2, m2, t2⟩ := p.cov t ((e t).mpr (.inr (k.self ht)))
  rw [List.mem_singleton.mp m1] at s1
  rw [List.mem_singleton.mp m2] at t2
  obtain ⟨u, hu, hc⟩ := p.pc c List.mem_cons_self
  have st : Rch D R' s t := (((hc.2 s).mp s1).symm).trans ((hc.2 t).mp t2)
  have st2 : Rch D R s t := st.mono fun x hx => by
    rcases (e x).mp hx with m | m
    · exact ((h.2 x).mp m).mem
    · exact ((k.2 x).mp m).mem
  exact ne ((h.of ((h.2 t).mpr st2)).uniq k)
/-! the program's way -/
structure PInv (D : List Pr) (R : List Int) (P : List (List Int)) (Lf : List Int) : Prop where
  pc : ∀ ys ∈ P, ∃ s ∈ R, Pc D R s ys
  lf : ∀ x, x ∈ Lf ↔ x ∈ R ∧ ∀ ys ∈ P, x ∉ ys
  asc : P.Pairwise fun a b => hdI a < hdI b
  lo : ∀ ys ∈ P, ∀ x ∈ Lf, hdI ys < x
  up : Lf.Pairwise (· ≤ ·)
theorem PInv.start {D : List Pr} {R Lf : List Int} (m : ∀ x, x ∈ Lf ↔ x ∈ R) (u : Lf.Pairwise (· ≤ ·)) : PInv D R [] Lf :=
  ⟨fun ys h => (by cases h), fun x => ⟨fun h => ⟨(m x).mp h, fun ys z => (by cases z)⟩, fun h => (m x).mpr h.1⟩, List.Pairwise.nil, fun ys h => (by cases h), u⟩
theorem PInv.done {D : List Pr} {R : List Int} {P : List (List Int)} (h : PInv D R P []) : Pcs D R P :=
  ⟨h.pc, fun s hs => Classical.byContradiction fun z => List.not_mem_nil ((h.lf s).mpr ⟨hs, fun ys hy m => z ⟨ys, hy, m⟩⟩), h.asc⟩
theorem PInv.rch {D : List Pr} {R : List Int} {P : List (List Int)} {Lf : List Int} (h : PInv D R P Lf) {s x : Int} : Rch D Lf s x ↔ s ∈ Lf ∧ Rch D R s x := by
  constructor
  · exact fun k => ⟨k.start, k.mono fun x hx => ((h.lf x).mp hx).1⟩
  · rintro ⟨m, k⟩
    induction k with
    | base _ => exact .base m
    | step k a b ih =>
      rename_i a' b'
      refine ih.step a ((h.lf _).mpr ⟨b, fun ys hy z => ?_⟩)
      obtain ⟨t, ht, hc⟩ := h.pc ys hy
      exact ((h.lf _).mp ih.mem).2 ys hy ((hc.2 _).mpr (((hc.2 _).mp z).step a.symm k.mem))
theorem PInv.step {D : List Pr} {R : List Int} {P : List (List Int)} {l0 : Int} {Lf ys : List Int} (h : PInv D R P (l0 :: Lf)) (k : Pc D (l0 :: Lf) l0 ys) : PInv D R (P ++ [ys]) ((l0 :: Lf).filter fun x => decide (x ∉ ys)) := by
  have m0 : l0 ∈ l0 :: Lf := List.mem_cons_self
  have r0 := ((h.lf l0).mp m0).1
  have kR : Pc D R l0 ys := ⟨k.1, fun x => (k.2 x).trans (h.rch.trans ⟨fun z => z.2, fun z => ⟨m0, z⟩⟩)⟩
  have hd : hdI ys = l0 := by
    have a1 := hdI_le k.1 (k.self m0)
    have a2 := ((k.2 _).mp (hdI_mem (k.self m0))).mem
    rcases List.mem_cons.mp a2 with e | e
    · exact e
    · have := (List.pairwise_cons.mp h.up).1 _ e
      omega
  refine ⟨fun zs hz => ?_, fun x => ?_, ?_, fun zs hz x hx => ?_, h.up.filter _⟩
  · rcases List.mem_append.mp hz with m | m
    · exact h.pc zs m
    · rw [List.mem_singleton.mp m]
      exact ⟨l0, r0, kR⟩
  · rw [List.mem_filter, h.lf x]
    constructor
    · rintro ⟨⟨h1, h2⟩, h3⟩
      refine ⟨h1, fun zs hz => ?_⟩
      rcases List.mem_append.mp hz with m | m
      · exact h2 zs m
      · rw [List.mem_singleton.mp m]
        exact of_decide_eq_true h3
    · rintro ⟨h1, h2⟩
      exact ⟨⟨h1, fun zs hz => h2 zs (List.mem_append_left _ hz)⟩, decide_eq_true (h2 ys (List.mem_append_right _ List.mem_cons_self))⟩
  · refine List.pairwise_append.mpr ⟨h.asc, List.pairwise_singleton _ _, fun a ha b hb => ?_⟩
    rw [List.mem_singleton.mp hb, hd]
    exact h.lo a ha l0 m0
  · obtain ⟨hx1, hx2⟩ := List.mem_filter.mp hx
    rcases List.mem_append.mp hz with m | m
    · exact h.lo zs m x hx1
    · rw [List.mem_singleton.mp m, hd]
      rcases List.mem_cons.mp hx1 with e | e
      · exact absurd (k.self m0) (by rw [← e]; exact of_decide_eq_true hx2)
      · have := (List.pairwise_cons.mp h.up).1 _ e
        have ne : x ≠ l0 := fun z => of_decide_eq_true hx2 (by rw [z]; exact k.self m0)
        omega
/-! the law's way -/
structure LInv (D : List Pr) (R S : List Int) (j : Nat) (P : List (List Int)) (dn : List Int) : Prop where
  pc : ∀ ys ∈ P, ∃ s ∈ R, Pc D R s ys
  dnm : ∀ x, x ∈ dn ↔ ∃ ys ∈ P, x ∈ ys
  asc : P.Pairwise fun a b => hdI a < hdI b
  seen : ∀ x ∈ S.take j, x ∈ dn
  hds : ∀ ys ∈ P, hdI ys ∈ S.take j
theorem LInv.start (D : List Pr) (R S : List Int) : LInv D R S 0 [] [] :=
  ⟨fun ys h => (by cases h), fun x => ⟨fun h => (by cases h), fun ⟨ys, h, _⟩ => (by cases h)⟩, List.Pairwise.nil, fun x h => (by rw [List.take_zero] at h; cases h), fun ys h => (by cases h)⟩
theorem LInv.skip {D : List Pr} {R S : List Int} {j : Nat} {P : List (List Int)} {dn : List Int} {x : Int} (h : LInv D R S j P dn) (g : S[j]? = some x) (m : x ∈ dn) : LInv D R S (j + 1) P dn := by
  refine ⟨h.pc, h.dnm, h.asc, fun y hy => ?_, fun ys hy => ?_⟩
  · rw [List.take_add_one, g] at hy
    rcases List.mem_append.mp hy with z | z
    · exact h.seen y z
    · rw [show y = x from List.mem_singleton.mp z]
      exact m
  · rw [List.take_add_one]
    exact List.mem_append_left _ (h.hds ys hy)
theorem LInv.step {D : List Pr} {R S : List Int} {j : Nat} {P : List (List Int)} {dn ys : List Int} {x : Int} (h : LInv D R S j P dn) (g : S[j]? = some x) (sm : ∀ x, x ∈ S ↔ x ∈ R) (su : S.Pairwise (· ≤ ·)) (m : x ∉ dn) (k : Pc D R x ys) : LInv D R S (j + 1) (P ++ [ys]) (dn ++ ys) := by
  have xR : x ∈ R := (sm x).mp (List.mem_of_getElem? g)
  have hj : j < S.length := (List.getElem?_eq_some_iff.mp g).1
  have split : S = S.take j ++ x :: S.drop (j + 1) := by
    have e := (List.take_append_drop j S).symm
    rw [List.drop_eq_getElem_cons hj] at e
    rw [List.getElem?_eq_getElem hj] at g
    rw [Option.some.inj g] at e
    exact e
  have su2 := su
  rw [split] at su2
  obtain ⟨_, sb, sc⟩ := List.pairwise_append.mp su2
  have hd : hdI ys = x := by
    have a1 := hdI_le k.1 (k.self xR)
    have a2 := (k.2 _).mp (hdI_mem (k.self xR))
    have a3 := (sm _).mpr a2.mem
    rw [split] at a3
    rcases List.mem_append.mp a3 with e | e
    · obtain ⟨zs, hz, mz⟩ := (h.dnm _).mp (h.seen _ e)
      obtain ⟨t, ht, hc⟩ := h.pc zs hz
      exact absurd ((h.dnm x).mpr ⟨zs, hz, (hc.2 x).mpr (((hc.2 _).mp mz).trans a2.symm)⟩) m
    · rcases List.mem_cons.mp e with e | e
      · exact e
      · have := (List.pairwise_cons.mp sb).1 _ e
        omega
  refine ⟨fun zs hz => ?_, fun y => ?_, ?_, fun y hy => ?_, fun zs hz => ?_⟩
  · rcases List.mem_append.mp hz with q | q
    · exact h.pc zs q
    · rw [List.mem_singleton.mp q]
      exact ⟨x, xR, k⟩
  · rw [List.mem_append, h.dnm y]
    constructor
    · rintro (⟨zs, hz, mz⟩ | z)
      · exact ⟨zs, List.mem_append_left _ hz, mz⟩
      · exact ⟨ys, List.mem_append_right _ List.mem_cons_self, z⟩
    · rintro ⟨zs, hz, mz⟩
      rcases List.mem_append.mp hz with q | q
      · exact .inl ⟨zs, q, mz⟩
      · rw [List.mem_singleton.mp q] at mz
        exact .inr mz
  · refine List.pairwise_append.mpr ⟨h.asc, List.pairwise_singleton _ _, fun a ha b hb => ?_⟩
    rw [List.mem_singleton.mp hb, hd]
    have m1 := h.hds a ha
    have le := sc _ m1 x List.mem_cons_self
    have ne : hdI a ≠ x := fun z => m (by rw [← z]; exact h.seen _ m1)
    omega
  · rw [List.take_add_one, g] at hy
    rcases List.mem_append.mp hy with z | z
    · exact List.mem_append_left _ (h.seen y z)
    · rw [show y = x from List.mem_singleton.mp z]
      exact List.mem_append_right _ (k.self xR)
  · rw [List.take_add_one, g]
    rcases List.mem_append.mp hz with q | q
    · exact List.mem_append_left _ (h.hds zs q)
    · rw [List.mem_singleton.mp q, hd]
      exact List.mem_append_right _ (by simp)
theorem LInv.fin {D : List Pr} {R S : List Int} {P : List (List Int)} {dn : List Int} (h : LInv D R S S.length P dn) (sm : ∀ x, x ∈ S ↔ x ∈ R) : Pcs D R P :=
  ⟨h.pc, fun s hs => (h.dnm s).mp (h.seen s (by rw [List.take_length]; exact (sm s).mpr hs)), h.asc⟩
/-! reaching by rounds -/
structure FInv (D : List Pr) (R : List Int) (s : Int) (F : List Int) : Prop where
  nd : F.Nodup
  rc : ∀ x ∈ F, Rch D R s x
  st : s ∈ R → s ∈ F
def Clo (D : List Pr) (R F : List Int) : Prop := ∀ a ∈ F, ∀ b ∈ R, Adj D a b → b ∈ F
theorem FInv.all {D : List Pr} {R F : List Int} {s : Int} (h : FInv D R s F) (c : Clo D R F) (x : Int) : x ∈ F ↔ Rch D R s x := by
  refine ⟨h.rc x, fun k => ?_⟩
  induction k with
  | base m => exact h.st m
  | step _ a b ih => exact c _ ih _ b a
theorem FInv.add {D : List Pr} {R F : List Int} {s a b : Int} (h : FInv D R s F) (ha : a ∈ F) (hb : b ∈ R) (ab : Adj D a b) (n : b ∉ F) : FInv D R s (F ++ [b]) := by
  refine ⟨?_, fun x hx => ?_, fun m => List.mem_append_left _ (h.st m)⟩
  · refine List.nodup_append.mpr ⟨h.nd, by simp, fun x hx y hy z => ?_⟩
    rw [List.mem_singleton.mp hy] at z
    exact n (by rw [← z]; exact hx)
  · rcases List.mem_append.mp hx with z | z
    · exact h.rc x z
    · rw [List.mem_singleton.mp z]
      exact (h.rc a ha).step ab hb

abbrev sFp : Stmt := topS 11
abbrev sRea : Stmt := topS 10
abbrev sPcs : Stmt := topS 9
theorem u1 {u : Nat} (h : u + 64 < cLine) : u + 1 < cLine := by omega
theorem ints_len {r : Nat} {l : List Int} (nd : l.Nodup) (h : ∀ x ∈ l, 0 ≤ x ∧ x < r) : l.length ≤ r := by
  have h1 : (l.map Int.toNat).Nodup := by
    refine List.pairwise_map.mpr (List.Pairwise.imp_of_mem (fun {x y} hx hy ne e => ?_) nd)
    have b1 := h x hx
    have b2 := h y hy
    omega
  have h2 := nat_nodup_len _ (List.range r) h1 fun c hc => by
    obtain ⟨x, hx, rfl⟩ := List.mem_map.mp hc
    have := h x hx
    exact List.mem_range.mpr (by omega)
  rw [List.length_map, List.length_range] at h2
  exact h2
theorem inI (j : Int) (l : List Int) : inV (.int j) (l.map V.int) = decide (j ∈ l) := by
  induction l with
  | nil => rfl
  | cons x l ih =>
    have e : inV (.int j) ((x :: l).map V.int) = (eqV (.int x) (.int j) || inV (.int j) (l.map V.int)) := rfl
    rw [e, ih]
    have e2 : eqV (.int x) (.int j) = decide (x = j) := by
      unfold eqV
      by_cases h : x = j
      · subst h
        simp
      · simp [h]
    rw [e2]
    by_cases h : j = x
    · subst h
      simp
    · have h' : ¬ x = j := fun z => h z.symm
      simp [h, h']
theorem flI (l : List Int) : (l.map V.int).all flatV = true := by
  rw [List.all_eq_true]
  intro v hv
  obtain ⟨x, _, rfl⟩ := List.mem_map.mp hv
  rfl
theorem same_sqT {K : PySem.W.Frag} {H H' : Hp} {a : Addr} {xs : List V} (e : Same H H') (h : SqT K H a xs) : SqT K H' a xs := by
  rcases h with (h | ⟨o, h⟩) | h
  · exact .inl (.inl (e _ _ h))
  · exact .inl (.inr ⟨o, e _ _ h⟩)
  · exact .inr h
/-- what the dict of first_paths holds: keys, and tuples that are not too long -/
structure Dk (H : Hp) (d : Addr) (kvs : List (Key × V)) (ks : List Int) : Prop where
  at_ : H d = some (.dK kvs)
  ke : kvs.map (·.1) = ks.map Sum.inl
  vl : ∀ kv ∈ kvs, ∃ t xs, kv.2 = V.ref t ∧ H t = some (.tup xs) ∧ (xs.length ≤ kvs.length ∧ xs ≠ [])
theorem Dk.len {H : Hp} {d : Addr} {kvs : List (Key × V)} {ks : List Int} (h : Dk H d kvs ks) : kvs.length = ks.length := by
  have := congrArg List.length h.ke
  rw [List.length_map, List.length_map] at this
  exact this
theorem Dk.mem {H : Hp} {d : Addr} {kvs : List (Key × V)} {ks : List Int} (h : Dk H d kvs ks) (x : Int) : (valV kvs (Sum.inl x : Key)).isSome = true ↔ x ∈ ks := by
  constructor
  · intro e
    obtain ⟨v, e⟩ := Option.isSome_iff_exists.mp e
    have m := valV_in e
    rw [h.ke] at m
    obtain ⟨y, hy, e2⟩ := List.mem_map.mp m
    rw [← Sum.inl.inj e2]
    exact hy
  · intro m
    cases e : valV kvs (Sum.inl x : Key) with
    | some v => rfl
    | none =>
      have n := valV_not e
      rw [h.ke] at n
      exact absurd (List.mem_map.mpr ⟨x, m, rfl⟩) n
theorem Dk.same {H H' : Hp} {d : Addr} {kvs : List (Key × V)} {ks : List Int} (h : Dk H d kvs ks) (s : Same H H') : Dk H' d kvs ks := ⟨s _ _ h.at_, h.ke, fun kv hkv => by
  obtain ⟨t, xs, e1, e2, e3⟩ := h.vl kv hkv
  exact ⟨t, xs, e1, s _ _ e2, e3⟩⟩
theorem Dk.ch {H : Hp} {d wt : Addr} {us vs : List V} {kvs : List (Key × V)} {ks : List Int} (h : Dk H d kvs ks) (ne : d ≠ wt) (hw : H wt = some (.lst us)) : Dk (upd H wt (.lst vs)) d kvs ks := ⟨by rw [upd_ne ne]; exact h.at_, h.ke, fun kv hkv => by
  obtain ⟨t, xs, e1, e2, e3⟩ := h.vl kv hkv
  exact ⟨t, xs, e1, by rw [upd_ne (ne_of e2 hw (by intro z; cases z))]; exact e2, e3⟩⟩
theorem Dk.put {H : Hp} {d t : Addr} {b : Int} {xs : List V} {kvs : List (Key × V)} {ks : List Int} (h : Dk H d kvs ks) (n : valV kvs (Sum.inl b : Key) = none) (ht : H t = some (.tup xs)) (hx : xs.length ≤ kvs.length + 1) (hz : xs ≠ []) : Dk (upd H d (.dK (putK kvs (Sum.inl b) (.ref t)))) d (putK kvs (Sum.inl b) (.ref t)) (ks ++ [b]) := by
  have e := putK_new (V.ref t) n
  refine ⟨upd_same, by rw [e, List.map_append, List.map_append, h.ke]; rfl, fun kv hkv => ?_⟩
  rw [e] at hkv ⊢
  rcases List.mem_append.mp hkv with m | m
  · obtain ⟨u, ys, e1, e2, e3⟩ := h.vl kv m
    exact ⟨u, ys, e1, by rw [upd_ne (ne_of e2 h.at_ (by intro z; cases z))]; exact e2, by rw [List.length_append]; exact ⟨by omega, e3.2⟩⟩
  · rw [List.mem_singleton.mp m]
    exact ⟨t, xs, rfl, by rw [upd_ne (ne_of ht h.at_ (by intro z; cases z))]; exact ht, by rw [List.length_append]; exact ⟨hx, hz⟩⟩
theorem valV_mem {kvs : List (Key × V)} {k : Key} {v : V} (e : valV kvs k = some v) : ∃ kv ∈ kvs, kv.2 = v := by
  induction kvs with
  | nil => rw [valV_nil] at e; cases e
  | cons p r ih =>
    by_cases c : p.1 = k
    · rw [valV_pos c] at e
      exact ⟨p, List.mem_cons_self, Option.some.inj e⟩
    · rw [valV_neg c] at e
      obtain ⟨kv, m, e⟩ := ih e
      exact ⟨kv, List.mem_cons_of_mem _ m, e⟩
theorem for_iterW {wi : TI} {g : TG} {tb : TS} {D : Ends} {σ : L2.St} {H : Hp} (h : wi σ H fun J H1 => tFor (fun _ H R => R J H) g tb D σ H1) : tFor wi g tb D σ H := h
def SeqI (K : PySem.W.Frag) (H : Hp) (o : Addr) (R : List Int) : Prop := SqL K H o (R.map V.int) ∨ SqT K H o (R.map V.int)
section
variable {P : Program} {w : World} {K : PySem.W.Frag} {mg : Str → Option Value} {base : Heap}
theorem scFp : FnScope ["steps", "start", "inside", "paths", "waiting", "room", "other"] ["steps", "start", "inside"] (defScope sFp) := ⟨rfl, rfl, rfl, by decide +kernel, rfl, by decide +kernel, by decide +kernel⟩
def spFp (K : PySem.W.Frag) (C g : Addr) : Sp := fun vs H Q _ => ∃ (q o p : Addr) (s : Int) (R : List Int) (r : Nat) (D : List Pr) (own : List Addr), vs = [.ref q, .int s, .ref o] ∧ H q = some (.met g p) ∧ HouseAt C H p r D own ∧ SeqI K H o R ∧ (∀ x ∈ R, 0 ≤ x ∧ x < r) ∧
  ∀ (d : Addr) (kvs : List (Key × V)) (ks : List Int) (H' : Hp), Same H H' → H d = none → H' d = some (.dK kvs) → kvs.map (·.1) = ks.map Sum.inl → ks.Nodup → (∀ x, x ∈ ks ↔ Rch D R s x) → Q (.ref d) H'
theorem ok_fp {f C g : Addr} {fd fdn : FuncData} (F : Fun K "first_paths" "first_paths" sFp f fd) (T : Bi mg) (U : Hs K mg C) (bm : BMeth K C "neighbours" g) (Gn : FnOk P w K mg base CX0 1 g fdn ["self", "room"] (spHnear C)) (bn : Binds K fdn ["self", "room"] []) : FnOk P w K mg base CX0 2 f fd ["steps", "start", "inside"] (spFp K C g) := by
  refine F.ok scFp (fun vs H Q E h => ?_) (fun cdv A outer s0 H vs Q E hr h => ?_)
  · obtain ⟨q, o, p, s, R, r, D, own, rfl, _⟩ := h
    rfl
  · obtain ⟨q, o, p, s, R, r, D, own, rfl, hq, hh, ho, hR, ret⟩ := h
    refine ⟨_, (pss_cons (ps_set (i := 3) scFp.nd rfl (Or.inl rfl) pe_dnewK)
      (pss_cons (ps_if (pt_cmpR op_in_seq (pv 1) (pv 2) (by rfl))
      (pss_one (ps_dput (u1 hr.units) (pv 3) (pv 1) (pe_tup (pa_cons (pv 1) pa_nil)) rfl))
      pss_nil)
      (pss_cons (ps_set (i := 4) scFp.nd rfl (Or.inl rfl) (pe_callTy (call_listD rfl) (by rfl) T.list (by decide +kernel) (pa_cons (pv 3) pa_nil)))
      (pss_cons (ps_while PassesOwn.never (pt_truth (pv 4) (by intro _; rfl))
      (pss_cons (ps_set (i := 5) scFp.nd rfl (Or.inl rfl) (pe_bm PySem.F.plainAttrs_list PySem.F.slot_list_pop PySem.F.type_list_pop mt_popAt (pv 4) (pa_cons pe_int pa_nil)))
        (pss_one (ps_for PassesOwn.never rfl (pi_list (pe_callM (i := 0) (Gn.raw bn .nil) (hr.mono (by decide)) (by rfl) (.inl rfl) bm.fi pass0 (pa_cons (pv 5) pa_nil))) (pg_name (i := 6) scFp.nd rfl (Or.inl rfl))
        (pss_one (ps_if (PW.pt (pw_and (pt_cmpR op_in_seq (pv 6) (pv 2) (by rfl)) (pw_and1 (pt_cmp (pc_dnotin (u1 hr.units) (pv 6) (pv 3))))))
          (pss_cons (ps_dput (u1 hr.units) (pv 3) (pv 6) (pe_op op_catT (pe_dget (u1 hr.units) (pv 3) (pv 5) (fun _ _ => rfl)) (pe_tup (pa_cons (pv 6) pa_nil))) rfl)
            (pss_one (ps_expr (pe_bm PySem.F.plainAttrs_list PySem.F.slot_list_append PySem.F.type_list_append mt_append (pv 4) (pa_cons (pv 6) pa_nil)))))
          pss_nil))))))
      (pss_one (ps_ret (pv 3))))))), ?_⟩
    walk_at "rd"
    intro d nd
    have s1 : Same H (upd H d (HO.dK [])) := same_upd nd
    have hd1 : upd H d (HO.dK []) d = some (.dK []) := upd_same
    have hoS : ∀ H', Same H H' → SeqI K H' o R := fun H' sm => by
      rcases ho with h | h
      · exact .inl (sm.seq h)
      · exact .inr (same_sqT sm h)
    refine ⟨o, _, rfl, hoS _ s1, rfl, flI _, ?_⟩
    rw [inI]
    refine ⟨_, rfl, ?_⟩
    by_cases m : s ∈ R
    rw [decide_eq_true m]
    refine iteT ⟨_, rfl, (by show 1 ≤ sizeLine; decide), fun t nt => ⟨_, rfl, _, rfl, d, _, rfl, DPut.k (k := Sum.inl s) (same_upd nt _ _ hd1) (by decide), ?_⟩⟩
    have s2 : Same H (upd (upd (upd H d (HO.dK [])) t (HO.tup [V.int s])) d (HO.dK (putK [] (Sum.inl s) (V.ref t)))) := same_ch (s1.trans (same_upd nt)) nd
    have pk : ∃ kvs ks, Dk (upd (upd (upd H d (HO.dK [])) t (HO.tup [V.int s])) d (HO.dK (putK [] (Sum.inl s) (V.ref t)))) d kvs ks ∧ FInv D R s ks := by
      have ntd : t ≠ d := fun z => by
        rw [z, upd_same] at nt
        cases nt
      refine ⟨[(Sum.inl s, V.ref t)], [s], ⟨upd_same, rfl, fun kv hkv => ?_⟩, (by simp), fun x hx => ?_, fun _ => List.mem_cons_self⟩
      · rw [List.mem_singleton.mp hkv]
        exact ⟨t, _, rfl, by rw [upd_ne ntd]; exact upd_same, Nat.le_refl _, by simp⟩
      · rw [List.mem_singleton.mp hx]
        exact .base m
    generalize upd (upd (upd H d (HO.dK [])) t (HO.tup [V.int s])) d (HO.dK (putK [] (Sum.inl s) (V.ref t))) = H1 at s2 pk
    clear nt hd1
    rotate_left
    rw [decide_eq_false m]
    refine iteF ?_
    have s2 := s1
    have pk : ∃ kvs ks, Dk (upd H d (HO.dK [])) d kvs ks ∧ FInv D R s ks := ⟨[], [], ⟨upd_same, rfl, fun kv hkv => by cases hkv⟩, List.nodup_nil, fun x hx => (by cases hx), fun z => absurd z m⟩
    generalize upd H d (HO.dK []) = H1 at s1 s2 hd1 pk
    clear hd1
    all_goals
      clear s1
      obtain ⟨kvs, ks, dk, fi⟩ := pk
      walk_at "rd"
      refine ⟨_, .inl dk.at_, fun wt nwt => ?_⟩
      have r12 := hh.r12
      have dok : ∀ d ∈ D, d.1 < d.2 := fun d hd => (hh.ok.ok d hd).2.1
      have klen : ∀ ks : List Int, FInv D R s ks → ks.length ≤ r := fun ks fi => ints_len fi.nd fun x hx => hR x (fi.rc x hx).mem
      have dwt : d ≠ wt := ne_of_none dk.at_ nwt
      have nw0 : H wt = none := s2.free nwt
      have e0 : kvs.map (fun kv => kV kv.1) = ks.map V.int := by
        rw [show kvs.map (fun kv => kV kv.1) = (kvs.map (·.1)).map kV by rw [List.map_map]; rfl, dk.ke, List.map_map]
        rfl
      rw [e0]
      obtain ⟨Pv, hPv⟩ : ∃ Pv : L2.St → Hp → Prop, Pv = (fun σ H' => ∃ (kvs : List (Key × V)) (ks wl : List Int) (v5 v6 : Option V), σ = [some (.ref q), some (.int s), some (.ref o), some (.ref d), some (.ref wt), v5, v6] ∧ Same H H' ∧ Dk H' d kvs ks ∧ FInv D R s ks ∧ H' wt = some (.lst (wl.map V.int)) ∧ (∀ x ∈ wl, x ∈ ks) ∧ 2 * (r - kvs.length) + wl.length ≤ 100 ∧ (∀ a ∈ ks, a ∉ wl → ∀ b ∈ R, Adj D a b → b ∈ ks)) := ⟨_, rfl⟩
      obtain ⟨mu, hmu⟩ : ∃ mu : L2.St → Hp → Nat, mu = (fun _ H' => match H' d, H' wt with
        | some (.dK kvs), some (.lst ws) => 2 * (r - kvs.length) + ws.length
        | _, _ => 0) := ⟨_, rfl⟩
      refine while_by Pv mu ?h0 (fun σ H2 pv => ?hs) (fun σ H2 Q1 Q2 hi h => ?mono)
      case h0 =>
        rw [hPv]
        have kl := klen ks fi
        have dl := dk.len
        refine ⟨kvs, ks, ks, none, none, rfl, s2.trans (same_upd nwt), ⟨same_upd nwt _ _ dk.at_, dk.ke, fun kv hkv => ?_⟩, fi, upd_same, fun x hx => hx, by omega, fun a ha hn => absurd ha hn⟩
        obtain ⟨t, xs, e1, e2, e3⟩ := dk.vl kv hkv
        exact ⟨t, xs, e1, same_upd nwt _ _ e2, e3⟩
      case mono =>
        obtain ⟨v, g1, k, tv, q1⟩ := h
        exact ⟨v, g1, k, tv, hi _ _ q1⟩
      case hs =>
        rw [hPv] at pv
        obtain ⟨kvs, ks, wl, v5, v6, rfl, sm, dk, fi, hw, sub, bd, cl⟩ := pv
        refine ⟨.ref wt, rfl, !(wl.map V.int).isEmpty, .inl ⟨_, SqL.of hw, rfl⟩, ?_⟩
        cases wl with
        | nil =>
          refine iteF ?_
          walk_at "rd"
          exact ret d kvs ks H2 sm nd dk.at_ dk.ke fi.nd (fi.all fun a ha b hb ab => cl a ha (by simp) b hb ab)
        | cons w0 ws =>
          have w0k := sub w0 List.mem_cons_self
          have w0R := hR w0 (fi.rc w0 w0k).mem
          obtain ⟨n0, rfl⟩ : ∃ n : Nat, w0 = (n : Int) := ⟨w0.toNat, by omega⟩
          refine iteT ?_
          walk_at "rd"
          refine ⟨.inl ⟨rfl, _, SqL.of hw⟩, ?_⟩
          walk_at "rd"
          have sq : PySem.seqIndex? 0 (((n0 : Int) :: ws).map V.int).length = some 0 := by
            unfold PySem.seqIndex?
            simp
          refine ⟨wt, _, 0, 0, .int n0, rfl, rfl, hw, by decide, by decide, sq, rfl, ?_⟩
          have mu0 : mu [some (V.ref q), some (V.int s), some (V.ref o), some (V.ref d), some (V.ref wt), v5, v6] H2 = 2 * (r - kvs.length) + (ws.length + 1) := by
            rw [hmu]
            show (match H2 d, H2 wt with
              | some (.dK kvs), some (.lst ws) => 2 * (r - kvs.length) + ws.length
              | _, _ => 0) = _
            rw [dk.at_, hw]
            show _ + (List.map V.int _).length = _
            rw [List.length_map]
            rfl
          rw [mu0]
          have bd2 : 2 * (r - kvs.length) + (ws.length + 1) ≤ 100 := bd
          generalize hM : 2 * (r - kvs.length) + (ws.length + 1) = M at bd2
          show tFor _ _ _ _ _ (upd H2 wt (HO.lst (ws.map V.int)))
          have s3 : Same H (upd H2 wt (HO.lst (ws.map V.int))) := same_ch sm nw0
          have hw3 : upd H2 wt (HO.lst (ws.map V.int)) wt = some (.lst (ws.map V.int)) := upd_same
          have dk3 : Dk (upd H2 wt (HO.lst (ws.map V.int))) d kvs ks := dk.ch dwt hw
          generalize upd H2 wt (HO.lst (ws.map V.int)) = H3 at s3 hw3 dk3 ⊢
          refine for_iterW ?_
          refine ⟨q, p, rfl, _, rfl, s3 _ _ hq, p, r, D, own, n0, rfl, hh.same s3, by omega, fun nb nnb => ?_⟩
          have nb0 : H nb = none := s3.free nnb
          have nbw : wt ≠ nb := ne_of_none hw3 nnb
          have nbd : d ≠ nb := ne_of_none dk3.at_ nnb
          obtain ⟨Pw, hPw⟩ : ∃ Pw : Nat → L2.St → Hp → Prop, Pw = (fun j σ H' => ∃ (kvs' : List (Key × V)) (ks' wl' : List Int) (v6 : Option V), σ = [some (.ref q), some (.int s), some (.ref o), some (.ref d), some (.ref wt), some (.int n0), v6] ∧ Same H H' ∧ H' nb = some (.lst ((nearF (n0 : Nat) D).map V.int)) ∧ Dk H' d kvs' ks' ∧ FInv D R s ks' ∧ H' wt = some (.lst (wl'.map V.int)) ∧ (∀ x ∈ wl', x ∈ ks') ∧ (n0 : Int) ∈ ks' ∧ 2 * (r - kvs'.length) + wl'.length + 1 ≤ M ∧ (∀ a ∈ ks', a ∉ wl' → a ≠ n0 → ∀ b ∈ R, Adj D a b → b ∈ ks') ∧ (∀ b ∈ (nearF (n0 : Nat) D).take j, b ∈ R → b ∈ ks')) := ⟨_, rfl⟩
          refine ⟨nb, rfl, ⟨_, SqL.of upd_same⟩, for_list (K := K) (a := nb) (xs := (nearF (n0 : Nat) D).map V.int) Pw ?i0 (fun j σ H' _ pv => ?il) (fun j v σ H' gv pv => ?ib) (fun σ H' pv => ?ie)⟩
          case i0 =>
            rw [hPw]
            refine ⟨kvs, ks, ws, v6, rfl, s3.trans (same_upd nnb), upd_same, dk3.same (same_upd nnb), fi, same_upd nnb _ _ hw3, fun x hx => sub x (List.mem_cons_of_mem _ hx), w0k, by omega, fun a ha hn ne b hb ab => cl a ha (fun z => ?_) b hb ab, fun b hb => (by rw [List.take_zero] at hb; cases hb)⟩
            rcases List.mem_cons.mp z with z | z
            · exact ne z
            · exact hn z
          case il =>
            rw [hPw] at pv
            obtain ⟨_, _, _, _, _, _, hn, _⟩ := pv
            exact SqL.of hn
          case ie =>
            rw [hPw] at pv
            obtain ⟨kvs', ks', wl', v6, rfl, s5, hn, dk5, fi5, hw5, sub5, nk, le5, cl5, nn5⟩ := pv
            rw [List.length_map, List.take_length] at nn5
            refine ⟨?_, ?_⟩
            · rw [hPv]
              refine ⟨kvs', ks', wl', some (.int n0), v6, rfl, s5, dk5, fi5, hw5, sub5, by omega, fun a ha hn b hb ab => ?_⟩
              by_cases e : a = n0
              · subst e
                exact nn5 b ((mem_nearF dok).mpr ab) hb
              · exact cl5 a ha hn e b hb ab
            · rw [hmu]
              show (match H' d, H' wt with
                | some (.dK kvs), some (.lst ws) => 2 * (r - kvs.length) + ws.length
                | _, _ => 0) < _
              rw [dk5.at_, hw5]
              show _ + (List.map V.int _).length < _
              rw [List.length_map]
              omega
          case ib =>
            have nxt : ∀ (kvs' : List (Key × V)) (ks' wl' : List Int) (v6 : Option V) (H' : Hp), Same H H' → H' nb = some (.lst ((nearF (n0 : Nat) D).map V.int)) → Dk H' d kvs' ks' → FInv D R s ks' → H' wt = some (.lst (wl'.map V.int)) → (∀ x ∈ wl', x ∈ ks') → (n0 : Int) ∈ ks' → 2 * (r - kvs'.length) + wl'.length + 1 ≤ M → (∀ a ∈ ks', a ∉ wl' → a ≠ n0 → ∀ b ∈ R, Adj D a b → b ∈ ks') → (∀ b ∈ (nearF (n0 : Nat) D).take (j + 1), b ∈ R → b ∈ ks') → Pw (j + 1) [some (.ref q), some (.int s), some (.ref o), some (.ref d), some (.ref wt), some (.int n0), v6] H' := fun kvs' ks' wl' v6 H' h1 h2 h3 h4 h5 h6 h7 h8 h9 h10 => by
              rw [hPw]
              exact ⟨kvs', ks', wl', v6, rfl, h1, h2, h3, h4, h5, h6, h7, h8, h9, h10⟩
            rw [hPw] at pv
            obtain ⟨kvs', ks', wl', v6, rfl, s5, hn, dk5, fi5, hw5, sub5, nk, le5, cl5, nn5⟩ := pv
            rw [List.getElem?_map] at gv
            cases gd : (nearF (n0 : Nat) D)[j]? with
            | none => rw [gd] at gv; cases gv
            | some b =>
              rw [gd] at gv
              have ev := Option.some.inj gv
              subst ev
              have adj : Adj D n0 b := (mem_nearF dok).mp (List.mem_of_getElem? gd)
              have tk : (nearF (n0 : Nat) D).take (j + 1) = (nearF (n0 : Nat) D).take j ++ [b] := by rw [List.take_add_one, gd]; rfl
              rw [tk] at nxt
              walk_at "rd"
              refine ⟨o, _, rfl, hoS _ s5, rfl, flI _, ?_⟩
              rw [inI]
              refine ⟨_, rfl, ?_⟩
              by_cases bR : b ∈ R
              · rw [decide_eq_true bR]
                refine iteT ?_
                refine ⟨_, rfl, _, rfl, d, _, rfl, DGet.k (k := Sum.inl b) dk5.at_, ?_⟩
                refine ⟨_, rfl, ?_⟩
                by_cases bk : b ∈ ks'
                · rw [(dk5.mem b).mpr bk]
                  refine iteF ?_
                  refine nxt kvs' ks' wl' _ H' s5 hn dk5 fi5 hw5 sub5 nk le5 cl5 fun c hc cR => ?_
                  rcases List.mem_append.mp hc with z | z
                  · exact nn5 c z cR
                  · rw [List.mem_singleton.mp z]
                    exact bk
                · have vn : valV kvs' (Sum.inl b : Key) = none := by
                    cases e : valV kvs' (Sum.inl b : Key) with
                    | none => rfl
                    | some v => exact absurd ((dk5.mem b).mp (by rw [e]; rfl)) bk
                  rw [vn]
                  refine iteT ?_
                  obtain ⟨v0, ev0⟩ : ∃ v, valV kvs' (Sum.inl (n0 : Int) : Key) = some v := Option.isSome_iff_exists.mp ((dk5.mem n0).mpr nk)
                  obtain ⟨kv, mkv, e2⟩ := valV_mem ev0
                  obtain ⟨t0, xs0, e3, ht0, hx0, hz0⟩ := dk5.vl kv mkv
                  have ek : v0 = V.ref t0 := e2.symm.trans e3
                  subst ek
                  have fi6 := fi5.add nk bR adj bk
                  have kl := klen _ fi6
                  have dl := dk5.len
                  rw [List.length_append] at kl
                  have kl2 : ks'.length + 1 ≤ r := kl
                  refine ⟨_, rfl, _, rfl, d, .ref t0, rfl, (by rw [← ev0]; exact DGet.k (k := Sum.inl (n0 : Int)) dk5.at_), _, rfl, (by show 1 ≤ sizeLine; decide), fun t1 nt1 => ?_⟩
                  refine ⟨t0, t1, xs0, [.int b], rfl, rfl, SqT.of (same_upd nt1 _ _ ht0), SqT.of upd_same, hz0, Nat.le_of_lt (len_big (by show xs0.length + 1 ≤ 100000; omega)), (fun z => by cases z), fun _ t2 nt2 => ?_⟩
                  have s56 : Same H' (upd (upd H' t1 (HO.tup [V.int b])) t2 (HO.tup (xs0 ++ [V.int b]))) := (same_upd nt1).trans (same_upd nt2)
                  have ht2 : upd (upd H' t1 (HO.tup [V.int b])) t2 (HO.tup (xs0 ++ [V.int b])) t2 = some (.tup (xs0 ++ [V.int b])) := upd_same
                  generalize upd (upd H' t1 (HO.tup [V.int b])) t2 (HO.tup (xs0 ++ [V.int b])) = H6 at s56 ht2
                  have dk6 := dk5.same s56
                  refine ⟨_, rfl, _, rfl, d, _, rfl, DPut.k (k := Sum.inl b) dk6.at_ (len_big (by omega)), ?_⟩
                  have dk7 := dk6.put vn ht2 (by rw [List.length_append]; show xs0.length + 1 ≤ _; omega) (by simp)
                  have s7 := same_ch (o := HO.dK (putK kvs' (Sum.inl b) (V.ref t2))) (s5.trans s56) nd
                  have hw7 : upd H6 d (HO.dK (putK kvs' (Sum.inl b) (V.ref t2))) wt = some (.lst (wl'.map V.int)) := by
                    rw [upd_ne dwt.symm]
                    exact s56 _ _ hw5
                  have hn7 : upd H6 d (HO.dK (putK kvs' (Sum.inl b) (V.ref t2))) nb = some (.lst ((nearF (n0 : Nat) D).map V.int)) := by
                    rw [upd_ne nbd.symm]
                    exact s56 _ _ hn
                  have pl : (putK kvs' (Sum.inl b : Key) (V.ref t2)).length = kvs'.length + 1 := by rw [putK_new _ vn, List.length_append]; rfl
                  generalize upd H6 d (HO.dK (putK kvs' (Sum.inl b) (V.ref t2))) = H7 at dk7 s7 hw7 hn7
                  generalize putK kvs' (Sum.inl b : Key) (V.ref t2) = kv7 at dk7 pl
                  walk_at "rd"
                  refine ⟨.inl ⟨rfl, _, SqL.of hw7⟩, _, hw7, len_big (by rw [List.length_map]; omega), ?_⟩
                  refine nxt kv7 (ks' ++ [b]) (wl' ++ [b]) _ _ (same_ch s7 nw0) (by rw [upd_ne nbw.symm]; exact hn7) (dk7.ch dwt hw7) fi6 (by rw [upd_same, List.map_append]; rfl) (fun x hx => ?_) (List.mem_append_left _ nk) (by rw [pl, List.length_append]; show _ + (wl'.length + 1) + 1 ≤ M; omega) (fun a ha hna ne c hc ac => ?_) (fun c hc cR => ?_)
                  · rcases List.mem_append.mp hx with z | z
                    · exact List.mem_append_left _ (sub5 x z)
                    · exact List.mem_append_right _ z
                  · rcases List.mem_append.mp ha with z | z
                    · exact List.mem_append_left _ (cl5 a z (fun y => hna (List.mem_append_left _ y)) ne c hc ac)
                    · exact absurd (List.mem_append_right _ z) hna
                  · rcases List.mem_append.mp hc with z | z
                    · exact List.mem_append_left _ (nn5 c z cR)
                    · exact List.mem_append_right _ z
              · rw [decide_eq_false bR]
                refine iteF ?_
                refine nxt kvs' ks' wl' _ H' s5 hn dk5 fi5 hw5 sub5 nk le5 cl5 fun c hc cR => ?_
                rcases List.mem_append.mp hc with z | z
                · exact nn5 c z cR
                · rw [List.mem_singleton.mp z] at cR
                  exact absurd cR bR
end

theorem up_of {ys ks : List Int} (p : ys.Perm ks) (nd : ks.Nodup) (s : ys.Pairwise (· ≤ ·)) : Up ys := by
  have n2 : ys.Nodup := p.nodup_iff.mpr nd
  unfold Up
  refine List.Pairwise.imp (fun {a b} (h : a ≤ b ∧ a ≠ b) => by omega) (List.Pairwise.and s n2)
/-- tuples of ints in the heap -/
def IsR (H : Hp) (v : V) (ys : List Int) : Prop := ∃ t, v = .ref t ∧ H t = some (.tup (ys.map V.int))
def RL (H : Hp) (vs : List V) (L : List (List Int)) : Prop := Paired (IsR H) vs L
theorem IsR.same {H H' : Hp} {v : V} {d : List Int} (h : IsR H v d) (k : KT H H') : IsR H' v d := by
  obtain ⟨t, e, h⟩ := h
  exact ⟨t, e, k _ _ h⟩
theorem RL.kt {H H' : Hp} {vs : List V} {D : List (List Int)} (h : RL H vs D) (k : KT H H') : RL H' vs D := Paired.mapP h fun _ _ q => q.same k
theorem RL.len {H : Hp} {vs : List V} {D : List (List Int)} (h : RL H vs D) : vs.length = D.length := Paired.length h
theorem RL.nil0 (H : Hp) : RL H [] [] := Paired.nil
theorem RL.snoc {H : Hp} {vs : List V} {D : List (List Int)} {v : V} {d : List Int} (h : RL H vs D) (q : IsR H v d) : RL H (vs ++ [v]) (D ++ [d]) := Paired.snoc h q
theorem lget {α β : Type} {F : α → β → Prop} : ∀ {vs : List α} {D : List β} {i : Nat} {v : α}, Paired F vs D → vs[i]? = some v → ∃ d, D[i]? = some d ∧ F v d
  | _, _, _, _, Paired.nil, e => by simp at e
  | _, _, 0, v, .cons r _, e => by
    have e2 := Option.some.inj e
    subst e2
    exact ⟨_, rfl, r⟩
  | _, _, i + 1, v, .cons _ t, e => lget (i := i) t e
theorem lget2 {α β : Type} {F : α → β → Prop} : ∀ {vs : List α} {D : List β} {i : Nat} {d : β}, Paired F vs D → D[i]? = some d → ∃ v, vs[i]? = some v ∧ F v d
  | _, _, _, _, Paired.nil, e => by simp at e
  | _, _, 0, v, .cons r _, e => by
    have e2 := Option.some.inj e
    subst e2
    exact ⟨_, rfl, r⟩
  | _, _, i + 1, v, .cons _ t, e => lget2 (i := i) t e
section
variable {P : Program} {w : World} {K : PySem.W.Frag} {mg : Str → Option Value} {base : Heap}
theorem scRea : FnScope ["house", "start", "inside"] ["house", "start", "inside"] (defScope sRea) := ⟨rfl, rfl, rfl, by decide +kernel, rfl, by decide +kernel, by decide +kernel⟩
def spRea (K : PySem.W.Frag) (C : Addr) : Sp := fun vs H Q _ => ∃ (p o : Addr) (s : Int) (R : List Int) (r : Nat) (D : List Pr) (own : List Addr), vs = [.ref p, .int s, .ref o] ∧ HouseAt C H p r D own ∧ SeqI K H o R ∧ (∀ x ∈ R, 0 ≤ x ∧ x < r) ∧
  ∀ (ys : List Int) (t : Addr) (H' : Hp), Pc D R s ys → Same H H' → H t = none → H' t = some (.tup (ys.map V.int)) → Q (.ref t) H'
theorem SeqI.same {K : PySem.W.Frag} {H H' : Hp} {o : Addr} {R : List Int} (h : SeqI K H o R) (s : Same H H') : SeqI K H' o R := by
  rcases h with h | h
  · exact .inl (s.seq h)
  · exact .inr (same_sqT s h)
theorem ok_rea {f C g fF : Addr} {fd fdF : FuncData} (F : Fun K "reached" "reached" sRea f fd) (T : Bi mg) (U : Hs K mg C) (bm : BMeth K C "neighbours" g) (d_first_paths : Df P w K mg base "first_paths" ["steps", "start", "inside"] 2 (spFp K C g) fF fdF) : FnOk P w K mg base CX0 3 f fd ["house", "start", "inside"] (spRea K C) := by
  refine F.ok scRea (fun vs H Q E h => ?_) (fun cdv A outer s0 H vs Q E hr h => ?_)
  · obtain ⟨p, o, s, R, r, D, own, rfl, _⟩ := h
    rfl
  · obtain ⟨p, o, s, R, r, D, own, rfl, hh, ho, hR, ret⟩ := h
    refine ⟨_, (pss_one (ps_ret (pe_callTy call_tuple_of (by rfl) T.tuple (by decide +kernel) (pa_cons (pe_callB (call_sortedDI rfl) (by rfl) T.sorted (by decide +kernel) (pa_cons (pe_call d_first_paths.ok (hr.mono (by decide)) (by rfl) d_first_paths.at_ d_first_paths.kp d_first_paths.b .nil pass0 (pa_cons (pe_bnd (pv 0) U.cl bm) (pa_cons (pv 1) (pa_cons (pv 2) pa_nil)))) pa_nil)) pa_nil)))), ?_⟩
    walk_at "rd"
    obtain ⟨dx, l0, m0, ls, nss, h1, _⟩ := hh.ex
    refine ⟨_, rfl, p, dx, _, rfl, h1, hf_no _ _ _ (by decide +kernel) (by decide +kernel) (by decide +kernel), fun q nq => ?_⟩
    have s1 : Same H (upd H q (HO.met g p)) := same_upd nq
    refine ⟨q, o, p, s, R, r, D, own, rfl, upd_same, hh.same s1, ho.same s1, hR, fun d kvs ks H' s2 nd hd ke knd rc => ?_⟩
    have kl : ks.length ≤ r := ints_len knd fun x hx => hR x ((rc x).mp hx).mem
    have r12 := hh.r12
    walk_at "rd"
    refine ⟨kvs, .inl hd, ks, ke, by omega, fun ys t1 pm so nt1 => ⟨_, .inl ⟨SqL.of upd_same, fun t2 nt2 => ?_⟩⟩⟩
    have s3 := s1.trans s2
    have s4 := (s3.trans (same_upd (o := HO.lst (ys.map V.int)) nt1))
    exact ret ys t2 _ ⟨up_of pm knd so, fun x => pm.mem_iff.trans (rc x)⟩ (s4.trans (same_upd nt2)) (s4.free nt2) upd_same
theorem scPcs : FnScope ["house", "rooms", "found", "left", "piece", "room"] ["house", "rooms"] (defScope sPcs) := ⟨rfl, rfl, rfl, by decide +kernel, rfl, by decide +kernel, by decide +kernel⟩
def spPcs (K : PySem.W.Frag) (C : Addr) : Sp := fun vs H Q _ => ∃ (p o : Addr) (R : List Int) (r : Nat) (D : List Pr) (own : List Addr), vs = [.ref p, .ref o] ∧ HouseAt C H p r D own ∧ SeqI K H o R ∧ R.length < 64 ∧ (∀ x ∈ R, 0 ≤ x ∧ x < r) ∧
  ∀ (L : List (List Int)) (us : List V) (t : Addr) (H' : Hp), Pcs D R L → Same H H' → H t = none → H' t = some (.lst us) → RL H' us L → Q (.ref t) H'
theorem ok_pcs {f C fR : Addr} {fd fdR : FuncData} (F : Fun K "pieces" "pieces" sPcs f fd) (T : Bi mg) (d_reached : Df P w K mg base "reached" ["house", "start", "inside"] 3 (spRea K C) fR fdR) : FnOk P w K mg base CX0 4 f fd ["house", "rooms"] (spPcs K C) := by
  refine F.ok scPcs (fun vs H Q E h => ?_) (fun cdv A outer s0 H vs Q E hr h => ?_)
  · obtain ⟨p, o, R, r, D, own, rfl, _⟩ := h
    rfl
  · obtain ⟨p, o, R, r, D, own, rfl, hh, ho, h64, hR, ret⟩ := h
    refine ⟨_, (pss_cons (ps_set (i := 2) scPcs.nd rfl (Or.inl rfl) (pe_lst pa_nil))
      (pss_cons (ps_set (i := 3) scPcs.nd rfl (Or.inl rfl) (pe_callB cr_sortTup (by rfl) T.sorted (by decide +kernel) (pa_cons (pv 1) pa_nil)))
      (pss_cons (ps_while PassesOwn.never (pt_truth (pv 3) (by intro _; rfl))
      (pss_cons (ps_set (i := 4) scPcs.nd rfl (Or.inr rfl) (pe_call d_reached.ok (hr.mono (by decide)) (by rfl) d_reached.at_ d_reached.kp d_reached.b .nil pass0 (pa_cons (pv 0) (pa_cons (pe_ix ix_list (pv 3) pe_int (fun _ _ => rfl)) (pa_cons (pv 3) pa_nil)))))
        (pss_cons (ps_expr (pe_bm PySem.F.plainAttrs_list PySem.F.slot_list_append PySem.F.type_list_append mt_append (pv 2) (pa_cons (pv 4) pa_nil)))
        (pss_one (ps_setLc (i := 3) (own := [("room", 5)]) (tt := tTest (tOp (rIn K true) (tVar 5) (tVar 4))) (by rfl) scPcs.nd rfl rfl (sw_true rfl rfl rfl (by decide +kernel)) (pi_list (pv 3)) (blkOk_by (N := ["house", "rooms", "found", "left", "piece", "room"]) (sc := defScope sPcs) (by decide +kernel)) (fun _ _ _ _ _ => pg_name (i := 5) scPcs.nd rfl (Or.inl rfl)) (fun _ _ _ _ _ => (pts_one (pt_cmpR op_notIn_seq (pv 5) (pv 4) (by rfl)))) (fun _ _ _ _ _ => (pv 5)))))))
      (pss_one (ps_ret (pv 2)))))), ?_⟩
    walk_at "rd"
    refine ⟨Nat.zero_le _, fun fnd nf => ?_⟩
    have s1 : Same H (upd H fnd (HO.lst [])) := same_upd nf
    refine ⟨o, R, rfl, ho.same s1, h64, fun S lf0 pS sS nl0 => ?_⟩
    have s2 := s1.trans (same_upd (o := HO.lst (S.map V.int)) nl0)
    obtain ⟨Pv, hPv⟩ : ∃ Pv : L2.St → Hp → Prop, Pv = (fun σ H' => ∃ (L : List (List Int)) (us : List V) (lf : Addr) (Lf : List Int) (v4 : Option V), σ = [some (.ref p), some (.ref o), some (.ref fnd), some (.ref lf), v4, none] ∧ Same H H' ∧ H' fnd = some (.lst us) ∧ RL H' us L ∧ H' lf = some (.lst (Lf.map V.int)) ∧ PInv D R L Lf ∧ L.length + Lf.length ≤ 100 ∧ fnd ≠ lf) := ⟨_, rfl⟩
    obtain ⟨mu, hmu⟩ : ∃ mu : L2.St → Hp → Nat, mu = (fun (σ : L2.St) (H' : Hp) => match (σ[3]? : Option (Option V)) with
      | some (some (.ref lf)) => (match H' lf with
        | some (.lst ws) => ws.length
        | _ => 0)
      | _ => 0) := ⟨_, rfl⟩
    refine while_by Pv mu ?h0 (fun σ H2 pv => ?hs) (fun σ H2 Q1 Q2 hi h => ?mono)
    case h0 =>
      rw [hPv]
      exact ⟨[], [], lf0, S, none, rfl, s2, same_upd nl0 _ _ upd_same, RL.nil0 _, upd_same, PInv.start (fun x => pS.mem_iff) sS, by have := pS.length_eq; show 0 + S.length ≤ 100; omega, ne_of_none upd_same nl0⟩
    case mono =>
      obtain ⟨v, g1, k, tv, q1⟩ := h
      exact ⟨v, g1, k, tv, hi _ _ q1⟩
    case hs =>
      rw [hPv] at pv
      obtain ⟨L, us, lf, Lf, v4, rfl, sm, hf, rl, hl, pi, bd, nfl⟩ := pv
      refine ⟨.ref lf, rfl, !(Lf.map V.int).isEmpty, .inl ⟨_, SqL.of hl, rfl⟩, ?_⟩
      cases Lf with
      | nil =>
        refine iteF ?_
        walk_at "rd"
        exact ret L us fnd H2 pi.done sm nf hf rl
      | cons l0 Lf =>
        refine iteT ?_
        have mu0 : mu [some (V.ref p), some (V.ref o), some (V.ref fnd), some (V.ref lf), v4, none] H2 = Lf.length + 1 := by
          rw [hmu]
          show (match H2 lf with
            | some (.lst ws) => ws.length
            | _ => 0) = _
          rw [hl]
          show (List.map V.int (l0 :: Lf)).length = _
          rw [List.length_map]
          rfl
        rw [mu0]
        have lR : ∀ x ∈ l0 :: Lf, 0 ≤ x ∧ x < r := fun x hx => hR x ((pi.lf x).mp hx).1
        walk_at "rd"
        refine ⟨_, SqL.of hl, .int l0, at_of (j := 0) rfl rfl, p, lf, l0, l0 :: Lf, r, D, own, rfl, hh.same sm, .inl (SqL.of hl), lR, fun ys t H3 pc s3 nt ht => ?_⟩
        walk_at "rd"
        have hf3 := s3 _ _ hf
        have rl3 := rl.kt (KT.same s3)
        have s03 := sm.trans s3
        have hl3 := s3 _ _ hl
        have bd3 : L.length + (Lf.length + 1) ≤ 100 := bd
        refine ⟨.inl ⟨rfl, _, SqL.of hf3⟩, us, hf3, len_big (by rw [rl.len]; omega), ?_⟩
        have s4 := same_ch (o := HO.lst (us ++ [V.ref t])) s03 nf
        have hl4 : upd H3 fnd (HO.lst (us ++ [V.ref t])) lf = some (.lst ((l0 :: Lf).map V.int)) := by rw [upd_ne nfl.symm]; exact hl3
        have ht4 : upd H3 fnd (HO.lst (us ++ [V.ref t])) t = some (.tup (ys.map V.int)) := by rw [upd_ne (ne_of ht hf3 (by intro z; cases z))]; exact ht
        have hf4 : upd H3 fnd (HO.lst (us ++ [V.ref t])) fnd = some (.lst (us ++ [V.ref t])) := upd_same
        have rl4 : RL (upd H3 fnd (HO.lst (us ++ [V.ref t]))) (us ++ [V.ref t]) (L ++ [ys]) := RL.snoc (rl3.kt (KT.lst hf3)) ⟨t, rfl, ht4⟩
        generalize upd H3 fnd (HO.lst (us ++ [V.ref t])) = H4 at s4 hl4 ht4 hf4 rl4
        refine ⟨_, rfl, lf, rfl, ⟨_, SqL.of hl4⟩, fun gg ng => ?_⟩
        obtain ⟨Pw, hPw⟩ : ∃ Pw : Nat → Hp → Prop, Pw = (fun j Hx => Same H4 Hx ∧ Hx gg = some (.lst ((((l0 :: Lf).take j).filter fun x => decide (x ∉ ys)).map V.int))) := ⟨_, rfl⟩
        refine lc_list (K := K) (a := lf) (xs := (l0 :: Lf).map V.int) Pw (by rw [hPw]; exact ⟨same_upd ng, upd_same⟩) (fun j Hx _ pv => by rw [hPw] at pv; exact SqL.of (pv.1 _ _ hl4)) (fun j v Hx gv pv => ?_) (fun Hx pv => ?_)
        · have nxt : ∀ Hx, Same H4 Hx → Hx gg = some (.lst ((((l0 :: Lf).take (j + 1)).filter fun x => decide (x ∉ ys)).map V.int)) → Pw (j + 1) Hx := fun Hx h1 h2 => by
            rw [hPw]
            exact ⟨h1, h2⟩
          rw [hPw] at pv
          obtain ⟨s5, hg⟩ := pv
          rw [List.getElem?_map] at gv
          cases gd : (l0 :: Lf)[j]? with
          | none => rw [gd] at gv; cases gv
          | some x =>
            rw [gd] at gv
            have ev := Option.some.inj gv
            subst ev
            rw [List.take_add_one, gd, List.filter_append, List.map_append] at nxt
            have tl : (((l0 :: Lf).take j).filter fun x => decide (x ∉ ys)).length ≤ 100 := by
              have e1 := List.length_filter_le (fun x => decide (x ∉ ys)) ((l0 :: Lf).take j)
              rw [List.length_take, List.length_cons] at e1
              omega
            simp only [wipe]
            walk_at "rd"
            refine ⟨t, _, rfl, .inr (SqT.of (s5 _ _ ht4)), rfl, flI _, ?_⟩
            rw [inI]
            by_cases m : x ∈ ys
            · rw [decide_eq_true m]
              refine ⟨_, rfl, iteF ?_⟩
              refine nxt Hx s5 ?_
              show _ = some (HO.lst (_ ++ ([x].filter _).map V.int))
              rw [List.filter_cons_of_neg (by simp [m])]
              rw [hg]
              simp
            · rw [decide_eq_false m]
              refine ⟨_, rfl, iteT ⟨_, hg, len_big (by rw [List.length_map]; omega), nxt _ (same_ch s5 ng) ?_⟩⟩
              show _ = some (HO.lst (_ ++ ([x].filter _).map V.int))
              rw [List.filter_cons_of_pos (by simp [m]), upd_same]
              rfl
        · rw [hPw] at pv
          obtain ⟨s5, hg⟩ := pv
          rw [List.length_map, List.take_length] at hg
          have fl : ((l0 :: Lf).filter fun x => decide (x ∉ ys)).length ≤ Lf.length := by
            have m0 : l0 ∈ ys := pc.self List.mem_cons_self
            rw [List.filter_cons_of_neg (by simp [m0])]
            exact List.length_filter_le _ _
          have s8 := s4.trans s5
          refine ⟨?_, ?_⟩
          · rw [hPv]
            exact ⟨L ++ [ys], us ++ [.ref t], gg, _, some (.ref t), rfl, s8, s5 _ _ hf4, rl4.kt (KT.same s5), hg, pi.step pc, by rw [List.length_append]; show L.length + 1 + _ ≤ 100; omega, ne_of_none hf4 ng⟩
          · rw [hmu]
            show (match Hx gg with
              | some (.lst ws) => ws.length
              | _ => 0) < _
            rw [hg]
            show (List.map V.int _).length < _
            rw [List.length_map]
            omega
end

local macro_rules | `(tactic| walk_at "rg") => `(tactic| try simp only [cxK, cxK2, cxP, cxW, L2.start, List.length_cons, List.length_nil, List.replicate_succ, List.replicate_zero, List.map_cons, List.map_nil, List.cons_append, List.nil_append, gName, gNil, gCons, gTup, gSub, List.getElem?_cons_zero, List.getElem?_cons_succ, Option.some.injEq, List.cons.injEq, V.int.injEq, V.ref.injEq, V.bl.injEq, V.str.injEq, exists_eq_left', exists_eq_left, exists_eq_right, exists_eq_right', true_and, and_true, and_assoc, exists_and_left, exists_and_right, List.set_cons_zero, List.set_cons_succ, List.append_nil, reduceCtorEq, false_and, and_false, exists_false, or_false, false_or, decide_eq_true_eq, Nat.reduceAdd, Nat.reduceSub])
abbrev sLre : Stmt := topS 21
abbrev sLpc : Stmt := topS 22
theorem int_sub_len {l m : List Int} (nd : l.Nodup) (h : ∀ x ∈ l, x ∈ m) (p : ∀ x ∈ m, 0 ≤ x) : l.length ≤ m.length := by
  have h1 : (l.map Int.toNat).Nodup := by
    refine List.pairwise_map.mpr (List.Pairwise.imp_of_mem (fun {x y} hx hy ne e => ?_) nd)
    have b1 := p x (h x hx)
    have b2 := p y (h y hy)
    omega
  have h2 := nat_nodup_len _ (m.map Int.toNat) h1 fun c hc => by
    obtain ⟨x, hx, rfl⟩ := List.mem_map.mp hc
    exact List.mem_map.mpr ⟨x, h x hx, rfl⟩
  rw [List.length_map, List.length_map] at h2
  exact h2
theorem FInv.full {D : List Pr} {R F : List Int} {s : Int} (h : FInv D R s F) (p : ∀ x ∈ R, 0 ≤ x) (l : R.length ≤ F.length) : Clo D R F := fun a ha b hb ab => Classical.byContradiction fun n => by
  have h2 := h.add ha hb ab n
  have := int_sub_len h2.nd (fun x hx => (h2.rc x hx).mem) p
  rw [List.length_append] at this
  have e : F.length + 1 ≤ R.length := this
  omega
/-- the doors so far lead nowhere new -/
def Cl1 (R F : List Int) (E : List Pr) : Prop := ∀ d ∈ E, (d.1 ∈ F → d.2 ∈ R → d.2 ∈ F) ∧ (d.2 ∈ F → d.1 ∈ R → d.1 ∈ F)
theorem Cl1.clo {D : List Pr} {R F : List Int} (h : Cl1 R F D) : Clo D R F := fun a ha b hb ab => by
  rcases ab with m | m
  · exact (h _ m).1 ha hb
  · exact (h _ m).2 ha hb
theorem half {K : PySem.W.Frag} {i j : Nat} {x y : Int} {fnd o : Addr} {Fc R : List Int} {D : Ends} {σ : L2.St} {H : Hp} (g1 : σ[i]? = some (some (.int x))) (g2 : σ[j]? = some (some (.int y))) (g3 : σ[3]? = some (some (.ref fnd))) (g4 : σ[2]? = some (some (.ref o))) (hf : H fnd = some (.lst (Fc.map V.int))) (ho : SeqI K H o R) (hl : Fc.length ≤ 1000)
    (no : ¬ (x ∈ Fc ∧ y ∈ R ∧ y ∉ Fc) → D.nx σ H) (yes : x ∈ Fc → y ∈ R → y ∉ Fc → D.nx σ (upd H fnd (.lst ((Fc ++ [y]).map V.int)))) :
    tIfS (tAnd (tTest (tOp (rIn K false) (tVar i) (tVar 3))) (tAnd (tTest (tOp (rIn K false) (tVar j) (tVar 2))) (tTest (tOp (rIn K true) (tVar j) (tVar 3))))) (tDrop (tBM K "list" rAppend (tVar 3) (tCons (tVar j) tNil))) tNext D σ H := by
  refine ⟨_, g1, _, g3, fnd, _, rfl, .inl (SqL.of hf), rfl, flI _, ?_⟩
  rw [inI]
  refine ⟨_, rfl, ?_⟩
  by_cases h1 : x ∈ Fc
  · rw [decide_eq_true h1]
    refine iteT ⟨_, g2, _, g4, o, _, rfl, ho, rfl, flI _, ?_⟩
    rw [inI]
    refine ⟨_, rfl, ?_⟩
    by_cases h2 : y ∈ R
    · rw [decide_eq_true h2]
      refine iteT ⟨_, g2, _, g3, fnd, _, rfl, .inl (SqL.of hf), rfl, flI _, ?_⟩
      rw [inI]
      refine ⟨_, rfl, ?_⟩
      by_cases h3 : y ∈ Fc
      · rw [decide_eq_true h3]
        exact iteF (no fun z => z.2.2 h3)
      · rw [decide_eq_false h3]
        refine iteT ⟨_, g3, .inl ⟨rfl, _, SqL.of hf⟩, _, g2, ?_⟩
        walk_at "rd"
        refine ⟨_, hf, len_big (by rw [List.length_map]; omega), ?_⟩
        have q := yes h1 h2 h3
        rw [List.map_append] at q
        exact q
    · rw [decide_eq_false h2]
      exact iteF (no fun z => h2 z.2.1)
  · rw [decide_eq_false h1]
    exact iteF (no fun z => h1 z.1)
section
variable {P : Program} {w : World} {K : PySem.W.Frag} {mg : Str → Option Value} {base : Heap}
theorem scLre : FnScope ["doors", "start", "inside", "found", "k", "before", "a", "b"] ["doors", "start", "inside"] (defScope sLre) := ⟨rfl, rfl, rfl, by decide +kernel, rfl, by decide +kernel, by decide +kernel⟩
def spLre (K : PySem.W.Frag) : Sp := fun vs H Q _ => ∃ (l o : Addr) (s : Int) (us : List V) (D : List Pr) (R : List Int), vs = [.ref l, .int s, .ref o] ∧ H l = some (.lst us) ∧ PL H us D ∧ SeqI K H o R ∧ R.length < 64 ∧ (∀ x ∈ R, 0 ≤ x) ∧
  ∀ (ys : List Int) (t : Addr) (H' : Hp), Pc D R s ys → Same H H' → H t = none → H' t = some (.lst (ys.map V.int)) → Q (.ref t) H'
theorem ok_lre {f : Addr} {fd : FuncData} (F : Fun K "_law_reach" "_law_reach" sLre f fd) (T : Bi mg) : FnOk P w K mg base CX0 1 f fd ["doors", "start", "inside"] (spLre K) := by
  refine F.ok scLre (fun vs H Q E h => ?_) (fun cdv A outer s0 H vs Q E hr h => ?_)
  · obtain ⟨l, o, s, us, D, R, rfl, _⟩ := h
    rfl
  · obtain ⟨l, o, s, us, D, R, rfl, hl, pl, ho, h64, hR, ret⟩ := h
    refine ⟨_, (pss_cons (ps_set (i := 3) scLre.nd rfl (Or.inl rfl) (pe_lst pa_nil))
      (pss_cons (ps_if (pt_cmpR op_in_seq (pv 1) (pv 2) (by rfl))
      (pss_one (ps_expr (pe_bm PySem.F.plainAttrs_list PySem.F.slot_list_append PySem.F.type_list_append mt_append (pv 3) (pa_cons (pv 1) pa_nil))))
      pss_nil)
      (pss_cons (ps_for PassesOwn.never rfl (pi_range1 (by rfl) T.range (pa_cons (pe_callB call_len_seq (by rfl) T.len (by decide +kernel) (pa_cons (pv 2) pa_nil)) pa_nil)) (pg_name (i := 4) scLre.nd rfl (Or.inl rfl))
      (pss_cons (ps_set (i := 5) scLre.nd rfl (Or.inl rfl) (pe_callB call_len_seq (by rfl) T.len (by decide +kernel) (pa_cons (pv 3) pa_nil)))
        (pss_cons (ps_for PassesOwn.never rfl (pi_list (pv 0)) (pg_tup rfl (pgs_cons (pg_name (i := 6) scLre.nd rfl (Or.inl rfl)) (pgs_cons (pg_name (i := 7) scLre.nd rfl (Or.inl rfl)) pgs_nil)))
        (pss_cons (ps_if (PW.pt (pw_and (pt_cmpR op_in_seq (pv 6) (pv 3) (by rfl)) (pw_and (pt_cmpR op_in_seq (pv 7) (pv 2) (by rfl)) (pw_and1 (pt_cmpR op_notIn_seq (pv 7) (pv 3) (by rfl))))))
          (pss_one (ps_expr (pe_bm PySem.F.plainAttrs_list PySem.F.slot_list_append PySem.F.type_list_append mt_append (pv 3) (pa_cons (pv 7) pa_nil))))
          pss_nil)
          (pss_one (ps_if (PW.pt (pw_and (pt_cmpR op_in_seq (pv 7) (pv 3) (by rfl)) (pw_and (pt_cmpR op_in_seq (pv 6) (pv 2) (by rfl)) (pw_and1 (pt_cmpR op_notIn_seq (pv 6) (pv 3) (by rfl))))))
          (pss_one (ps_expr (pe_bm PySem.F.plainAttrs_list PySem.F.slot_list_append PySem.F.type_list_append mt_append (pv 3) (pa_cons (pv 6) pa_nil))))
          pss_nil))))
        (pss_one (ps_if (pt_cmpR op_eqI (pe_callB call_len_seq (by rfl) T.len (by decide +kernel) (pa_cons (pv 3) pa_nil)) (pv 5) (nomark _))
        (pss_one (ps_break))
        pss_nil)))))
      (pss_one (ps_ret (pe_callB cr_sorted (by rfl) T.sorted (by decide +kernel) (pa_cons (pv 3) pa_nil))))))), ?_⟩
    walk_at "rd"
    refine ⟨Nat.zero_le _, fun fnd nf => ?_⟩
    have s1 : Same H (upd H fnd (HO.lst [])) := same_upd nf
    refine ⟨o, _, rfl, ho.same s1, rfl, flI _, ?_⟩
    rw [inI]
    refine ⟨_, rfl, ?_⟩
    by_cases m : s ∈ R
    rw [decide_eq_true m]
    refine iteT ?_
    walk_at "rd"
    refine ⟨.inl ⟨rfl, _, SqL.of upd_same⟩, [], upd_same, by decide, ?_⟩
    have s2 : Same H (upd (upd H fnd (HO.lst [])) fnd (HO.lst ([] ++ [V.int s]))) := same_ch s1 nf
    have pk : ∃ F0 : List Int, upd (upd H fnd (HO.lst [])) fnd (HO.lst ([] ++ [V.int s])) fnd = some (.lst (F0.map V.int)) ∧ FInv D R s F0 :=
      ⟨[s], upd_same, (by simp), fun x hx => (by rw [List.mem_singleton.mp hx]; exact .base m), fun _ => List.mem_cons_self⟩
    generalize upd (upd H fnd (HO.lst [])) fnd (HO.lst ([] ++ [V.int s])) = H1 at s2 pk
    rotate_left
    rw [decide_eq_false m]
    refine iteF ?_
    have s2 := s1
    have pk : ∃ F0 : List Int, upd H fnd (HO.lst []) fnd = some (.lst (F0.map V.int)) ∧ FInv D R s F0 := ⟨[], upd_same, List.nodup_nil, fun x hx => (by cases hx), fun z => absurd z m⟩
    generalize upd H fnd (HO.lst []) = H1 at s1 s2 pk
    all_goals
      clear s1
      obtain ⟨F0, hF0, fi0⟩ := pk
      have ul : us.length = D.length := pl.len
      have flen : ∀ F : List Int, FInv D R s F → F.length ≤ R.length := fun F fi => int_sub_len fi.nd (fun x hx => (fi.rc x hx).mem) hR
      refine for_iterW ?_
      walk_at "rd"
      obtain ⟨Pv, hPv⟩ : ∃ Pv : Nat → L2.St → Hp → Prop, Pv = (fun i σ H' => ∃ (F : List Int) (v4 v5 v6 v7 : Option V), σ = [some (.ref l), some (.int s), some (.ref o), some (.ref fnd), v4, v5, v6, v7] ∧ Same H H' ∧ H' fnd = some (.lst (F.map V.int)) ∧ FInv D R s F ∧ i ≤ F.length) := ⟨_, rfl⟩
      refine ⟨R.map V.int, ho.same s2, by rw [List.length_map]; omega, by rw [List.length_map]; omega, for_range (lo := 0) (n := (((R.map V.int).length : Nat) : Int).toNat) Pv (by rw [hPv]; exact ⟨F0, none, none, none, none, rfl, s2, hF0, fi0, Nat.zero_le _⟩) (fun i σ H2 hi pv => ?body) (fun σ H2 pv => ?done)⟩
      case done =>
        rw [hPv] at pv
        obtain ⟨F, v4, v5, v6, v7, rfl, sm, hF, fi, le⟩ := pv
        rw [List.length_map, Int.toNat_natCast] at le
        have clo := fi.full hR le
        have fl := flen F fi
        walk_at "rd"
        refine ⟨_, F, rfl, SqL.of hF, by omega, fun ys t pm so nt => ?_⟩
        exact ret ys t _ ⟨up_of pm fi.nd so, fun x => pm.mem_iff.trans (fi.all clo x)⟩ (sm.trans (same_upd nt)) (sm.free nt) upd_same
      case body =>
        rw [hPv] at pv
        obtain ⟨F, v4, v5, v6, v7, rfl, sm, hF, fi, le⟩ := pv
        have hl2 := sm _ _ hl
        have pl2 := pl.kt (KT.same sm)
        walk_at "rg"
        refine ⟨_, rfl, fnd, rfl, F.map V.int, .inl (SqL.of hF), ?_⟩
        walk_at "rg"
        refine for_iterW ?_
        obtain ⟨Pw, hPw⟩ : ∃ Pw : Nat → L2.St → Hp → Prop, Pw = (fun j σ H' => ∃ (G : List Int) (v6 v7 : Option V), σ = [some (.ref l), some (.int s), some (.ref o), some (.ref fnd), some (.int (0 + (i : Int))), some (.int ((F.map V.int).length : Nat)), v6, v7] ∧ Same H H' ∧ H' fnd = some (.lst ((F ++ G).map V.int)) ∧ FInv D R s (F ++ G) ∧ (G = [] → Cl1 R F (D.take j))) := ⟨_, rfl⟩
        refine ⟨_, rfl, l, rfl, ⟨_, SqL.of hl2⟩, for_list (K := K) (a := l) (xs := us) Pw (by rw [hPw]; exact ⟨[], v6, v7, rfl, sm, by rw [List.append_nil]; exact hF, by rw [List.append_nil]; exact fi, fun _ d hd => by rw [List.take_zero] at hd; cases hd⟩) (fun j σ H' _ pv => by rw [hPw] at pv; obtain ⟨_, _, _, _, s5, _⟩ := pv; exact SqL.of (s5 _ _ hl)) (fun j v σ H3 gv pv => ?inner) (fun σ H3 pv => ?after)⟩
        case after =>
          rw [hPw] at pv
          obtain ⟨G, v6, v7, rfl, s5, hG, fi5, cl5⟩ := pv
          rw [ul, List.take_length] at cl5
          have fl := flen _ fi5
          rw [List.length_append] at fl
          walk_at "rd"
          refine ⟨_, .inl (SqL.of hG), ?_⟩
          rw [List.length_map, List.length_map, List.length_append]
          cases G with
          | nil =>
            rw [List.append_nil] at hG fi5
            refine ite2 (fun _ => ?_) (fun z => (by simp at z))
            refine ⟨_, F, rfl, SqL.of hG, by omega, fun ys t pm so nt => ?_⟩
            exact ret ys t _ ⟨up_of pm fi5.nd so, fun x => pm.mem_iff.trans (fi5.all (cl5 rfl).clo x)⟩ (s5.trans (same_upd nt)) (s5.free nt) upd_same
          | cons g0 G =>
            refine ite2 (fun z => absurd z (by rw [List.length_cons]; omega)) (fun _ => ?_)
            rw [hPv]
            exact ⟨F ++ g0 :: G, _, _, _, _, rfl, s5, hG, fi5, by rw [List.length_append, List.length_cons]; omega⟩
        case inner =>
          have nxt : ∀ (G : List Int) (v6 v7 : Option V) (H' : Hp), Same H H' → H' fnd = some (.lst ((F ++ G).map V.int)) → FInv D R s (F ++ G) → (G = [] → Cl1 R F (D.take (j + 1))) → Pw (j + 1) [some (.ref l), some (.int s), some (.ref o), some (.ref fnd), some (.int (0 + (i : Int))), some (.int ((F.map V.int).length : Nat)), v6, v7] H' := fun G v6 v7 H' h1 h2 h3 h4 => by
            rw [hPw]
            exact ⟨G, v6, v7, rfl, h1, h2, h3, h4⟩
          rw [hPw] at pv
          obtain ⟨G, v6, v7, rfl, s5, hG, fi5, cl5⟩ := pv
          obtain ⟨d, gd, td, rfl, htd⟩ := lget pl gv
          have fl := flen _ fi5
          have dD : d ∈ D := List.mem_of_getElem? gd
          have tk : D.take (j + 1) = D.take j ++ [d] := by rw [List.take_add_one, gd]; rfl
          rw [tk] at nxt
          walk_at "rg"
          refine ⟨_, SqT.of (s5 _ _ htd), rfl, _, _, rfl, _, _, rfl, rfl, ?_⟩
          walk_at "rg"
          refine half (R := R) rfl rfl rfl rfl hG (ho.same s5) (by omega) (fun n1 => ?_) (fun a1 b1 c1 => ?_)
          · refine half (R := R) rfl rfl rfl rfl hG (ho.same s5) (by omega) (fun n2 => ?_) (fun a2 b2 c2 => ?_)
            · refine nxt G _ _ H3 s5 hG fi5 fun e => ?_
              subst e
              rw [List.append_nil] at n1 n2
              intro c hc
              rcases List.mem_append.mp hc with z | z
              · exact cl5 rfl c z
              · rw [List.mem_singleton.mp z]
                exact ⟨fun h1 h2 => Classical.byContradiction fun h3 => n1 ⟨h1, h2, h3⟩, fun h1 h2 => Classical.byContradiction fun h3 => n2 ⟨h1, h2, h3⟩⟩
            · rw [List.append_assoc]
              refine nxt (G ++ [d.1]) _ _ _ (same_ch s5 nf) (by rw [upd_same]) ?_ (fun e => absurd e (by simp))
              rw [← List.append_assoc]
              exact fi5.add a2 b2 (.inr dD) c2
          · have fi6 := fi5.add a1 b1 (.inl dD) c1
            have fl6 := flen _ fi6
            have s6 := same_ch (o := HO.lst ((F ++ G ++ [d.2]).map V.int)) s5 nf
            have hG6 : upd H3 fnd (HO.lst ((F ++ G ++ [d.2]).map V.int)) fnd = some (.lst ((F ++ G ++ [d.2]).map V.int)) := upd_same
            generalize upd H3 fnd (HO.lst ((F ++ G ++ [d.2]).map V.int)) = H6 at s6 hG6
            refine half (R := R) rfl rfl rfl rfl hG6 (ho.same s6) (by omega) (fun n2 => ?_) (fun a2 b2 c2 => ?_)
            · refine nxt (G ++ [d.2]) _ _ H6 s6 (by rw [← List.append_assoc]; exact hG6) (by rw [← List.append_assoc]; exact fi6) (fun e => absurd e (by simp))
            · rw [List.append_assoc, List.append_assoc]
              refine nxt (G ++ ([d.2] ++ [d.1])) _ _ _ (same_ch s6 nf) (by rw [upd_same]) ?_ (fun e => absurd e (by simp))
              rw [← List.append_assoc, ← List.append_assoc]
              exact fi6.add a2 b2 (.inr dD) c2
theorem scLpc : FnScope ["doors", "rooms", "found", "done", "room", "piece"] ["doors", "rooms"] (defScope sLpc) := ⟨rfl, rfl, rfl, by decide +kernel, rfl, by decide +kernel, by decide +kernel⟩
def spLpc (K : PySem.W.Frag) : Sp := fun vs H Q _ => ∃ (l o : Addr) (us : List V) (D : List Pr) (R : List Int), vs = [.ref l, .ref o] ∧ H l = some (.lst us) ∧ PL H us D ∧ SeqI K H o R ∧ R.length < 64 ∧ (∀ x ∈ R, 0 ≤ x) ∧
  ∀ (L : List (List Int)) (ws : List V) (t : Addr) (H' : Hp), Pcs D R L → Same H H' → H t = none → H' t = some (.lst ws) → RL H' ws L → Q (.ref t) H'
theorem ok_lpc {f fR : Addr} {fd fdR : FuncData} (F : Fun K "_law_pieces" "_law_pieces" sLpc f fd) (T : Bi mg) (d__law_reach : Df P w K mg base "_law_reach" ["doors", "start", "inside"] 1 (spLre K) fR fdR) : FnOk P w K mg base CX0 2 f fd ["doors", "rooms"] (spLpc K) := by
  refine F.ok scLpc (fun vs H Q E h => ?_) (fun cdv A outer s0 H vs Q E hr h => ?_)
  · obtain ⟨l, o, us, D, R, rfl, _⟩ := h
    rfl
  · obtain ⟨l, o, us, D, R, rfl, hl, pl, ho, h64, hR, ret⟩ := h
    refine ⟨_, (pss_cons (ps_set (i := 2) scLpc.nd rfl (Or.inl rfl) (pe_lst pa_nil))
      (pss_cons (ps_set (i := 3) scLpc.nd rfl (Or.inl rfl) (pe_lst pa_nil))
      (pss_cons (ps_for PassesOwn.never rfl (pi_list (pe_callB cr_sortTup (by rfl) T.sorted (by decide +kernel) (pa_cons (pv 1) pa_nil))) (pg_name (i := 4) scLpc.nd rfl (Or.inl rfl))
      (pss_one (ps_if (pt_cmpR op_notIn_seq (pv 4) (pv 3) (by rfl))
        (pss_cons (ps_set (i := 5) scLpc.nd rfl (Or.inl rfl) (pe_call d__law_reach.ok (hr.mono (by decide)) (by rfl) d__law_reach.at_ d__law_reach.kp d__law_reach.b .nil pass0 (pa_cons (pv 0) (pa_cons (pv 4) (pa_cons (pv 1) pa_nil)))))
          (pss_cons (ps_expr (pe_bm PySem.F.plainAttrs_list PySem.F.slot_list_extend PySem.F.type_list_extend mt_extend (pv 3) (pa_cons (pv 5) pa_nil)))
          (pss_one (ps_expr (pe_bm PySem.F.plainAttrs_list PySem.F.slot_list_append PySem.F.type_list_append mt_append (pv 2) (pa_cons (pe_callTy call_tuple_of (by rfl) T.tuple (by decide +kernel) (pa_cons (pv 5) pa_nil)) pa_nil))))))
        pss_nil)))
      (pss_one (ps_ret (pv 2)))))), ?_⟩
    walk_at "rd"
    refine ⟨Nat.zero_le _, fun fnd nf => ⟨Nat.zero_le _, fun dn nd => ?_⟩⟩
    have s1 : Same H (upd (upd H fnd (HO.lst [])) dn (HO.lst [])) := (same_upd nf).trans (same_upd nd)
    have hf1 : upd (upd H fnd (HO.lst [])) dn (HO.lst []) fnd = some (.lst []) := same_upd nd _ _ upd_same
    have hd1 : upd (upd H fnd (HO.lst [])) dn (HO.lst []) dn = some (.lst []) := upd_same
    have nd0 : H dn = none := (same_upd nf).free nd
    have nfd : fnd ≠ dn := ne_of_none upd_same nd
    generalize upd (upd H fnd (HO.lst [])) dn (HO.lst []) = H1 at s1 hf1 hd1
    refine for_iterW ?_
    walk_at "rd"
    refine ⟨o, R, rfl, ho.same s1, h64, fun S lf0 pS sS nl0 => ?_⟩
    have s2 := s1.trans (same_upd (o := HO.lst (S.map V.int)) nl0)
    have hf2 : upd H1 lf0 (HO.lst (S.map V.int)) fnd = some (.lst []) := same_upd nl0 _ _ hf1
    have hd2 : upd H1 lf0 (HO.lst (S.map V.int)) dn = some (.lst []) := same_upd nl0 _ _ hd1
    have hS2 : upd H1 lf0 (HO.lst (S.map V.int)) lf0 = some (.lst (S.map V.int)) := upd_same
    have nlf : fnd ≠ lf0 := ne_of_none hf1 nl0
    have nld : dn ≠ lf0 := ne_of_none hd1 nl0
    generalize upd H1 lf0 (HO.lst (S.map V.int)) = H2 at s2 hf2 hd2 hS2
    have sl : S.length < 64 := by rw [pS.length_eq]; exact h64
    have smm : ∀ x, x ∈ S ↔ x ∈ R := fun x => pS.mem_iff
    obtain ⟨Pv, hPv⟩ : ∃ Pv : Nat → L2.St → Hp → Prop, Pv = (fun j σ H' => ∃ (L : List (List Int)) (ws : List V) (dd : List Int) (v4 v5 : Option V), σ = [some (.ref l), some (.ref o), some (.ref fnd), some (.ref dn), v4, v5] ∧ Same H H' ∧ H' fnd = some (.lst ws) ∧ RL H' ws L ∧ H' dn = some (.lst (dd.map V.int)) ∧ H' lf0 = some (.lst (S.map V.int)) ∧ LInv D R S j L dd ∧ L.length ≤ j ∧ dd.length ≤ 64 * j) := ⟨_, rfl⟩
    refine ⟨lf0, rfl, ⟨_, SqL.of hS2⟩, for_list (K := K) (a := lf0) (xs := S.map V.int) Pv (by rw [hPv]; exact ⟨[], [], [], none, none, rfl, s2, hf2, RL.nil0 _, hd2, hS2, LInv.start D R S, Nat.le_refl _, Nat.zero_le _⟩) (fun j σ H' _ pv => by rw [hPv] at pv; obtain ⟨_, _, _, _, _, _, _, _, _, _, hS, _⟩ := pv; exact SqL.of hS) (fun j v σ H3 gv pv => ?body) (fun σ H3 pv => ?done)⟩
    case done =>
      rw [hPv] at pv
      obtain ⟨L, ws, dd, v4, v5, rfl, sm, hf, rl, hd, hS, li, _, _⟩ := pv
      rw [List.length_map] at li
      walk_at "rd"
      exact ret L ws fnd H3 (li.fin smm) sm nf hf rl
    case body =>
      have nxt : ∀ (L : List (List Int)) (ws : List V) (dd : List Int) (v4 v5 : Option V) (H' : Hp), Same H H' → H' fnd = some (.lst ws) → RL H' ws L → H' dn = some (.lst (dd.map V.int)) → H' lf0 = some (.lst (S.map V.int)) → LInv D R S (j + 1) L dd → L.length ≤ j + 1 → dd.length ≤ 64 * (j + 1) → Pv (j + 1) [some (.ref l), some (.ref o), some (.ref fnd), some (.ref dn), v4, v5] H' := fun L ws dd v4 v5 H' h1 h2 h3 h4 h5 h6 h7 h8 => by
        rw [hPv]
        exact ⟨L, ws, dd, v4, v5, rfl, h1, h2, h3, h4, h5, h6, h7, h8⟩
      rw [hPv] at pv
      obtain ⟨L, ws, dd, v4, v5, rfl, sm, hf, rl, hd, hS, li, ll, dl⟩ := pv
      rw [List.getElem?_map] at gv
      cases gd : S[j]? with
      | none => rw [gd] at gv; cases gv
      | some x =>
        rw [gd] at gv
        have ev := Option.some.inj gv
        subst ev
        have hj : j < S.length := (List.getElem?_eq_some_iff.mp gd).1
        walk_at "rd"
        refine ⟨dn, _, rfl, .inl (SqL.of hd), rfl, flI _, ?_⟩
        rw [inI]
        refine ⟨_, rfl, ?_⟩
        by_cases m : x ∈ dd
        · rw [decide_eq_true m]
          refine iteF ?_
          exact nxt L ws dd _ _ H3 sm hf rl hd hS (li.skip gd m) (by omega) (by omega)
        · rw [decide_eq_false m]
          refine iteT ?_
          refine ⟨l, o, x, us, D, R, rfl, sm _ _ hl, pl.kt (KT.same sm), ho.same sm, h64, hR, fun ys t H4 pc s4 nt ht => ?_⟩
          walk_at "rd"
          have yl : ys.length ≤ R.length := int_sub_len (List.Pairwise.imp (fun h => by omega) pc.1) (fun y hy => ((pc.2 y).mp hy).mem) hR
          have hd4 := s4 _ _ hd
          have hf4 := s4 _ _ hf
          have hS4 := s4 _ _ hS
          have rl4 := rl.kt (KT.same s4)
          have s04 := sm.trans s4
          have tdn : t ≠ dn := (ne_of_none hd nt).symm
          have nd0' := nd0
          refine ⟨.inl ⟨rfl, _, SqL.of hd4⟩, _, hd4, _, ht, Nat.le_of_lt (len_big (by rw [List.length_map, List.length_map]; omega)), ?_⟩
          have s5 := same_ch (o := HO.lst (dd.map V.int ++ ys.map V.int)) s04 nd0
          have hf5 : upd H4 dn (HO.lst (dd.map V.int ++ ys.map V.int)) fnd = some (.lst ws) := by rw [upd_ne nfd]; exact hf4
          have ht5 : upd H4 dn (HO.lst (dd.map V.int ++ ys.map V.int)) t = some (.lst (ys.map V.int)) := by rw [upd_ne tdn]; exact ht
          have hS5 : upd H4 dn (HO.lst (dd.map V.int ++ ys.map V.int)) lf0 = some (.lst (S.map V.int)) := by rw [upd_ne nld.symm]; exact hS4
          have hd5 : upd H4 dn (HO.lst (dd.map V.int ++ ys.map V.int)) dn = some (.lst ((dd ++ ys).map V.int)) := by rw [upd_same, List.map_append]
          have rl5 : RL (upd H4 dn (HO.lst (dd.map V.int ++ ys.map V.int))) ws L := rl4.kt (KT.lst hd4)
          generalize upd H4 dn (HO.lst (dd.map V.int ++ ys.map V.int)) = H5 at s5 hf5 ht5 hS5 hd5 rl5
          refine ⟨.inl ⟨rfl, _, SqL.of hf5⟩, _, .inl ⟨SqL.of ht5, fun t2 nt2 => ?_⟩⟩
          have s6 := s5.trans (same_upd (o := HO.tup (ys.map V.int)) nt2)
          have hf6 : upd H5 t2 (HO.tup (ys.map V.int)) fnd = some (.lst ws) := same_upd nt2 _ _ hf5
          have ht6 : upd H5 t2 (HO.tup (ys.map V.int)) t2 = some (.tup (ys.map V.int)) := upd_same
          refine ⟨ws, hf6, len_big (by rw [rl.len]; omega), nxt (L ++ [ys]) (ws ++ [.ref t2]) (dd ++ ys) _ _ _ (same_ch s6 nf) upd_same ?_ ?_ ?_ (li.step gd smm sS m pc) (by rw [List.length_append]; show L.length + 1 ≤ j + 1; omega) (by rw [List.length_append]; omega)⟩
          · exact RL.snoc ((rl5.kt (KT.new nt2)).kt (KT.lst hf6)) ⟨t2, rfl, by rw [upd_ne (ne_of ht6 hf6 (by intro z; cases z))]; exact ht6⟩
          · rw [upd_ne nfd.symm]
            exact same_upd nt2 _ _ hd5
          · rw [upd_ne nlf.symm]
            exact same_upd nt2 _ _ hS5
end

abbrev sSpell : Stmt := topS 24
abbrev sPool : Stmt := topS 25
abbrev sOpe : Stmt := topS 26
abbrev sCw : Stmt := topS 27
abbrev sHold : Stmt := topS 28
theorem for_iter {wi : TI} {g : TG} {tb : TS} {D : Ends} {σ : L2.St} {H : Hp} (h : wi σ H fun J H1 => tFor (fun _ H R => R J H) g tb D σ H1) : tFor wi g tb D σ H := h
section
variable {P : Program} {w : World} {K : PySem.W.Frag} {mg : Str → Option Value} {base : Heap}
theorem scSpell : FnScope ["numbers", "at", "letters", "rest", "word", "k"] ["numbers", "at"] (defScope sSpell) := ⟨rfl, rfl, rfl, by decide +kernel, rfl, by decide +kernel, by decide +kernel⟩
def spSpell (K : PySem.W.Frag) : Sp := fun vs H Q _ => ∃ (a : Addr) (ns : List Int) (at_ : Nat), vs = [.ref a, .int at_] ∧ SqL K H a (ns.map V.int) ∧ at_ + 4 < ns.length ∧ ∀ z : Str, z.length ≤ 8 → Q (.str z) H
theorem letters_at {j : Nat} (h : j < 26) : ∃ c, atI (Str.ofString "abcdefghijklmnopqrstuvwxyz").cps.toList ((j : Nat) : Int) = some c := by
  have hl : (Str.ofString "abcdefghijklmnopqrstuvwxyz").cps.toList.length = 26 := by decide +kernel
  exact ⟨_, atI_nat (List.getElem?_eq_getElem (by rw [hl]; exact h))⟩
theorem ok_spell {f : Addr} {fd : FuncData} (F : Fun K "_law_spelled" "_law_spelled" sSpell f fd) (T : Bi mg) : FnOk P w K mg base CX0 1 f fd ["numbers", "at"] (spSpell K) := by
  refine F.ok scSpell (fun vs H Q E h => ?_) (fun cdv A outer s H vs Q E hr h => ?_)
  · obtain ⟨a, ns, at_, rfl, _⟩ := h
    rfl
  · obtain ⟨a, ns, at_, rfl, hS, hn, q⟩ := h
    have gn : ∀ (j : Nat) (hj : j < ns.length), (ns.map V.int)[j]? = some (.int ns[j]) := fun j hj => by
      rw [List.getElem?_map, List.getElem?_eq_getElem hj]
      rfl
    refine ⟨_, (pss_cons (ps_set (i := 2) scSpell.nd rfl (Or.inl rfl) pe_str)
      (pss_cons (ps_set (i := 3) scSpell.nd rfl (Or.inl rfl) (pe_op op_add (pe_callTy cr_intI (by rfl) T.int (by decide +kernel) (pa_cons (pe_ix ix_list (pv 0) (pe_op op_add (pv 1) pe_int) (fun _ _ => rfl)) pa_nil)) (pe_op op_mul pe_int (pe_callTy cr_intI (by rfl) T.int (by decide +kernel) (pa_cons (pe_ix ix_list (pv 0) (pe_op op_add (pv 1) pe_int) (fun _ _ => rfl)) pa_nil)))))
      (pss_cons (ps_set (i := 3) scSpell.nd rfl (Or.inl rfl) (pe_op op_add (pe_op op_add (pv 3) (pe_op op_mul (pe_op op_pow pe_int pe_int) (pe_callTy cr_intI (by rfl) T.int (by decide +kernel) (pa_cons (pe_ix ix_list (pv 0) (pe_op op_add (pv 1) pe_int) (fun _ _ => rfl)) pa_nil)))) (pe_op op_mul (pe_op op_pow pe_int pe_int) (pe_callTy cr_intI (by rfl) T.int (by decide +kernel) (pa_cons (pe_ix ix_list (pv 0) (pe_op op_add (pv 1) pe_int) (fun _ _ => rfl)) pa_nil)))))
      (pss_cons (ps_set (i := 4) scSpell.nd rfl (Or.inl rfl) pe_str)
      (pss_cons (ps_for PassesOwn.never rfl (pi_range1 (by rfl) T.range (pa_cons (pe_op op_add pe_int (pe_op op_mod (pe_callTy cr_intI (by rfl) T.int (by decide +kernel) (pa_cons (pe_ix ix_list (pv 0) (pv 1) (fun _ _ => rfl)) pa_nil)) pe_int)) pa_nil)) (pg_name (i := 5) scSpell.nd rfl (Or.inl rfl))
      (pss_cons (ps_set (i := 4) scSpell.nd rfl (Or.inl rfl) (pe_op op_add_str (pv 4) (pe_ix ix_str (pv 2) (pe_op op_mod (pe_callTy cr_intI (by rfl) T.int (by decide +kernel) (pa_cons (pv 3) pa_nil)) pe_int) (fun _ _ => rfl))))
        (pss_one (ps_set (i := 3) scSpell.nd rfl (Or.inl rfl) (pe_op op_fdiv (pv 3) pe_int)))))
      (pss_one (ps_ret (pv 4)))))))), ?_⟩
    walk_at "rd"
    have at4 : ∀ j : Nat, j ≤ 4 → ∃ x, (ns.map V.int)[at_ + j]? = some (.int x) := fun j hj => ⟨_, gn (at_ + j) (by omega)⟩
    obtain ⟨x0, g0⟩ := at4 0 (by omega)
    obtain ⟨x1, g1⟩ := at4 1 (by omega)
    obtain ⟨x2, g2⟩ := at4 2 (by omega)
    obtain ⟨x3, g3⟩ := at4 3 (by omega)
    obtain ⟨x4, g4⟩ := at4 4 (by omega)
    refine ⟨_, hS, .int x1, at_of (j := at_ + 1) (by omega) g1, x1, rfl, _, hS, .int x2, at_of (j := at_ + 2) (by omega) g2, x2, rfl, .inl (by decide), ⟨by decide, by decide, by decide⟩, _, hS, .int x3, at_of (j := at_ + 3) (by omega) g3, x3, rfl, .inl (by decide), ⟨by decide, by decide, by decide⟩, _, hS, .int x4, at_of (j := at_ + 4) (by omega) g4, x4, rfl, .inl (by decide), ?_⟩
    generalize x1 + 997 * x2 + 997 ^ Int.toNat 2 * x3 + 997 ^ Int.toNat 3 * x4 = rest0
    have m0 := Int.emod_nonneg x0 (show (8 : Int) ≠ 0 by decide)
    have m1 := Int.emod_lt_of_pos x0 (show (0 : Int) < 8 by decide)
    obtain ⟨Pv, hPv⟩ : ∃ Pv : Nat → L2.St → Hp → Prop, Pv = (fun i σ H' => ∃ (rest : Int) (z : Str) (v5 : Option V), σ = [some (.ref a), some (.int at_), some (.str (Str.ofString "abcdefghijklmnopqrstuvwxyz")), some (.int rest), some (.str z), v5] ∧ H' = H ∧ z.length = i) := ⟨_, rfl⟩
    refine for_iter ?_
    walk_at "rd"
    refine ⟨_, hS, .int x0, at_of (j := at_ + 0) (by omega) g0, x0, rfl, by decide, by omega, by omega, for_range (lo := 0) (n := (1 + x0 % 8).toNat) Pv (by rw [hPv]; exact ⟨rest0, _, none, rfl, rfl, by decide +kernel⟩) (fun i σ H' hi pv => ?_) (fun σ H' pv => ?_)⟩
    · have nxt : ∀ rest z v5, z.length = i + 1 → Pv (i + 1) [some (.ref a), some (.int at_), some (.str (Str.ofString "abcdefghijklmnopqrstuvwxyz")), some (.int rest), some (.str z), v5] H := fun rest z v5 h => by
        rw [hPv]
        exact ⟨rest, z, v5, rfl, rfl, h⟩
      rw [hPv] at pv
      obtain ⟨rest, z, v5, rfl, rfl, lz⟩ := pv
      have k0 := Int.emod_nonneg rest (show (26 : Int) ≠ 0 by decide)
      have k1 := Int.emod_lt_of_pos rest (show (0 : Int) < 26 by decide)
      obtain ⟨j, ej⟩ : ∃ j : Nat, rest % 26 = j := ⟨(rest % 26).toNat, by omega⟩
      obtain ⟨c, gc⟩ := letters_at (j := j) (by omega)
      walk_at "rd"
      rw [ej]
      refine ⟨by decide, by decide +kernel, c, gc, ?_, ⟨by decide, by decide⟩, nxt _ _ _ ?_⟩
      · have e1 : (Str.mk #[c]).length = 1 := rfl
        rw [e1]
        exact Nat.le_of_lt (len_big (by omega))
      · rw [Str.length_append, lz]
        rfl
    · rw [hPv] at pv
      obtain ⟨rest, z, v5, rfl, rfl, lz⟩ := pv
      walk_at "rd"
      exact q z (by omega)
theorem scPool : FnScope ["numbers", "at", "many", "pool", "k", "own", "way", "cut"] ["numbers", "at", "many"] (defScope sPool) := ⟨rfl, rfl, rfl, by decide +kernel, rfl, by decide +kernel, by decide +kernel⟩
def Texts (n : Nat) (Z : List Str) : Prop := Z.length = n ∧ ∀ z ∈ Z, z.length ≤ 16
def spPool (K : PySem.W.Frag) : Sp := fun vs H Q _ => ∃ (a : Addr) (ns : List Int) (at_ m : Nat), vs = [.ref a, .int at_, .int m] ∧ SqL K H a (ns.map V.int) ∧ at_ + 5 * m < ns.length ∧ 1 ≤ m ∧ m ≤ 100 ∧ ∀ Z p H', Texts m Z → Same H H' → H p = none → H' p = some (.lst (Z.map V.str)) → Q (.ref p) H'
theorem ok_pool {f fS : Addr} {fd fdS : FuncData} (F : Fun K "_law_pool" "_law_pool" sPool f fd) (T : Bi mg) (d__law_spelled : Df P w K mg base "_law_spelled" ["numbers", "at"] 1 (spSpell K) fS fdS) : FnOk P w K mg base CX0 2 f fd ["numbers", "at", "many"] (spPool K) := by
  refine F.ok scPool (fun vs H Q E h => ?_) (fun cdv A outer s H vs Q E hr h => ?_)
  · obtain ⟨a, ns, at_, m, rfl, _⟩ := h
    rfl
  · obtain ⟨a, ns, at_, m, rfl, hS, hn, m1, m100, q⟩ := h
    refine ⟨_, (pss_cons (ps_set (i := 3) scPool.nd rfl (Or.inl rfl) (pe_lst (pa_cons (pe_call d__law_spelled.ok (hr.mono (by decide)) (by rfl) d__law_spelled.at_ d__law_spelled.kp d__law_spelled.b .nil pass0 (pa_cons (pv 0) (pa_cons (pv 1) pa_nil))) pa_nil)))
      (pss_cons (ps_for PassesOwn.never rfl (pi_range2 (by rfl) T.range (pa_cons pe_int (pa_cons (pv 2) pa_nil))) (pg_name (i := 4) scPool.nd rfl (Or.inl rfl))
      (pss_cons (ps_set (i := 5) scPool.nd rfl (Or.inl rfl) (pe_call d__law_spelled.ok (hr.mono (by decide)) (by rfl) d__law_spelled.at_ d__law_spelled.kp d__law_spelled.b .nil pass0 (pa_cons (pv 0) (pa_cons (pe_op op_add (pv 1) (pe_op op_mul pe_int (pv 4))) pa_nil))))
        (pss_cons (ps_set (i := 6) scPool.nd rfl (Or.inl rfl) (pe_op op_fdiv (pe_callTy cr_intI (by rfl) T.int (by decide +kernel) (pa_cons (pe_ix ix_list (pv 0) (pe_op op_add (pv 1) (pe_op op_mul pe_int (pv 4))) (fun _ _ => rfl)) pa_nil)) pe_int))
        (pss_cons (ps_set (i := 7) scPool.nd rfl (Or.inl rfl) (pe_op op_mod (pe_callTy cr_intI (by rfl) T.int (by decide +kernel) (pa_cons (pe_op op_fdiv (pv 6) pe_int) pa_nil)) pe_int))
        (pss_cons (ps_if (pt_cmpR op_eqI (pe_op op_mod (pe_callTy cr_intI (by rfl) T.int (by decide +kernel) (pa_cons (pv 6) pa_nil)) pe_int) pe_int (nomark _))
        (pss_one (ps_set (i := 5) scPool.nd rfl (Or.inl rfl) (pe_op op_add_str (pe_slice sl_str (pe_ix ix_list (pv 3) pe_int (fun _ _ => rfl)) po_none (po_some (pv 7))) (pe_slice sl_str (pv 5) (po_some (pv 7)) po_none))))
        pss_nil)
        (pss_cons (ps_if (pt_cmpR op_eqI (pe_op op_mod (pe_callTy cr_intI (by rfl) T.int (by decide +kernel) (pa_cons (pv 6) pa_nil)) pe_int) pe_int (nomark _))
        (pss_one (ps_set (i := 5) scPool.nd rfl (Or.inl rfl) (pe_op op_add_str (pe_slice sl_str (pv 5) po_none (po_some (pv 7))) (pe_slice sl_str (pe_ix ix_list (pv 3) pe_int (fun _ _ => rfl)) (po_some (pv 7)) po_none))))
        pss_nil)
        (pss_one (ps_expr (pe_bm PySem.F.plainAttrs_list PySem.F.slot_list_append PySem.F.type_list_append mt_append (pv 3) (pa_cons (pv 5) pa_nil))))))))))
      (pss_one (ps_ret (pv 3))))), ?_⟩
    walk_at "rd"
    refine ⟨a, ns, at_, rfl, hS, by omega, fun z0 hz0 => ⟨by decide, fun p np => ?_⟩⟩
    refine for_iter ?_
    walk_at "rd"
    obtain ⟨Pv, hPv⟩ : ∃ Pv : Nat → L2.St → Hp → Prop, Pv = (fun i σ H' => ∃ (Z : List Str) (v4 v5 v6 v7 : Option V), σ = [some (.ref a), some (.int at_), some (.int m), some (.ref p), v4, v5, v6, v7] ∧ Same H H' ∧ H' p = some (.lst (Z.map V.str)) ∧ Texts (i + 1) Z ∧ Z[0]? = some z0) := ⟨_, rfl⟩
    refine ⟨by omega, by omega, by omega, by omega, for_range (lo := 1) (n := ((m : Int) - 1).toNat) Pv (by rw [hPv]; exact ⟨[z0], none, none, none, none, rfl, same_upd np, upd_same, ⟨rfl, fun z hz => by rw [List.mem_singleton.mp hz]; omega⟩, rfl⟩) (fun i σ H' hi pv => ?_) (fun σ H' pv => ?_)⟩
    · have nxt : ∀ Z v4 v5 v6 v7 H', Same H H' → H' p = some (.lst (Z.map V.str)) → Texts (i + 1 + 1) Z → Z[0]? = some z0 → Pv (i + 1) [some (.ref a), some (.int at_), some (.int m), some (.ref p), v4, v5, v6, v7] H' := fun Z v4 v5 v6 v7 H' h1 h2 h3 h4 => by
        rw [hPv]
        exact ⟨Z, v4, v5, v6, v7, rfl, h1, h2, h3, h4⟩
      rw [hPv] at pv
      obtain ⟨Z, v4, v5, v6, v7, rfl, sm, hp, tx, gz⟩ := pv
      have hS' := sm.seq hS
      have gn : (ns.map V.int)[at_ + 5 * (i + 1)]? = some (.int (ns[at_ + 5 * (i + 1)]'(by omega))) := by
        rw [List.getElem?_map, List.getElem?_eq_getElem (by omega)]
        rfl
      generalize ns[at_ + 5 * (i + 1)]'(by omega) = x at gn
      have gz2 : (Z.map V.str)[0]? = some (.str z0) := by rw [List.getElem?_map, gz]; rfl
      have fin : ∀ (y : Str) (v4 v5 v6 v7 : Option V), y.length ≤ 16 → Pv (i + 1) [some (.ref a), some (.int at_), some (.int m), some (.ref p), v4, v5, v6, v7] (upd H' p (HO.lst (Z.map V.str ++ [V.str y]))) := fun y v4 v5 v6 v7 hy => by
        refine nxt (Z ++ [y]) _ _ _ _ _ (same_ch sm np) (by rw [upd_same, List.map_append]; rfl) ⟨by rw [List.length_append, tx.1]; rfl, fun z hz => ?_⟩ ?_
        · rcases List.mem_append.mp hz with h | h
          · exact tx.2 z h
          · rw [List.mem_singleton.mp h]
            exact hy
        · rw [List.getElem?_append_left (by rw [tx.1]; omega)]
          exact gz
      have small : (Z.map V.str).length < sizeLine := len_big (by rw [List.length_map, tx.1]; omega)
      have ty : tyV K "list" (.ref p) H' := .inl ⟨rfl, _, SqL.of hp⟩
      walk_at "rd"
      refine ⟨.inl (by decide), a, ns, at_ + 5 * (i + 1), by rw [show (at_ : Int) + 5 * (1 + (i : Int)) = ((at_ + 5 * (i + 1) : Nat) : Int) by omega], hS', by omega, fun own ho => ?_⟩
      simp only [rSlS]
      walk_at "rd"
      have sl : ∀ z : Str, z.length ≤ 8 → ∀ lo hi, (cutS z lo hi).length ≤ 8 := fun z hz lo hi => Nat.le_trans (cutS_length z lo hi) hz
      have cat : ∀ u v : Str, u.length ≤ 8 → v.length ≤ 8 → (u ++ v).length ≤ 16 := fun u v h1 h2 => by
        rw [Str.length_append]
        omega
      have big8 : ∀ z : Str, z.length ≤ 8 → z.length ≤ sizeLine := fun z hz => Nat.le_of_lt (len_big (by omega))
      have big16 : ∀ u v : Str, u.length ≤ 8 → v.length ≤ 8 → u.length + v.length ≤ sizeLine := fun u v h1 h2 => Nat.le_of_lt (len_big (by omega))
      refine ⟨.inl (by decide), _, hS', .int x, at_of (j := at_ + 5 * (i + 1)) (by omega) gn, x, rfl, ⟨by decide, by decide⟩, ⟨by decide, by decide⟩, by decide, by decide, ?_⟩
      generalize x / 8 / 3 % 8 = cut
      refine ite2 (fun w1 => ?_) (fun w1 => ⟨by decide, ite2 (fun w2 => ?_) (fun w2 => ⟨ty, _, hp, small, fin own _ _ _ _ (by omega)⟩)⟩)
      · refine ⟨_, SqL.of hp, .str z0, at_of (j := 0) rfl gz2, z0, rfl, big8 z0 hz0, big8 own ho, big16 _ _ (sl _ hz0 _ _) (sl _ ho _ _), by decide, ?_⟩
        exact ite2 (fun w2 => absurd w2 (by omega)) (fun _ => ⟨ty, _, hp, small, fin _ _ _ _ _ (cat _ _ (sl _ hz0 _ _) (sl _ ho _ _))⟩)
      · exact ⟨big8 own ho, _, SqL.of hp, .str z0, at_of (j := 0) rfl gz2, z0, rfl, big8 z0 hz0, big16 _ _ (sl _ ho _ _) (sl _ hz0 _ _), ty, _, hp, small, fin _ _ _ _ _ (cat _ _ (sl _ ho _ _) (sl _ hz0 _ _))⟩
    · rw [hPv] at pv
      obtain ⟨Z, v4, v5, v6, v7, rfl, sm, hp, tx, gz⟩ := pv
      walk_at "rd"
      exact q Z p H' ⟨by rw [tx.1]; omega, tx.2⟩ sm np hp
theorem scOpe : FnScope ["numbers", "doors", "way", "every", "k"] ["numbers", "doors"] (defScope sOpe) := ⟨rfl, rfl, rfl, by decide +kernel, rfl, by decide +kernel, by decide +kernel⟩
theorem Drs.sub {r : Nat} {D E : List Pr} (h : Drs r D) (s : E.Sublist D) : Drs r E := ⟨List.Pairwise.sublist s h.asc, fun d hd => h.ok d (s.subset hd)⟩
def spOpe (K : PySem.W.Frag) : Sp := fun vs H Q _ => ∃ (a l : Addr) (ns : List Int) (us : List V) (D : List Pr) (r : Nat), vs = [.ref a, .ref l] ∧ SqL K H a (ns.map V.int) ∧ H l = some (.lst us) ∧ PL H us D ∧ Drs r D ∧ r ≤ 12 ∧ 1 + D.length ≤ ns.length ∧
  ∀ (E : List Pr) (ws : List V) (t : Addr) (H' : Hp), Drs r E → Same H H' → H t = none → H' t = some (.lst ws) → PL H' ws E → Q (.ref t) H'
theorem ok_ope {f : Addr} {fd : FuncData} (F : Fun K "_law_opening" "_law_opening" sOpe f fd) (T : Bi mg) : FnOk P w K mg base CX0 1 f fd ["numbers", "doors"] (spOpe K) := by
  refine F.ok scOpe (fun vs H Q E h => ?_) (fun cdv A outer s0 H vs Q E hr h => ?_)
  · obtain ⟨a, l, ns, us, D, r, rfl, _⟩ := h
    rfl
  · obtain ⟨a, l, ns, us, D, r, rfl, hS, hl, pl, drs, r12, hn, ret⟩ := h
    refine ⟨_, (pss_cons (ps_set (i := 2) scOpe.nd rfl (Or.inr rfl) (pe_op op_mod (pe_callTy cr_intI (by rfl) T.int (by decide +kernel) (pa_cons (pe_ix ix_list (pv 0) pe_int (fun _ _ => rfl)) pa_nil)) pe_int))
      (pss_cons (ps_set (i := 3) scOpe.nd rfl (Or.inr rfl) (pe_ix ix_list (pe_lst (pa_cons pe_int (pa_cons pe_int (pa_cons pe_int (pa_cons pe_int (pa_cons pe_int (pa_cons pe_int (pa_cons pe_int pa_nil)))))))) (pv 2) (fun _ _ => rfl)))
      (pss_one (ps_ret (pe_lc (own := [("k", 4)]) (te := tOp (rIxL K) (tVar 1) (tVar 4)) (tt := tAnd (tTest (tOp (rI0 fun i j => .bl (decide (j < i))) (tVar 2) (tC (.int 0)))) (tTest (tOp (rI0 fun i j => .bl (decide (i = j))) (tOp (rI (fun x j => 0 < j) fun i j => V.int (i % j)) (tCB (fun xs H Q => ∃ i, xs = [.int i] ∧ Q (.int i) H) (tCons (tOp (rIxL K) (tVar 0) (tOp (rI0 fun i j => V.int (i + j)) (tC (.int 1)) (tVar 4))) tNil)) (tVar 3)) (tOp (rI0 fun i j => V.int (i - j)) (tVar 3) (tC (.int 1)))))) (by rfl) scOpe.nd (pi_range1 (by rfl) T.range (pa_cons (pe_callB call_len_seq (by rfl) T.len (by decide +kernel) (pa_cons (pv 1) pa_nil)) pa_nil)) (blkOk_by (N := ["numbers", "doors", "way", "every", "k"]) (sc := defScope sOpe) (by decide +kernel)) (fun _ _ _ _ _ => pg_name (i := 4) scOpe.nd rfl (Or.inl rfl)) (fun _ _ _ _ _ => (pts_one (PW.pt (pw_and (pt_cmpR op_gt (pv 2) pe_int (nomark _)) (pw_and1 (pt_cmpR op_eqI (pe_op op_mod (pe_callTy cr_intI (by rfl) T.int (by decide +kernel) (pa_cons (pe_ix ix_list (pv 0) (pe_op op_add pe_int (pv 4)) (fun _ _ => rfl)) pa_nil)) (pv 3)) (pe_op op_sub (pv 3) pe_int) (nomark _))))))) (fun _ _ _ _ _ => (pe_ix ix_list (pv 1) (pv 4) (fun _ _ => rfl)))))))), ?_⟩
    walk_at "rd"
    have gn : ∀ j : Nat, j < ns.length → ∃ x, (ns.map V.int)[j]? = some (.int x) := fun j hj => ⟨ns[j], by rw [List.getElem?_map, List.getElem?_eq_getElem hj]; rfl⟩
    obtain ⟨x0, g0⟩ := gn 0 (by omega)
    refine ⟨_, hS, .int x0, at_of (j := 0) rfl g0, x0, rfl, by decide, by decide, fun e ne => ?_⟩
    have s0 : Same H (upd H e (HO.lst [V.int 1, V.int 1, V.int 2, V.int 2, V.int 3, V.int 4, V.int 8])) := same_upd ne
    have he : upd H e (HO.lst [V.int 1, V.int 1, V.int 2, V.int 2, V.int 3, V.int 4, V.int 8]) e = some (.lst [V.int 1, V.int 1, V.int 2, V.int 2, V.int 3, V.int 4, V.int 8]) := upd_same
    generalize upd H e (HO.lst [V.int 1, V.int 1, V.int 2, V.int 2, V.int 3, V.int 4, V.int 8]) = H0 at s0 he
    obtain ⟨j0, ej⟩ : ∃ j : Nat, x0 % 7 = j := ⟨(x0 % 7).toNat, by omega⟩
    obtain ⟨z, gz, zp⟩ : ∃ z : Int, [V.int 1, V.int 1, V.int 2, V.int 2, V.int 3, V.int 4, V.int 8][j0]? = some (.int z) ∧ 0 < z := by
      have : j0 = 0 ∨ j0 = 1 ∨ j0 = 2 ∨ j0 = 3 ∨ j0 = 4 ∨ j0 = 5 ∨ j0 = 6 := by omega
      rcases this with rfl | rfl | rfl | rfl | rfl | rfl | rfl <;> exact ⟨_, rfl, by decide⟩
    have dl := drs.len r12
    have ul : us.length = D.length := pl.len
    refine ⟨_, SqL.of he, .int z, at_of ej gz, ?_⟩
    refine ⟨_, rfl, l, rfl, us, .inl (SqL.of (s0 _ _ hl)), us.length, rfl, by omega, by omega, fun c nc => ?_⟩
    obtain ⟨Pv, hPv⟩ : ∃ Pv : Nat → Hp → Prop, Pv = (fun j Hx => ∃ (ws : List V) (E : List Pr), Same H0 Hx ∧ Hx c = some (.lst ws) ∧ PL Hx ws E ∧ E.Sublist (D.take j)) := ⟨_, rfl⟩
    refine lc_range (lo := 0) (n := ((us.length : Nat) : Int).toNat) Pv (by rw [hPv]; exact ⟨[], [], same_upd nc, upd_same, PL.nil0 _, List.nil_sublist _⟩) (fun j Hx hj pv => ?_) (fun Hx pv => ?_)
    · have nxt : ∀ (ws : List V) (E : List Pr) (Hx : Hp), Same H0 Hx → Hx c = some (.lst ws) → PL Hx ws E → E.Sublist (D.take (j + 1)) → Pv (j + 1) Hx := fun ws E Hx h1 h2 h3 h4 => by
        rw [hPv]
        exact ⟨ws, E, h1, h2, h3, h4⟩
      rw [hPv] at pv
      obtain ⟨ws, E2, s1, hc, pw, sub⟩ := pv
      have hjD : j < D.length := by omega
      obtain ⟨d, gd⟩ : ∃ d, D[j]? = some d := ⟨_, List.getElem?_eq_getElem hjD⟩
      obtain ⟨v, gv, td, rfl, htd⟩ := lget2 pl gd
      obtain ⟨y, gy⟩ := gn (1 + j) (by omega)
      have tk : D.take (j + 1) = D.take j ++ [d] := by rw [List.take_add_one, gd]; rfl
      rw [tk] at nxt
      have el := sub.length_le
      rw [List.length_take] at el
      have skip := nxt ws E2 Hx s1 hc pw (sub.trans (List.sublist_append_left _ _))
      have s01 := s0.trans s1
      have wl : ws.length = E2.length := pw.len
      have take : ∃ acc, Hx c = some (HO.lst acc) ∧ acc.length < sizeLine ∧ Pv (j + 1) (upd Hx c (HO.lst (acc ++ [V.ref td]))) := by
        refine ⟨ws, hc, len_big (by omega), nxt (ws ++ [.ref td]) (E2 ++ [d]) _ (same_ch s1 nc) upd_same ?_ (sub.append (List.Sublist.refl _))⟩
        exact PL.snoc (pw.kt (KT.lst hc)) ⟨td, rfl, KT.lst hc _ _ (s01 _ _ htd)⟩
      simp only [wipe]
      walk_at "rd"
      exact ite2 (fun _ => ⟨_, s01.seq hS, .int y, at_of (j := 1 + j) (by omega) gy, y, rfl, zp, ite2 (fun _ => ⟨_, SqL.of (s01 _ _ hl), .ref td, at_of (j := j) (by omega) gv, take⟩) (fun _ => skip)⟩) (fun _ => ite2 (fun z => z.elim) (fun _ => skip))
    · rw [hPv] at pv
      obtain ⟨ws, E2, s1, hc, pw, sub⟩ := pv
      exact ret E2 ws c Hx (drs.sub (sub.trans (List.take_sublist _ _))) (s0.trans s1) (s0.free nc) hc pw
theorem scCw : FnScope ["rest", "pool"] ["rest", "pool"] (defScope sCw) := ⟨rfl, rfl, rfl, by decide +kernel, rfl, by decide +kernel, by decide +kernel⟩
def spCw : Sp := fun vs H Q _ => ∃ (x : Int) (p : Addr) (Z : List Str) (m : Nat), vs = [.int x, .ref p] ∧ H p = some (.lst (Z.map V.str)) ∧ Texts m Z ∧ 1 ≤ m ∧ ∀ (z : Str) (H' : Hp), z.length ≤ 16 → Same H H' → Q (.str z) H'
theorem ok_cw {f f1 f2 : Addr} {fd fd1 fd2 : FuncData} (F : Fun K "_law_called_word" "_law_called_word" sCw f fd) (T : Bi mg) (d__law_spelled : Df P w K mg base "_law_spelled" ["numbers", "at"] 1 (spSpell K) f1 fd1) (d__law_numbers : Df P w K mg base "_law_numbers" ["cell", "count"] 1 (spNum K) f2 fd2) : FnOk P w K mg base CX0 2 f fd ["rest", "pool"] spCw := by
  refine F.ok scCw (fun vs H Q E h => ?_) (fun cdv A outer s H vs Q E hr h => ?_)
  · obtain ⟨x, p, Z, m, rfl, _⟩ := h
    rfl
  · obtain ⟨x, p, Z, m, rfl, hp, tx, m1, q⟩ := h
    refine ⟨_, (pss_cons (ps_if (pt_cmpR op_eqI (pe_op op_mod (pe_callTy cr_intI (by rfl) T.int (by decide +kernel) (pa_cons (pv 0) pa_nil)) pe_int) pe_int (nomark _))
      (pss_one (ps_ret (pe_call d__law_spelled.ok (hr.mono (by decide)) (by rfl) d__law_spelled.at_ d__law_spelled.kp d__law_spelled.b .nil pass0 (pa_cons (pe_call d__law_numbers.ok (hr.mono (by decide)) (by rfl) d__law_numbers.at_ d__law_numbers.kp d__law_numbers.b .nil pass0 (pa_cons (pe_op op_fdiv (pv 0) pe_int) (pa_cons pe_int pa_nil))) (pa_cons pe_int pa_nil)))))
      pss_nil)
      (pss_one (ps_ret (pe_ix ix_list (pv 1) (pe_op op_mod (pe_callTy cr_intI (by rfl) T.int (by decide +kernel) (pa_cons (pe_op op_fdiv (pv 0) pe_int) pa_nil)) (pe_callB call_len_seq (by rfl) T.len (by decide +kernel) (pa_cons (pv 1) pa_nil))) (fun _ _ => rfl))))), ?_⟩
    walk_at "rd"
    refine ⟨by decide, ite2 (fun _ => ⟨⟨by decide, by decide⟩, ?_⟩) (fun _ => ⟨⟨by decide, by decide⟩, ?_⟩)⟩
    · refine ⟨x / 4, 5, rfl, by decide, fun ns l H1 N1 s1 nl hl => ?_⟩
      exact ⟨l, ns, 0, rfl, SqL.of hl, by rw [N1.1]; decide, fun z hz => q z H1 (by omega) s1⟩
    · have zl : (Z.map V.str).length = m := by rw [List.length_map, tx.1]
      have q0 := Int.emod_nonneg (x / 4) (show (m : Int) ≠ 0 by omega)
      have q1 := Int.emod_lt_of_pos (x / 4) (show (0 : Int) < m by omega)
      obtain ⟨j, ej⟩ : ∃ j : Nat, x / 4 % (m : Int) = j := ⟨(x / 4 % (m : Int)).toNat, by omega⟩
      obtain ⟨z, gz⟩ : ∃ z, Z[j]? = some z := ⟨_, List.getElem?_eq_getElem (by rw [tx.1]; omega)⟩
      refine ⟨_, .inl (SqL.of hp), by omega, _, SqL.of hp, .str z, ?_, q z H (tx.2 z (List.mem_of_getElem? gz)) (Same.refl _)⟩
      rw [zl]
      exact at_of ej (by rw [List.getElem?_map, gz]; rfl)
theorem scHold : FnScope ["parts", "room", "part"] ["parts", "room"] (defScope sHold) := ⟨rfl, rfl, rfl, by decide +kernel, rfl, by decide +kernel, by decide +kernel⟩
def spHold (K : PySem.W.Frag) : Sp := fun vs H Q _ => ∃ (p : Addr) (x : Int) (us : List V) (L : List (List Int)), vs = [.ref p, .int x] ∧ H p = some (.lst us) ∧ RL H us L ∧ (∃ ys ∈ L, x ∈ ys) ∧ ∀ (ys : List Int) (q : Addr) (H' : Hp), ys ∈ L → x ∈ ys → Same H H' → H q = none → H' q = some (.lst (ys.map V.int)) → Q (.ref q) H'
theorem ok_hold {f : Addr} {fd : FuncData} (F : Fun K "_law_holding" "_law_holding" sHold f fd) (T : Bi mg) : FnOk P w K mg base CX0 1 f fd ["parts", "room"] (spHold K) := by
  refine F.ok scHold (fun vs H Q E h => ?_) (fun cdv A outer s H vs Q E hr h => ?_)
  · obtain ⟨p, x, us, L, rfl, _⟩ := h
    rfl
  · obtain ⟨p, x, us, L, rfl, hp, rl, ex, ret⟩ := h
    refine ⟨_, (pss_cons (ps_for PassesOwn.never rfl (pi_list (pv 0)) (pg_name (i := 2) scHold.nd rfl (Or.inl rfl))
      (pss_one (ps_if (pt_cmpR op_in_seq (pv 1) (pv 2) (by rfl))
        (pss_one (ps_ret (pe_callTy call_list_of (by rfl) T.list (by decide +kernel) (pa_cons (pv 2) pa_nil))))
        pss_nil)))
      (pss_one (ps_ret (pe_lst pa_nil)))), ?_⟩
    walk_at "rd"
    obtain ⟨Pv, hPv⟩ : ∃ Pv : Nat → L2.St → Hp → Prop, Pv = (fun i σ H' => ∃ (v2 : Option V), σ = [some (.ref p), some (.int x), v2] ∧ H' = H ∧ ∀ ys ∈ L.take i, x ∉ ys) := ⟨_, rfl⟩
    refine ⟨_, rfl, p, rfl, ⟨_, SqL.of hp⟩, for_list (K := K) (a := p) (xs := us) Pv (by rw [hPv]; exact ⟨none, rfl, rfl, fun ys h => by rw [List.take_zero] at h; cases h⟩) (fun i σ H' _ pv => by rw [hPv] at pv; obtain ⟨_, _, rfl, _⟩ := pv; exact SqL.of hp) (fun i v σ H' gv pv => ?_) (fun σ H' pv => ?_)⟩
    · have nxt : ∀ (v2 : Option V), (∀ ys ∈ L.take (i + 1), x ∉ ys) → Pv (i + 1) [some (.ref p), some (.int x), v2] H := fun v2 h => by
        rw [hPv]
        exact ⟨v2, rfl, rfl, h⟩
      rw [hPv] at pv
      obtain ⟨v2, rfl, rfl, none_⟩ := pv
      obtain ⟨ys, gy, t, rfl, ht⟩ := lget rl gv
      walk_at "rd"
      refine ⟨t, _, rfl, .inr (SqT.of ht), rfl, flI _, ?_⟩
      rw [inI]
      by_cases m : x ∈ ys
      · rw [decide_eq_true m]
        refine ⟨_, rfl, iteT ?_⟩
        walk_at "rd"
        exact ⟨_, .inr (SqT.of ht), fun q nq => ret ys q _ (List.mem_of_getElem? gy) m (same_upd nq) nq upd_same⟩
      · rw [decide_eq_false m]
        refine ⟨_, rfl, iteF (nxt _ fun zs hz => ?_)⟩
        rw [List.take_add_one, gy] at hz
        rcases List.mem_append.mp hz with h | h
        · exact none_ zs h
        · have := List.mem_singleton.mp h
          rw [this]
          exact m
    · rw [hPv] at pv
      obtain ⟨v2, rfl, rfl, none_⟩ := pv
      obtain ⟨ys, hy, hx⟩ := ex
      rw [rl.len, List.take_length] at none_
      exact absurd hx (none_ ys hy)
end

abbrev sAre : Stmt := topS 13
abbrev sHea : Stmt := topS 0
section
variable {P : Program} {w : World} {K : PySem.W.Frag} {mg : Str → Option Value} {base : Heap}
theorem use_init {C x dx l : Addr} {r : Nat} {us : List V} {D G : List Pr} {H : Hp} {Q : VK} {E : XK} (nx : H x = none) (ndx : H dx = none) (hl : H l = some (.lst us)) (pl : PL H us D) (pm : (D.map mm2).Perm G) (drs : Drs r G) (r1 : 1 ≤ r) (r12 : r ≤ 12)
    (q : ∀ own H2, HouseAt C H2 x r G own → Same H H2 → (∀ b ∈ own, H b = none) → Q .non H2) : spHinit C [.ref x, .int r, .ref l] (upd (upd H dx (.own x)) x (.ins C dx [])) Q E := by
  have s0 : Same H (upd (upd H dx (.own x)) x (.ins C dx [])) := fun b o e => by
    rw [upd_ne (ne_of_none e nx), upd_ne (ne_of_none e ndx)]
    exact e
  refine ⟨x, dx, l, r, us, D, D.map mm2, rfl, upd_same, s0 _ _ hl, pl.kt (KT.same s0), rfl, pm.nodup_iff.mpr drs.asc.nodup, fun d hd => drs.ok d (pm.mem_iff.mp hd), r1, r12, fun D' own H' mem hh keep free => ?_⟩
  have e : D' = G := asc_uniq hh.ok.asc drs.asc fun d => (mem d).trans pm.mem_iff
  subst e
  refine q own H' hh (fun b o e => keep b o (s0 b o e) (ne_of_none e nx)) fun b hb => ?_
  by_cases e : b = x
  · rw [e]
    exact nx
  · exact s0.free (free b hb e)
theorem mm2_same {r : Nat} {D : List Pr} (h : Drs r D) : D.map mm2 = D := by
  refine (List.map_congr_left fun d hd => ?_).trans (List.map_id _)
  have := (h.ok d hd).2.1
  unfold mm2
  rw [if_neg (by omega), if_pos (by omega)]
  rfl
theorem scAre : FnScope ["house", "opening"] ["house", "opening"] (defScope sAre) := ⟨rfl, rfl, rfl, by decide +kernel, rfl, by decide +kernel, by decide +kernel⟩
def spAre (C : Addr) : Sp := fun vs H Q _ => ∃ (p l : Addr) (r : Nat) (us : List V) (D0 D : List Pr) (own : List Addr), vs = [.ref p, .ref l] ∧ HouseAt C H p r D0 own ∧ H l = some (.lst us) ∧ PL H us D ∧ Drs r D ∧
  ∀ (L : List (List Int)) (ws : List V) (t : Addr) (H' : Hp), Pcs D (rg r) L → Same H H' → H t = none → H' t = some (.lst ws) → RL H' ws L → Q (.ref t) H'
theorem ok_are {f C fi f1 : Addr} {fd fdi fd1 : FuncData} (F : Fun K "areas" "areas" sAre f fd) (T : Bi mg) (U : Hs K mg C) (M : Mk K C fi) (Gi : FnOk P w K mg base CX0 2 fi fdi ["self", "rooms", "doors"] (spHinit C)) (bi : Binds K fdi ["self", "rooms", "doors"] [])
    (d_pieces : Df P w K mg base "pieces" ["house", "rooms"] 4 (spPcs K C) f1 fd1) : FnOk P w K mg base CX0 5 f fd ["house", "opening"] (spAre C) := by
  refine F.ok scAre (fun vs H Q E h => ?_) (fun cdv A outer s0 H vs Q E hr h => ?_)
  · obtain ⟨p, l, r, us, D0, D, own, rfl, _⟩ := h
    rfl
  · obtain ⟨p, l, r, us, D0, D, own, rfl, hh, hl, pl, drs, ret⟩ := h
    obtain ⟨dx, l0, m0, ls, nss, h1, _⟩ := hh.ex
    refine ⟨_, (pss_one (ps_ret (pe_call d_pieces.ok (hr.mono (by decide)) (by rfl) d_pieces.at_ d_pieces.kp d_pieces.b .nil pass0 (pa_cons (pe_make M Gi (hr.mono (by decide)) (by rfl) U.mgC bi .nil pass0 (pa_cons (pe_fld (pv 0) rfl) (pa_cons (pv 1) pa_nil))) (pa_cons (pe_listRg rfl (by rfl) T.list (prg_1 (by rfl) T.range (pe_fld (pv 0) rfl))) pa_nil))))), ?_⟩
    walk_at "rd"
    have r12 := hh.r12
    refine ⟨C, dx, _, h1, U.cl, U.nR, .int r, hf_rooms _ _ _, fun x dy nx ndx nex => ?_⟩
    refine use_init nx ndx hl pl (by rw [mm2_same drs]) drs hh.r1 hh.r12 fun own1 H1 hh1 s1 _ => ⟨rfl, ?_⟩
    refine ⟨C, dx, _, s1 _ _ h1, U.cl, U.nR, .int r, hf_rooms _ _ _, r, rfl, RgOk.of_le (by omega) (by omega) (by omega) (by omega), fun q nq => ?_⟩
    rw [rgV_rg]
    have s2 := s1.trans (same_upd (o := HO.lst ((rg r).map V.int)) nq)
    refine ⟨x, q, rg r, r, D, own1, rfl, hh1.same (same_upd nq), .inl (SqL.of upd_same), by rw [rg_len]; omega, fun y hy => ?_, fun L ws t H' pc s3 nt ht rl => ret L ws t H' pc (s2.trans s3) (s2.free nt) ht rl⟩
    unfold rg at hy
    obtain ⟨k, hk, rfl⟩ := List.mem_map.mp hy
    have h9 := List.mem_range.mp hk
    exact ⟨Int.natCast_nonneg k, Int.ofNat_lt.mpr h9⟩
end

abbrev sLiv : Stmt := topS 14
abbrev sLinit : Stmt := inClass sLiv 0
abbrev sLcalls : Stmt := inClass sLiv 1
abbrev sLcall : Stmt := inClass sLiv 2
abbrev sLwords : Stmt := inClass sLiv 3
/-- what the walk asks of the class LiveHouse -/
structure Ls (K : PySem.W.Frag) (mg : Str → Option Value) (C : Addr) : Prop where
  cl : Cls K C
  nA : NoAttr K C "_areas"
  nW : NoAttr K C "_words"
  nC : NoAttr K C "_calls"
  mgC : mg "LiveHouse" = some (.ref C)
def lf (ar wd : Addr) (n : Int) : List (Str × V) := putF "_calls" (.int n) (putF "_words" (.ref wd) (putF "_areas" (.ref ar) []))
theorem ln1 : ¬ (("_areas" : Str) = "_words") := by decide +kernel
theorem ln2 : ¬ (("_areas" : Str) = "_calls") := by decide +kernel
theorem ln3 : ¬ (("_words" : Str) = "_calls") := by decide +kernel
theorem lf_areas (ar wd : Addr) (n : Int) : (lf ar wd n).lookup ("_areas" : Str) = some (.ref ar) := by
  unfold lf
  rw [lookup_putF, if_neg ln2, lookup_putF, if_neg ln1, lookup_putF, if_pos rfl]
theorem lf_words (ar wd : Addr) (n : Int) : (lf ar wd n).lookup ("_words" : Str) = some (.ref wd) := by
  unfold lf
  rw [lookup_putF, if_neg ln3, lookup_putF, if_pos rfl]
theorem lf_calls (ar wd : Addr) (n : Int) : (lf ar wd n).lookup ("_calls" : Str) = some (.int n) := by
  unfold lf
  rw [lookup_putF, if_pos rfl]
theorem lf_list (ar wd : Addr) (n : Int) : lf ar wd n = [(("_areas" : Str), V.ref ar), (("_words" : Str), V.ref wd), (("_calls" : Str), V.int n)] := by
  unfold lf
  show putF "_calls" (V.int n) (putF "_words" (V.ref wd) [(("_areas" : Str), V.ref ar)]) = _
  rw [show putF "_words" (V.ref wd) [(("_areas" : Str), V.ref ar)] = [(("_areas" : Str), V.ref ar), (("_words" : Str), V.ref wd)] by
    show (if (("_areas" : Str) = "_words") then _ else _) = _
    rw [if_neg ln1]
    rfl]
  show (if (("_areas" : Str) = "_calls") then _ else _) = _
  rw [if_neg ln2]
  show _ :: (if (("_words" : Str) = "_calls") then _ else _) = _
  rw [if_neg ln3]
  rfl
theorem lf_put (ar wd : Addr) (n m : Int) : putF "_calls" (.int m) (lf ar wd n) = lf ar wd m := by
  rw [lf_list, lf_list]
  show (if (("_areas" : Str) = "_calls") then _ else _) = _
  rw [if_neg ln2]
  show _ :: (if (("_words" : Str) = "_calls") then _ else _) = _
  rw [if_neg ln3]
  show _ :: _ :: (if (("_calls" : Str) = "_calls") then _ else _) = _
  rw [if_pos rfl]
/-- a live house: its areas, its words and the number of its calls -/
structure LiveAt (C : Addr) (H : Hp) (x ar wd : Addr) (L : List (List Int)) (W : List V) (n : Int) : Prop where
  ex : ∃ dx us, H x = some (.ins C dx (lf ar wd n)) ∧ H ar = some (.lst us) ∧ RL H us L
  wd_ : H wd = some (.lst W)
  ne : ar ≠ wd
theorem LiveAt.keep {C : Addr} {H H' : Hp} {x ar wd : Addr} {L : List (List Int)} {W : List V} {n : Int} (h : LiveAt C H x ar wd L W n) (k : ∀ b o, b = x ∨ b = ar ∨ b = wd → H b = some o → H' b = some o) (kt : KT H H') : LiveAt C H' x ar wd L W n := by
  obtain ⟨dx, us, h1, h2, h3⟩ := h.ex
  exact ⟨⟨dx, us, k _ _ (.inl rfl) h1, k _ _ (.inr (.inl rfl)) h2, h3.kt kt⟩, k _ _ (.inr (.inr rfl)) h.wd_, h.ne⟩
theorem LiveAt.same {C : Addr} {H H' : Hp} {x ar wd : Addr} {L : List (List Int)} {W : List V} {n : Int} (h : LiveAt C H x ar wd L W n) (s : Same H H') : LiveAt C H' x ar wd L W n := h.keep (fun b o _ e => s b o e) (KT.same s)
theorem rep1 {α : Type} (n : Nat) (x : α) : (List.replicate n [x]).flatten = List.replicate n x := by
  induction n with
  | zero => rfl
  | succ n ih =>
    rw [List.replicate_succ, List.flatten_cons, List.replicate_succ, ih]
    rfl
theorem Pcs.lens {D : List Pr} {R : List Int} {L : List (List Int)} {r : Nat} (h : Pcs D R L) (hR : ∀ x ∈ R, 0 ≤ x ∧ x < r) : ∀ d ∈ L, d.length ≤ r := fun d hd => by
  obtain ⟨s, hs, pc⟩ := h.pc d hd
  exact ints_len (List.Pairwise.imp (fun h => by omega) pc.1) fun x hx => hR x ((pc.2 x).mp hx).mem
theorem Pcs.len {D : List Pr} {R : List Int} {L : List (List Int)} {r : Nat} (h : Pcs D R L) (hR : ∀ x ∈ R, 0 ≤ x ∧ x < r) : L.length ≤ r := by
  have ne : ∀ d ∈ L, hdI d ∈ R := fun d hd => by
    obtain ⟨s, hs, pc⟩ := h.pc d hd
    exact ((pc.2 _).mp (hdI_mem (pc.self hs))).mem
  have := ints_len (r := r) (l := L.map hdI) (List.pairwise_map.mpr (List.Pairwise.imp (fun h => by omega) h.asc)) fun x hx => by
    obtain ⟨d, hd, rfl⟩ := List.mem_map.mp hx
    exact hR _ (ne d hd)
  rw [List.length_map] at this
  exact this
/-- the rooms of the pieces that hold x -/
def holdL (L : List (List Int)) (x : Int) : List Int := (L.filter fun ys => decide (x ∈ ys)).flatten
theorem holdL_one {D : List Pr} {R : List Int} {L : List (List Int)} (h : Pcs D R L) {ys : List Int} {x : Int} (m : ys ∈ L) (hx : x ∈ ys) : holdL L x = ys := by
  have uq : ∀ zs ∈ L, x ∈ zs → zs = ys := fun zs hz hx2 => by
    obtain ⟨s, _, p⟩ := h.pc ys m
    obtain ⟨t, _, q⟩ := h.pc zs hz
    exact (q.of hx2).uniq (p.of hx)
  have nd : L.Nodup := List.Pairwise.imp (fun {a b} (h : hdI a < hdI b) e => by rw [e] at h; omega) h.asc
  have key : ∀ L : List (List Int), L.Nodup → ys ∈ L → (∀ zs ∈ L, x ∈ zs → zs = ys) → (L.filter fun ys => decide (x ∈ ys)) = [ys] := by
    intro L
    induction L with
    | nil => intro _ m; cases m
    | cons z L ih =>
      intro nd m uq
      obtain ⟨n1, n2⟩ := List.nodup_cons.mp nd
      by_cases e : z = ys
      · subst e
        rw [List.filter_cons_of_pos (by simp [hx])]
        congr 1
        refine List.filter_eq_nil_iff.mpr fun zs hz => ?_
        intro c
        have := uq zs (List.mem_cons_of_mem _ hz) (of_decide_eq_true c)
        rw [this] at hz
        exact n1 hz
      · rw [List.filter_cons_of_neg (by
          intro c
          exact e (uq z List.mem_cons_self (of_decide_eq_true c)))]
        rcases List.mem_cons.mp m with m | m
        · exact absurd m.symm e
        · exact ih n2 m fun zs hz => uq zs (List.mem_cons_of_mem _ hz)
  unfold holdL
  rw [key L nd m uq]
  exact List.append_nil ys
theorem holdL_len {m : Nat} {x : Int} : ∀ {L : List (List Int)}, (∀ ys ∈ L, ys.length ≤ m) → (holdL L x).length ≤ m * L.length
  | [], _ => Nat.le_refl _
  | y :: L, h => by
    have ih := holdL_len (x := x) fun ys hy => h ys (List.mem_cons_of_mem _ hy)
    have hy := h y List.mem_cons_self
    have e : m * (y :: L).length = m * L.length + m := by rw [List.length_cons, Nat.mul_succ]
    rw [e]
    unfold holdL at ih ⊢
    by_cases c : x ∈ y
    · rw [List.filter_cons_of_pos (by simp [c]), List.flatten_cons, List.length_append]
      omega
    · rw [List.filter_cons_of_neg (by simp [c])]
      omega
theorem holdL_snoc (L : List (List Int)) (y : List Int) (x : Int) : holdL (L ++ [y]) x = holdL L x ++ (if x ∈ y then y else []) := by
  unfold holdL
  rw [List.filter_append, List.flatten_append]
  congr 1
  by_cases c : x ∈ y
  · rw [List.filter_cons_of_pos (by simp [c]), if_pos c, List.flatten_cons]
    exact List.append_nil y
  · rw [List.filter_cons_of_neg (by simp [c]), if_neg c]
    rfl
/-- the inner loop of a comprehension with two fors, over a tuple -/
theorem in_tup {K : PySem.W.Frag} {a : Addr} {xs : List V} {g : TG} {tt : TT} {te : TE} {vs : List Nat} {σ : L2.St} {H : Hp} {D : Addr} {Nx : Hp → Prop} (Pv : Nat → Hp → Prop) (h0 : Pv 0 H) (hl : ∀ i H, i ≤ xs.length → Pv i H → SqT K H a xs)
    (hs : ∀ i x H, xs[i]? = some x → Pv i H → g x (wipe σ vs) H fun σ2 H2 => wipe σ2 vs = wipe σ vs ∧ tt σ2 H2 fun b H3 => if b = true then te σ2 H3 fun y H4 => ∃ acc, H4 D = some (.lst acc) ∧ acc.length < sizeLine ∧ Pv (i + 1) (upd H4 D (.lst (acc ++ [y]))) else Pv (i + 1) H3)
    (hd : ∀ H, Pv xs.length H → Nx H) :
    ∃ W : Nat → Nat → Hp → Prop, (∃ m, W 0 m H) ∧ ∀ j k H, W j k H → ((Itt K a).stop j H ∧ Nx H) ∨ ((Itt K a).go j H ∧ ∃ N1 : Hp → Prop, (∀ H', N1 H' → ∃ k', k' < k ∧ W (j + 1) k' H') ∧ ∀ x H', (Itt K a).yld j H x H' → g x (wipe σ vs) H' fun σ3 H5 => wipe σ3 vs = wipe σ vs ∧ tt σ3 H5 fun b H6 =>
      if b = true then te σ3 H6 fun y H7 => ∃ acc, H7 D = some (.lst acc) ∧ acc.length < sizeLine ∧ N1 (upd H7 D (.lst (acc ++ [y]))) else N1 H6) := by
  refine ⟨fun i m H => m = xs.length - i ∧ i ≤ xs.length ∧ Pv i H, ⟨_, rfl, Nat.zero_le _, h0⟩, ?_⟩
  rintro i m H ⟨rfl, hi, p⟩
  have q := hl i H hi p
  by_cases lt : i < xs.length
  · refine .inr ⟨⟨xs, xs[i], q, by simp [lt]⟩, Pv (i + 1), fun H' q => ⟨_, by omega, rfl, lt, q⟩, ?_⟩
    rintro x H' ⟨rfl, e⟩
    exact hs i x H' (e xs q) p
  · have e : i = xs.length := by omega
    subst e
    exact .inl ⟨⟨xs, q, Nat.le_refl _⟩, hd H p⟩
def kW (z : Str) (W : List V) (ys : List Int) : List V := ys.foldl (fun W x => W.set x.toNat (.str z)) W
theorem kW_len (z : Str) : ∀ (ys : List Int) (W : List V), (kW z W ys).length = W.length
  | [], _ => rfl
  | y :: ys, W => by
    show (kW z (W.set y.toNat (.str z)) ys).length = _
    rw [kW_len z ys, List.length_set]
section
variable {P : Program} {w : World} {K : PySem.W.Frag} {mg : Str → Option Value} {base : Heap}
theorem scLinit : FnScope ["self", "house", "opening"] ["self", "house", "opening"] (defScope sLinit) := ⟨rfl, rfl, rfl, by decide +kernel, rfl, by decide +kernel, by decide +kernel⟩
def spLinit (C C2 : Addr) : Sp := fun vs H Q _ => ∃ (x dx p l : Addr) (r : Nat) (us : List V) (D0 D : List Pr) (own : List Addr), vs = [.ref x, .ref p, .ref l] ∧ H x = some (.ins C2 dx []) ∧ HouseAt C H p r D0 own ∧ H l = some (.lst us) ∧ PL H us D ∧ Drs r D ∧
  ∀ (ar wd : Addr) (L : List (List Int)) (H' : Hp), Pcs D (rg r) L → LiveAt C2 H' x ar wd L (List.replicate r .non) 0 → (∀ b o, H b = some o → b ≠ x → H' b = some o) → H ar = none → H wd = none → Q .non H'
theorem ok_linit {f C C2 f1 : Addr} {fd fd1 : FuncData} (F : Fun K "__init__" "LiveHouse.__init__" sLinit f fd) (T : Bi mg) (U : Hs K mg C) (U2 : Ls K mg C2) (d_areas : Df P w K mg base "areas" ["house", "opening"] 5 (spAre C) f1 fd1) : FnOk P w K mg base CX0 6 f fd ["self", "house", "opening"] (spLinit C C2) := by
  refine F.ok scLinit (fun vs H Q E h => ?_) (fun cdv A outer s0 H vs Q E hr h => ?_)
  · obtain ⟨x, dx, p, l, r, us, D0, D, own, rfl, _⟩ := h
    rfl
  · obtain ⟨x, dx, p, l, r, us, D0, D, own, rfl, hx, hh, hl, pl, drs, ret⟩ := h
    refine ⟨_, (pss_cons (ps_fld (pv 0) (pe_call d_areas.ok (hr.mono (by decide)) (by rfl) d_areas.at_ d_areas.kp d_areas.b .nil pass0 (pa_cons (pv 1) (pa_cons (pv 2) pa_nil))) rfl)
      (pss_cons (ps_fld (pv 0) (pe_op op_rep (pe_lst (pa_cons pe_non pa_nil)) (pe_fld (pv 1) rfl)) rfl)
      (pss_one (ps_fld (pv 0) pe_int rfl)))), ?_⟩
    obtain ⟨hdx, l0, m0, ls, nss, h1, _⟩ := hh.ex
    have r12 := hh.r12
    walk_at "rd"
    refine ⟨p, l, r, us, D0, D, own, rfl, hh, hl, pl, drs, fun L ws t H1 pc s1 nt ht rl => ?_⟩
    walk_at "rd"
    have hx1 := s1 _ _ hx
    refine ⟨C2, dx, [], hx1, U2.cl, U2.nA, (by show 0 < 1000; decide), (by decide), fun e ne => ?_⟩
    have tx : t ≠ x := ne_of ht hx1 (by intro z; cases z)
    have h1x := s1 _ _ h1
    have npx : p ≠ x := fun e => by
      rw [e] at h1
      rw [h1] at hx
      have := HO.ins.inj (Option.some.inj hx)
      exact absurd this.2.2 (by unfold hf; intro z; cases (show ([] : List (Str × V)) = _ from z.symm))
    have pe : p ≠ e := ne_of_none (by rw [upd_ne npx]; exact h1x) ne
    have te : t ≠ e := ne_of_none (by rw [upd_ne tx]; exact ht) ne
    have e1 : H1 e = none := by
      have xe : x ≠ e := ne_of_none (upd_same (H := H1)) ne
      rw [upd_ne xe.symm] at ne
      exact ne
    refine ⟨C, hdx, _, (by rw [upd_ne pe, upd_ne npx]; exact h1x), U.cl, U.nR, .int r, hf_rooms _ _ _, e, r, [.non], rfl, rfl, upd_same, by omega, by omega, by show 1 * _ ≤ sizeLine; exact Nat.le_of_lt (len_big (by omega)), fun wt nwt => ?_⟩
    have e0 : (List.replicate (r : Int).toNat [V.non]).flatten = List.replicate r V.non := by
      rw [Int.toNat_natCast]
      exact rep1 r V.non
    rw [e0]
    have xe : x ≠ e := fun z => by rw [z, e1] at hx1; cases hx1
    have hx2 : upd (upd H1 x (HO.ins C2 dx (putF "_areas" (V.ref t) []))) e (HO.lst [V.non]) x = some (.ins C2 dx (putF "_areas" (V.ref t) [])) := by rw [upd_ne xe]; exact upd_same
    have xw : x ≠ wt := ne_of_none hx2 nwt
    have ew : e ≠ wt := ne_of_none upd_same nwt
    have tw : t ≠ wt := ne_of_none (by rw [upd_ne te, upd_ne tx]; exact ht) nwt
    have w1 : H1 wt = none := by
      rw [upd_ne ew.symm, upd_ne xw.symm] at nwt
      exact nwt
    refine ⟨C2, dx, _, (by rw [upd_ne xw]; exact hx2), U2.cl, U2.nW, (by show 1 < 1000; decide), C2, dx, _, upd_same, U2.cl, U2.nC, (by show 2 < 1000; decide), ?_⟩
    refine ret t wt L _ pc ⟨⟨dx, ws, upd_same, ?_, ?_⟩, ?_, tw⟩ (fun b o hb nb => ?_) nt (s1.free w1)
    · rw [upd_ne tx, upd_ne tx, upd_ne tw, upd_ne te, upd_ne tx]
      exact ht
    · refine rl.kt fun q qs hq => ?_
      have qx : q ≠ x := ne_of hq hx1 (by intro z; cases z)
      rw [upd_ne qx, upd_ne qx, upd_ne (fun z => by rw [z, w1] at hq; cases hq), upd_ne (fun z => by rw [z, e1] at hq; cases hq), upd_ne qx]
      exact hq
    · rw [upd_ne xw.symm, upd_ne xw.symm]
      exact upd_same
    · have hb1 := s1 _ _ hb
      rw [upd_ne nb, upd_ne nb, upd_ne (fun z => by rw [z, w1] at hb1; cases hb1), upd_ne (fun z => by rw [z, e1] at hb1; cases hb1), upd_ne nb]
      exact hb1
theorem scLcalls : FnScope ["self"] ["self"] (defScope sLcalls) := ⟨rfl, rfl, rfl, by decide +kernel, rfl, by decide +kernel, by decide +kernel⟩
def spLcalls (C2 : Addr) : Sp := fun vs H Q _ => ∃ (x ar wd : Addr) (L : List (List Int)) (W : List V) (n : Int), vs = [.ref x] ∧ LiveAt C2 H x ar wd L W n ∧ Q (.int n) H
theorem ok_lcalls {f C2 : Addr} {fd : FuncData} (F : Fun K "calls" "LiveHouse.calls" sLcalls f fd) (T : Bi mg) (U2 : Ls K mg C2) : FnOk P w K mg base CX0 1 f fd ["self"] (spLcalls C2) := by
  refine F.ok scLcalls (fun vs H Q E h => ?_) (fun cdv A outer s0 H vs Q E hr h => ?_)
  · obtain ⟨x, ar, wd, L, W, n, rfl, _⟩ := h
    rfl
  · obtain ⟨x, ar, wd, L, W, n, rfl, lv, ret⟩ := h
    obtain ⟨dx, us, h1, h2, h3⟩ := lv.ex
    refine ⟨_, (pss_one (ps_ret (pe_fld (pv 0) rfl))), ?_⟩
    walk_at "rd"
    exact ⟨C2, dx, _, h1, U2.cl, U2.nC, .int n, lf_calls _ _ _, ret⟩
theorem scLwords : FnScope ["self"] ["self"] (defScope sLwords) := ⟨rfl, rfl, rfl, by decide +kernel, rfl, by decide +kernel, by decide +kernel⟩
def spLwords (C2 : Addr) : Sp := fun vs H Q _ => ∃ (x ar wd : Addr) (L : List (List Int)) (W : List V) (n : Int), vs = [.ref x] ∧ LiveAt C2 H x ar wd L W n ∧ ∀ q, H q = none → Q (.ref q) (upd H q (.lst W))
theorem ok_lwords {f C2 : Addr} {fd : FuncData} (F : Fun K "words" "LiveHouse.words" sLwords f fd) (T : Bi mg) (U2 : Ls K mg C2) : FnOk P w K mg base CX0 1 f fd ["self"] (spLwords C2) := by
  refine F.ok scLwords (fun vs H Q E h => ?_) (fun cdv A outer s0 H vs Q E hr h => ?_)
  · obtain ⟨x, ar, wd, L, W, n, rfl, _⟩ := h
    rfl
  · obtain ⟨x, ar, wd, L, W, n, rfl, lv, ret⟩ := h
    obtain ⟨dx, us, h1, h2, h3⟩ := lv.ex
    refine ⟨_, (pss_one (ps_ret (pe_callTy call_list_of (by rfl) T.list (by decide +kernel) (pa_cons (pe_fld (pv 0) rfl) pa_nil)))), ?_⟩
    walk_at "rd"
    exact ⟨C2, dx, _, h1, U2.cl, U2.nW, .ref wd, lf_words _ _ _, wd, rfl, _, .inl (SqL.of lv.wd_), fun t nt => ret t nt⟩
theorem scLcall : FnScope ["self", "room", "word", "hearers", "hearer", "area", "other"] ["self", "room", "word"] (defScope sLcall) := ⟨rfl, rfl, rfl, by decide +kernel, rfl, by decide +kernel, by decide +kernel⟩
def spLcall (C2 : Addr) : Sp := fun vs H Q _ => ∃ (x ar wd : Addr) (L : List (List Int)) (W : List V) (n i : Int) (z : Str) (D : List Pr) (r : Nat), vs = [.ref x, .int i, .str z] ∧ LiveAt C2 H x ar wd L W n ∧ Pcs D (rg r) L ∧ r ≤ 12 ∧ W.length = r ∧ 0 ≤ i ∧ i < r ∧
  ∀ (ys : List Int) (q : Addr) (H' : Hp), ys ∈ L → i ∈ ys → LiveAt C2 H' x ar wd L (kW z W ys) (n + 1) → (∀ b o, H b = some o → b ≠ x → b ≠ wd → H' b = some o) → H q = none → H' q = some (.lst (ys.map V.int)) → Q (.ref q) H'
theorem ok_lcall {f C2 : Addr} {fd : FuncData} (F : Fun K "call" "LiveHouse.call" sLcall f fd) (T : Bi mg) (U2 : Ls K mg C2) : FnOk P w K mg base CX0 1 f fd ["self", "room", "word"] (spLcall C2) := by
  refine F.ok scLcall (fun vs H Q E h => ?_) (fun cdv A outer s0 H vs Q E hr h => ?_)
  · obtain ⟨x, ar, wd, L, W, n, i, z, D, r, rfl, _⟩ := h
    rfl
  · obtain ⟨x, ar, wd, L, W, n, i, z, D, r, rfl, lv, pc, r12, wl, i0, ir, ret⟩ := h
    obtain ⟨dx, us, h1, h2, h3⟩ := lv.ex
    refine ⟨_, (pss_cons (ps_fldaug (pv 0) pe_int in_add)
      (pss_cons (ps_setLc2 (i := 3) (own := [("area", 5), ("other", 6)]) (vs1 := [6]) (tt := tTest (tOp (rIn K false) (tVar 1) (tVar 5))) (wi1 := iTup K (tVar 5)) (te := tVar 6) (by rfl) scLcall.nd rfl rfl (sw_true rfl rfl rfl (by decide +kernel)) (pi_list (pe_fld (pv 0) rfl)) (blkOk_by (N := ["self", "room", "word", "hearers", "hearer", "area", "other"]) (sc := defScope sLcall) (by decide +kernel)) (by decide) (fun _ _ _ _ _ => pg_name (i := 5) scLcall.nd rfl (Or.inl rfl)) (fun _ _ _ _ _ => (pts_one (pt_cmpR op_in_seq (pv 1) (pv 5) (by rfl)))) (fun _ _ _ _ _ => pi_tup (pv 5)) (fun _ _ _ _ _ => pg_name (i := 6) scLcall.nd rfl (Or.inl rfl)) (fun _ _ _ _ _ => pts_nil) (fun _ _ _ _ _ => pv 6))
      (pss_cons (ps_for PassesOwn.never rfl (pi_list (pv 3)) (pg_name (i := 4) scLcall.nd rfl (Or.inl rfl))
      (pss_one (ps_asg (pv 2) (pg_sub (pe_fld (pv 0) rfl) (pv 4) set_list))))
      (pss_one (ps_ret (pv 3)))))), ?_⟩
    walk_at "rd"
    unfold sFldAug
    walk_at "rd"
    refine ⟨C2, dx, _, h1, U2.cl, U2.nC, .int n, lf_calls _ _ _, ?_⟩
    refine ⟨n, 1, rfl, rfl, dx, _, h1, (by rw [lf_list]; show 3 < 1000; decide), ?_⟩
    rw [lf_put]
    have arx : ar ≠ x := ne_of h2 h1 (by intro z; cases z)
    have wdx : wd ≠ x := ne_of lv.wd_ h1 (by intro z; cases z)
    have kt1 : KT H (upd H x (HO.ins C2 dx (lf ar wd (n + 1)))) := KT.ch h1 (fun _ z => by cases z)
    have lv1 : LiveAt C2 (upd H x (HO.ins C2 dx (lf ar wd (n + 1)))) x ar wd L W (n + 1) := ⟨⟨dx, us, upd_same, by rw [upd_ne arx]; exact h2, h3.kt kt1⟩, by rw [upd_ne wdx]; exact lv.wd_, lv.ne⟩
    have k1 : ∀ b o, H b = some o → b ≠ x → upd H x (HO.ins C2 dx (lf ar wd (n + 1))) b = some o := fun b o e ne => by rw [upd_ne ne]; exact e
    have f1 : ∀ b, upd H x (HO.ins C2 dx (lf ar wd (n + 1))) b = none → H b = none := fun b e => by
      by_cases z : b = x
      · rw [z, upd_same] at e; cases e
      · rw [upd_ne z] at e; exact e
    generalize upd H x (HO.ins C2 dx (lf ar wd (n + 1))) = H1 at kt1 lv1 k1 f1 ⊢
    clear h1 h2 h3
    obtain ⟨dx, us, h1, h2, h3⟩ := lv1.ex
    obtain ⟨ys, hys, iys⟩ := pc.cov i (by
      unfold rg
      exact List.mem_map.mpr ⟨i.toNat, List.mem_range.mpr (by omega), Int.toNat_of_nonneg i0⟩)
    have ho := holdL_one pc hys iys
    have rgR : ∀ x ∈ rg r, 0 ≤ x ∧ x < r := fun x hx => rg_mem hx
    have ul : us.length = L.length := h3.len
    have lenL := pc.len rgR
    have lensL := pc.lens rgR
    refine ⟨_, rfl, x, C2, dx, _, .ref ar, rfl, h1, U2.cl, U2.nA, lf_areas _ _ _, ar, rfl, ⟨_, SqL.of h2⟩, fun c nc => ?_⟩
    obtain ⟨Pv, hPv⟩ : ∃ Pv : Nat → Hp → Prop, Pv = (fun j Hx => Same H1 Hx ∧ Hx c = some (.lst ((holdL (L.take j) i).map V.int))) := ⟨_, rfl⟩
    refine ⟨fun j m Hx => m = us.length - j ∧ j ≤ us.length ∧ Pv j Hx, ⟨_, rfl, Nat.zero_le _, by rw [hPv]; exact ⟨same_upd nc, upd_same⟩⟩, ?_⟩
    rintro j m Hx ⟨rfl, hj, pv⟩
    have sx : Same H1 Hx := by
      rw [hPv] at pv
      exact pv.1
    by_cases lt : j < us.length
    · refine .inr ⟨⟨us, us[j], SqL.of (sx _ _ h2), by simp [lt]⟩, Pv (j + 1), fun H' q => ⟨_, by omega, rfl, lt, q⟩, ?_⟩
      rintro v H' ⟨rfl, ev⟩
      have nxt : ∀ Hx, Same H1 Hx → Hx c = some (.lst ((holdL (L.take (j + 1)) i).map V.int)) → Pv (j + 1) Hx := fun Hx h1 h2 => by
        rw [hPv]
        exact ⟨h1, h2⟩
      rw [hPv] at pv
      obtain ⟨_, hc⟩ := pv
      obtain ⟨zs, gz, t, rfl, ht⟩ := lget h3 (ev us (SqL.of (sx _ _ h2)))
      have htx := sx _ _ ht
      have tk : L.take (j + 1) = L.take j ++ [zs] := by rw [List.take_add_one, gz]; rfl
      rw [tk, holdL_snoc] at nxt
      have lz := lensL zs (List.mem_of_getElem? gz)
      have lh := holdL_len (x := i) (m := r) (L := L.take j) fun ys hy => lensL ys (List.mem_of_mem_take hy)
      rw [List.length_take] at lh
      have lh2 : (holdL (L.take j) i).length ≤ 144 := by
        have h9 : r * min j L.length ≤ 12 * 12 := Nat.mul_le_mul r12 (by omega)
        omega
      refine ⟨rfl, ?_⟩
      simp only [wipe]
      walk_at "rd"
      refine ⟨t, _, rfl, .inr (SqT.of htx), rfl, flI _, ?_⟩
      rw [inI]
      by_cases m : i ∈ zs
      · rw [decide_eq_true m]
        rw [if_pos m] at nxt
        refine ⟨_, rfl, iteT ?_⟩
        obtain ⟨Pw, hPw⟩ : ∃ Pw : Nat → Hp → Prop, Pw = (fun k Hy => Same H1 Hy ∧ Hy c = some (.lst ((holdL (L.take j) i ++ zs.take k).map V.int))) := ⟨_, rfl⟩
        unfold iTup
        walk_at "rd"
        refine ⟨⟨_, SqT.of htx⟩, fun k m Hy => m = zs.length - k ∧ k ≤ zs.length ∧ Pw k Hy, ⟨_, rfl, Nat.zero_le _, by rw [hPw]; exact ⟨sx, by rw [List.take_zero, List.append_nil]; exact hc⟩⟩, ?_⟩
        rintro k m2 Hy ⟨rfl, hk, pw⟩
        have pw0 := pw
        rw [hPw] at pw0
        obtain ⟨sy, hcy⟩ := pw0
        by_cases lk : k < zs.length
        · have gk : (zs.map V.int)[k]? = some (.int zs[k]) := by rw [List.getElem?_map, List.getElem?_eq_getElem lk]; rfl
          refine .inr ⟨⟨zs.map V.int, _, SqT.of (sy _ _ ht), gk⟩, Pw (k + 1), fun H' q => ⟨_, by omega, rfl, lk, q⟩, ?_⟩
          rintro v H'' ⟨rfl, ev2⟩
          have e2 := Option.some.inj ((ev2 _ (SqT.of (sy _ _ ht))).symm.trans gk)
          subst e2
          rw [if_pos trivial]
          refine ⟨_, hcy, len_big (by rw [List.length_map, List.length_append, List.length_take]; omega), ?_⟩
          rw [hPw]
          refine ⟨same_ch sy nc, ?_⟩
          rw [upd_same, List.take_add_one, List.getElem?_eq_getElem lk]
          simp only [List.map_append, List.append_assoc]
          rfl
        · have e : k = zs.length := by omega
          subst e
          rw [List.take_length] at hcy
          exact .inl ⟨⟨_, SqT.of (sy _ _ ht), by rw [List.length_map]; exact Nat.le_refl _⟩, nxt Hy sy hcy⟩
      · rw [decide_eq_false m]
        rw [if_neg m, List.append_nil] at nxt
        exact ⟨_, rfl, iteF (nxt _ sx hc)⟩
    · have e : j = us.length := by omega
      subst e
      rw [hPv] at pv
      obtain ⟨_, hc⟩ := pv
      refine .inl ⟨⟨us, SqL.of (sx _ _ h2), Nat.le_refl _⟩, ?_⟩
      rw [ul, List.take_length, ho] at hc
      have nc0 := f1 c nc
      have lv2 := lv1.same sx
      have hwc : wd ≠ c := ne_of_none lv1.wd_ nc
      have yR : ∀ y ∈ ys, 0 ≤ y ∧ y < r := fun y hy => by
        obtain ⟨s, _, pcy⟩ := pc.pc ys hys
        exact rgR y ((pcy.2 y).mp hy).mem
      obtain ⟨Pz, hPz⟩ : ∃ Pz : Nat → L2.St → Hp → Prop, Pz = (fun k σ H' => ∃ v4 : Option V, σ = [some (.ref x), some (.int i), some (.str z), some (.ref c), v4, none, none] ∧ LiveAt C2 H' x ar wd L (kW z W (ys.take k)) (n + 1) ∧ (∀ b o, H b = some o → b ≠ x → b ≠ wd → H' b = some o) ∧ H' c = some (.lst (ys.map V.int))) := ⟨_, rfl⟩
      refine ⟨_, rfl, c, rfl, ⟨_, SqL.of hc⟩, for_list (K := K) (a := c) (xs := ys.map V.int) Pz (by rw [hPz]; exact ⟨none, rfl, lv2, fun b o hb nx _ => sx _ _ (k1 b o hb nx), hc⟩) (fun k σ H' _ pv => by rw [hPz] at pv; obtain ⟨_, _, _, _, h⟩ := pv; exact SqL.of h) (fun k v σ H3 gv pv => ?_) (fun σ H3 pv => ?_)⟩
      · have nxz : ∀ (v4 : Option V) (H' : Hp), LiveAt C2 H' x ar wd L (kW z W (ys.take (k + 1))) (n + 1) → (∀ b o, H b = some o → b ≠ x → b ≠ wd → H' b = some o) → H' c = some (.lst (ys.map V.int)) → Pz (k + 1) [some (.ref x), some (.int i), some (.str z), some (.ref c), v4, none, none] H' := fun v4 H' h1 h2 h3 => by
          rw [hPz]
          exact ⟨v4, rfl, h1, h2, h3⟩
        rw [hPz] at pv
        obtain ⟨v4, rfl, lv3, k3, hc3⟩ := pv
        rw [List.getElem?_map] at gv
        cases gd : ys[k]? with
        | none => rw [gd] at gv; cases gv
        | some y =>
          rw [gd] at gv
          have ev := Option.some.inj gv
          subst ev
          have yr := yR y (List.mem_of_getElem? gd)
          obtain ⟨dx3, us3, g1, g2, g3⟩ := lv3.ex
          have wl3 : (kW z W (ys.take k)).length = r := by rw [kW_len]; exact wl
          have ek : kW z W (ys.take (k + 1)) = (kW z W (ys.take k)).set y.toNat (.str z) := by
            rw [List.take_add_one, gd]
            unfold kW
            rw [List.foldl_append]
            rfl
          rw [ek] at nxz
          walk_at "rd"
          refine ⟨C2, dx3, _, g1, U2.cl, U2.nW, .ref wd, lf_words _ _ _, ?_⟩
          refine ⟨wd, rfl, _, lv3.wd_, y.toNat, ixn (by omega) (by rw [wl3]; omega), ?_⟩
          have nt : ∀ xs, HO.lst (kW z W (ys.take k)) ≠ .tup xs := fun _ z => by cases z
          have xwd : x ≠ wd := (ne_of lv3.wd_ g1 (by intro z; cases z)).symm
          exact nxz _ _ ⟨⟨dx3, us3, by rw [upd_ne xwd]; exact g1, by rw [upd_ne lv3.ne]; exact g2, g3.kt (KT.lst lv3.wd_)⟩, upd_same, lv3.ne⟩ (fun b o hb n1 n2 => by rw [upd_ne n2]; exact k3 b o hb n1 n2) (by rw [upd_ne hwc.symm]; exact hc3)
      · rw [hPz] at pv
        obtain ⟨v4, rfl, lv3, k3, hc3⟩ := pv
        rw [List.length_map, List.take_length] at lv3
        walk_at "rd"
        exact ret ys c H3 hys iys lv3 k3 nc0 hc3
end

abbrev sStn : Stmt := topS 29
abbrev sLaw : Stmt := topS 30
theorem same_ok {n : Nat} {H : Hp} {x y : V} {Q : VK} {E : XK} (h : Sm H n x y) (q : Q (.bl true) H) : spSame n [x, y] H Q E := ⟨x, y, rfl, h, q⟩
theorem paired_flat {H : Hp} {n : Nat} {us : List V} (h : ∀ x ∈ us, flat4 x = true) : Paired (Sm H n) us us := by
  induction us with
  | nil => exact Paired.nil
  | cons a l ih => exact Paired.cons (Sm.flat (h a List.mem_cons_self)) (ih fun x hx => h x (List.mem_cons_of_mem _ hx))
theorem sm_flats {H : Hp} {x y : Addr} {us : List V} (hx : H x = some (.lst us)) (hy : H y = some (.lst us)) (h : ∀ x ∈ us, flat4 x = true) (hl : us.length ≤ 100000) (n : Nat) : Sm H (n + 1) (.ref x) (.ref y) :=
  .inr ⟨x, y, _, _, rfl, rfl, .inl ⟨hx, hy⟩, paired_flat h, hl⟩
theorem flat_intsV (l : List Int) : ∀ x ∈ l.map V.int, flat4 x = true := fun x hx => by
  obtain ⟨i, _, rfl⟩ := List.mem_map.mp hx
  rfl
/-- words of r rooms -/
def Wok (r : Nat) (W : List V) : Prop := W.length = r ∧ ∀ v ∈ W, flat4 v = true
theorem Wok.rep (r : Nat) : Wok r (List.replicate r .non) := ⟨List.length_replicate, fun v hv => by rw [List.eq_of_mem_replicate hv]; rfl⟩
theorem Wok.kW {r : Nat} {z : Str} : ∀ {ys : List Int} {W : List V}, Wok r W → Wok r (kW z W ys)
  | [], _, h => h
  | y :: ys, W, h => by
    refine Wok.kW (ys := ys) (W := W.set y.toNat (.str z)) ⟨by rw [List.length_set]; exact h.1, fun v hv => ?_⟩
    rcases List.mem_or_eq_of_mem_set hv with m | m
    · exact h.2 v m
    · rw [m]; rfl
theorem lf_no (ar wd : Addr) (n : Int) {x : Str} (h1 : ¬ x = "_calls") (h2 : ¬ x = "_words") (h3 : ¬ x = "_areas") : (lf ar wd n).lookup x = none := by
  unfold lf
  rw [lookup_putF, if_neg h1, lookup_putF, if_neg h2, lookup_putF, if_neg h3]
  rfl
/-- a method of the class at C that keeps a promise -/
structure Md (P : Program) (w : World) (K : PySem.W.Frag) (mg : Str → Option Value) (base : Heap) (C : Addr) (x : Str) (ps : List Str) (k : Nat) (sp : Sp) (f : Addr) (fd : FuncData) : Prop where
  m : Meth K C x f
  b : Binds K fd ps []
  ok : FnOk P w K mg base CX0 k f fd ps sp
section
variable {P : Program} {w : World} {K : PySem.W.Frag} {mg : Str → Option Value} {base : Heap}
theorem scStn : FnScope ["live", "words", "many", "told"] ["live", "words", "many"] (defScope sStn) := ⟨rfl, rfl, rfl, by decide +kernel, rfl, by decide +kernel, by decide +kernel⟩
def spStn (C2 : Addr) : Sp := fun vs H Q _ => ∃ (x ar wd wl : Addr) (L : List (List Int)) (W : List V) (n : Int) (r : Nat), vs = [.ref x, .ref wl, .int n] ∧ LiveAt C2 H x ar wd L W n ∧ H wl = some (.lst W) ∧ Wok r W ∧ 1 ≤ r ∧ r ≤ 12 ∧ ∀ H', Same H H' → Q (.bl true) H'
theorem ok_stn {f C2 f1 pc fc fw : Addr} {fd fd1 fdc fdw : FuncData} (F : Fun K "_law_stands" "_law_stands" sStn f fd) (T : Bi mg) (U2 : Ls K mg C2) (d__law_same : Df P w K mg base "_law_same" ["got", "due"] 4 (spSame 3) f1 fd1) (pp : PropOf K C2 "calls" pc fc) (bc : Binds K fdc ["self"] []) (Gc : FnOk P w K mg base CX0 1 fc fdc ["self"] (spLcalls C2)) (m_words : Md P w K mg base C2 "words" ["self"] 1 (spLwords C2) fw fdw) : FnOk P w K mg base CX0 5 f fd ["live", "words", "many"] (spStn C2) := by
  refine F.ok scStn (fun vs H Q E h => ?_) (fun cdv A outer s0 H vs Q E hr h => ?_)
  · obtain ⟨x, ar, wd, wl, L, W, n, r, rfl, _⟩ := h
    rfl
  · obtain ⟨x, ar, wd, wl, L, W, n, r, rfl, lv, hw, wok, r1, r12, ret⟩ := h
    refine ⟨_, (pss_cons (ps_if (pt_not (pt_val (pe_call d__law_same.ok (hr.mono (by decide)) (by rfl) d__law_same.at_ d__law_same.kp d__law_same.b .nil pass0 (pa_cons (pe_prop (pv 0) U2.cl pp Gc (hr.mono (by decide)) bc .nil pass0 (by rfl)) (pa_cons (pv 2) pa_nil)))))
      (pss_one (ps_ret pe_bl))
      pss_nil)
      (pss_cons (ps_set (i := 3) scStn.nd rfl (Or.inl rfl) (pe_meth0 (pv 0) U2.cl m_words.m m_words.ok (hr.mono (by decide)) m_words.b .nil pass0))
      (pss_cons (ps_if (pt_not (pt_val (pe_call d__law_same.ok (hr.mono (by decide)) (by rfl) d__law_same.at_ d__law_same.kp d__law_same.b .nil pass0 (pa_cons (pv 3) (pa_cons (pv 1) pa_nil)))))
      (pss_one (ps_ret pe_bl))
      pss_nil)
      (pss_cons (ps_asg pe_str (pg_sub (pv 3) pe_int set_list))
      (pss_cons (ps_expr (pe_bm PySem.F.plainAttrs_list PySem.F.slot_list_append PySem.F.type_list_append mt_append (pv 3) (pa_cons pe_non pa_nil)))
      (pss_one (ps_ret (pe_call d__law_same.ok (hr.mono (by decide)) (by rfl) d__law_same.at_ d__law_same.kp d__law_same.b .nil pass0 (pa_cons (pe_meth0 (pv 0) U2.cl m_words.m m_words.ok (hr.mono (by decide)) m_words.b .nil pass0) (pa_cons (pv 1) pa_nil)))))))))), ?_⟩
    walk_at "rd"
    obtain ⟨dx, us, h1, h2, h3⟩ := lv.ex
    have W1 := wok.1
    refine ⟨_, rfl, x, dx, _, rfl, h1, x, ar, wd, L, W, n, rfl, lv, ?_⟩
    refine same_ok (Sm.flat rfl) ⟨true, rfl, iteF ?_⟩
    refine ⟨dx, _, h1, lf_no _ _ _ (by decide +kernel) (by decide +kernel) (by decide +kernel), x, ar, wd, L, W, n, rfl, lv, fun q nq => ?_⟩
    have s1 : Same H (upd H q (HO.lst W)) := same_upd nq
    have hq1 : upd H q (HO.lst W) q = some (.lst W) := upd_same
    generalize upd H q (HO.lst W) = H1 at s1 hq1
    refine same_ok (sm_flats hq1 (s1 _ _ hw) wok.2 (by omega) 2) ⟨true, rfl, iteF ?_⟩
    refine ⟨q, rfl, W, hq1, 0, ixn (j := 0) rfl (by omega), .inl ⟨rfl, _, SqL.of upd_same⟩, q, rfl, _, upd_same, len_big (by rw [List.length_set]; omega), ?_⟩
    have s2 := same_ch (o := HO.lst ((W.set 0 (V.str (Str.ofString "a"))) ++ [V.non])) (same_ch (o := HO.lst (W.set 0 (V.str (Str.ofString "a")))) s1 nq) nq
    generalize upd (upd H1 q (HO.lst (W.set 0 (V.str (Str.ofString "a"))))) q (HO.lst ((W.set 0 (V.str (Str.ofString "a"))) ++ [V.non])) = H2 at s2 ⊢
    refine ⟨dx, _, s2 _ _ h1, lf_no _ _ _ (by decide +kernel) (by decide +kernel) (by decide +kernel), x, ar, wd, L, W, n, rfl, lv.same s2, fun q2 nq2 => ?_⟩
    have s3 := s2.trans (same_upd (o := HO.lst W) nq2)
    exact same_ok (sm_flats upd_same (s3 _ _ hw) wok.2 (by omega) 2) (ret _ s3)
end

theorem LiveAt.setL {C : Addr} {H : Hp} {x ar wd b : Addr} {L : List (List Int)} {W us vs : List V} {n : Int} (h : LiveAt C H x ar wd L W n) (hb : H b = some (.lst us)) (n2 : ar ≠ b) (n3 : wd ≠ b) : LiveAt C (upd H b (.lst vs)) x ar wd L W n := by
  obtain ⟨dx, _, h1, _, _⟩ := h.ex
  refine h.keep (fun c o hc e => ?_) (KT.lst hb)
  rw [upd_ne]
  · exact e
  · rcases hc with z | z | z
    · rw [z]
      exact ne_of h1 hb (by intro z; cases z)
    · rw [z]; exact n2
    · rw [z]; exact n3
def duo {α : Type} (a b : α) (v : Nat) : α := if v = 0 then a else b
def setN {α : Type} (f : Nat → α) (w : Nat) (x : α) (v : Nat) : α := if v = w then x else f v
theorem setN_setN {α : Type} (f : Nat → α) (w : Nat) (x y : α) : setN (setN f w x) w y = setN f w y := funext fun v => by
  unfold setN
  by_cases e : v = w
  · rw [if_pos e, if_pos e]
  · rw [if_neg e, if_neg e, if_neg e]
theorem setN_at {α : Type} (f : Nat → α) (w : Nat) (x : α) : setN f w x w = x := if_pos rfl
theorem setN_id {α : Type} (f : Nat → α) (w : Nat) : setN f w (f w) = f := funext fun v => by
  unfold setN
  by_cases e : v = w
  · rw [if_pos e, e]
  · rw [if_neg e]
/-- the addresses of the law's duo live houses, and of its own lists -/
structure Ad where
  X : Nat → Addr
  Ar : Nat → Addr
  Wd : Nat → Addr
  U : Nat → Addr
  L : Nat → List (List Int)
  lv : Addr
  wl : Addr
  mn : Addr
  pc : Addr
def Ad.list (A : Ad) : List Addr := [A.X 0, A.Ar 0, A.Wd 0, A.X 1, A.Ar 1, A.Wd 1, A.lv, A.U 0, A.U 1, A.wl, A.mn, A.pc]
theorem nd_ne {l : List Addr} {i j : Nat} {a b : Addr} (h : l.Nodup) (x : l[i]? = some a) (y : l[j]? = some b) (n : i ≠ j) : a ≠ b := fun z => by
  have h1 := List.getElem?_eq_some_iff.mp x
  have h2 := List.getElem?_eq_some_iff.mp y
  rcases Nat.lt_or_ge i j with g | g
  · have := List.pairwise_iff_getElem.mp h i j h1.1 h2.1 g
    exact this (h1.2.trans (z.trans h2.2.symm))
  · have := List.pairwise_iff_getElem.mp h j i h2.1 h1.1 (by omega)
    exact this (h2.2.trans (z.symm.trans h1.2.symm))
theorem gX (A : Ad) : ∀ v, v < 2 → A.list[3 * v]? = some (A.X v)
  | 0, _ => rfl
  | 1, _ => rfl
  | n + 2, h => absurd h (by omega)
theorem gA (A : Ad) : ∀ v, v < 2 → A.list[3 * v + 1]? = some (A.Ar v)
  | 0, _ => rfl
  | 1, _ => rfl
  | n + 2, h => absurd h (by omega)
theorem gW (A : Ad) : ∀ v, v < 2 → A.list[3 * v + 2]? = some (A.Wd v)
  | 0, _ => rfl
  | 1, _ => rfl
  | n + 2, h => absurd h (by omega)
theorem gU (A : Ad) : ∀ v, v < 2 → A.list[7 + v]? = some (A.U v)
  | 0, _ => rfl
  | 1, _ => rfl
  | n + 2, h => absurd h (by omega)
theorem gl (A : Ad) : A.list[6]? = some A.lv := rfl
theorem gw (A : Ad) : A.list[9]? = some A.wl := rfl
theorem gm (A : Ad) : A.list[10]? = some A.mn := rfl
theorem gp (A : Ad) : A.list[11]? = some A.pc := rfl
/-- how things stand between duo calls; HA is the heap before the live houses were made -/
structure MInv (C2 : Addr) (A : Ad) (HA H : Hp) (r : Nat) (ps : List Int) (Wl Wu : Nat → List V) (Nl Nm : Nat → Int) : Prop where
  nd : A.list.Nodup
  new : HA (A.X 0) = none ∧ HA (A.X 1) = none ∧ HA (A.Wd 0) = none ∧ HA (A.Wd 1) = none ∧ HA (A.U 0) = none ∧ HA (A.U 1) = none ∧ HA A.mn = none
  old : Same HA H
  live : ∀ v, v < 2 → LiveAt C2 H (A.X v) (A.Ar v) (A.Wd v) (A.L v) (Wl v) (Nl v)
  us : ∀ v, v < 2 → H (A.U v) = some (.lst (Wu v))
  lv_ : H A.lv = some (.lst [.ref (A.X 0), .ref (A.X 1)])
  wl_ : H A.wl = some (.lst [.ref (A.U 0), .ref (A.U 1)])
  mn_ : H A.mn = some (.lst [.int (Nm 0), .int (Nm 1)])
  pc_ : H A.pc = some (.lst (ps.map V.int))
  okl : ∀ v, v < 2 → Wok r (Wl v)
  oku : ∀ v, v < 2 → Wok r (Wu v)
theorem v01 {v : Nat} {p : Nat → Prop} (h0 : p 0) (h1 : p 1) : v < 2 → p v := fun h => by
  match v, h with
  | 0, _ => exact h0
  | 1, _ => exact h1
  | n + 2, h => exact absurd h (by omega)
section
variable {C2 : Addr} {A : Ad} {HA H H' : Hp} {r : Nat} {ps : List Int} {Wl Wu : Nat → List V} {Nl Nm : Nat → Int}
theorem MInv.same (h : MInv C2 A HA H r ps Wl Wu Nl Nm) (s : Same H H') : MInv C2 A HA H' r ps Wl Wu Nl Nm :=
  ⟨h.nd, h.new, h.old.trans s, fun v hv => (h.live v hv).same s, fun v hv => s _ _ (h.us v hv), s _ _ h.lv_, s _ _ h.wl_, s _ _ h.mn_, s _ _ h.pc_, h.okl, h.oku⟩
theorem MInv.nX (h : MInv C2 A HA H r ps Wl Wu Nl Nm) {w : Nat} (hw : w < 2) : HA (A.X w) = none := v01 (p := fun w => HA (A.X w) = none) h.new.1 h.new.2.1 hw
theorem MInv.nW (h : MInv C2 A HA H r ps Wl Wu Nl Nm) {w : Nat} (hw : w < 2) : HA (A.Wd w) = none := v01 (p := fun w => HA (A.Wd w) = none) h.new.2.2.1 h.new.2.2.2.1 hw
theorem MInv.nU (h : MInv C2 A HA H r ps Wl Wu Nl Nm) {w : Nat} (hw : w < 2) : HA (A.U w) = none := v01 (p := fun w => HA (A.U w) = none) h.new.2.2.2.2.1 h.new.2.2.2.2.2.1 hw
/-- a call in the live house w -/
theorem MInv.call (h : MInv C2 A HA H r ps Wl Wu Nl Nm) {w : Nat} (hw : w < 2) {W : List V} {n : Int} (lv : LiveAt C2 H' (A.X w) (A.Ar w) (A.Wd w) (A.L w) W n) (k : ∀ b o, H b = some o → b ≠ A.X w → b ≠ A.Wd w → H' b = some o) (ok : Wok r W) :
    MInv C2 A HA H' r ps (setN Wl w W) Wu (setN Nl w n) Nm := by
  have kt : KT H H' := fun t xs e => by
    obtain ⟨dx, us, h1, _, _⟩ := (h.live w hw).ex
    exact k t _ e (ne_of e h1 (by intro z; cases z)) (ne_of e (h.live w hw).wd_ (by intro z; cases z))
  have kk : ∀ {b : Addr} {o : HO} {i : Nat}, H b = some o → A.list[i]? = some b → i ≠ 3 * w → i ≠ 3 * w + 2 → H' b = some o := fun {b o i} e g n1 n2 => k b o e (nd_ne h.nd g (gX A w hw) n1) (nd_ne h.nd g (gW A w hw) n2)
  refine ⟨h.nd, h.new, fun b o e => k b o (h.old _ _ e) (fun z => by rw [z, h.nX hw] at e; cases e) (fun z => by rw [z, h.nW hw] at e; cases e), fun v hv => ?_, fun v hv => kk (h.us v hv) (gU A v hv) (by omega) (by omega), kk h.lv_ (gl A) (by omega) (by omega), kk h.wl_ (gw A) (by omega) (by omega), kk h.mn_ (gm A) (by omega) (by omega), kk h.pc_ (gp A) (by omega) (by omega), fun v hv => ?_, h.oku⟩
  · unfold setN
    by_cases e : v = w
    · subst e
      rw [if_pos rfl, if_pos rfl]
      exact lv
    · rw [if_neg e, if_neg e]
      refine (h.live v hv).keep (fun b o hb e2 => ?_) kt
      rcases hb with z | z | z
      · subst z; exact kk e2 (gX A v hv) (by omega) (by omega)
      · subst z; exact kk e2 (gA A v hv) (by omega) (by omega)
      · subst z; exact kk e2 (gW A v hv) (by omega) (by omega)
  · unfold setN
    by_cases e : v = w
    · rw [if_pos e]; exact ok
    · rw [if_neg e]; exact h.okl v hv
/-- a list that none of them is -/
theorem MInv.other (h : MInv C2 A HA H r ps Wl Wu Nl Nm) {b : Addr} {us vs : List V} (hb : H b = some (.lst us)) (n : ∀ c ∈ A.list, c ≠ b) (na : HA b = none) : MInv C2 A HA (upd H b (.lst vs)) r ps Wl Wu Nl Nm := by
  have kk : ∀ {c : Addr} {o : HO} {i : Nat}, H c = some o → A.list[i]? = some c → upd H b (.lst vs) c = some o := fun {c o i} e g => by
    rw [upd_ne (n c (List.mem_of_getElem? g))]
    exact e
  exact ⟨h.nd, h.new, same_ch h.old na, fun v hv => (h.live v hv).setL hb (n _ (List.mem_of_getElem? (gA A v hv))) (n _ (List.mem_of_getElem? (gW A v hv))), fun v hv => kk (h.us v hv) (gU A v hv), kk h.lv_ (gl A), kk h.wl_ (gw A), kk h.mn_ (gm A), kk h.pc_ (gp A), h.okl, h.oku⟩
theorem MInv.setU (h : MInv C2 A HA H r ps Wl Wu Nl Nm) {w : Nat} (hw : w < 2) {W : List V} (ok : Wok r W) : MInv C2 A HA (upd H (A.U w) (.lst W)) r ps Wl (setN Wu w W) Nl Nm := by
  have hb := h.us w hw
  have kk : ∀ {c : Addr} {o : HO} {i : Nat}, H c = some o → A.list[i]? = some c → i ≠ 7 + w → upd H (A.U w) (.lst W) c = some o := fun {c o i} e g n => by
    rw [upd_ne (nd_ne h.nd g (gU A w hw) n)]
    exact e
  refine ⟨h.nd, h.new, same_ch h.old (h.nU hw), fun v hv => (h.live v hv).setL hb (nd_ne h.nd (gA A v hv) (gU A w hw) (by omega)) (nd_ne h.nd (gW A v hv) (gU A w hw) (by omega)), fun v hv => ?_, kk h.lv_ (gl A) (by omega), kk h.wl_ (gw A) (by omega), kk h.mn_ (gm A) (by omega), kk h.pc_ (gp A) (by omega), h.okl, fun v hv => ?_⟩
  · unfold setN
    by_cases e : v = w
    · rw [if_pos e, e]; exact upd_same
    · rw [if_neg e]; exact kk (h.us v hv) (gU A v hv) (by omega)
  · unfold setN
    by_cases e : v = w
    · rw [if_pos e]; exact ok
    · rw [if_neg e]; exact h.oku v hv
theorem MInv.setM (h : MInv C2 A HA H r ps Wl Wu Nl Nm) {w : Nat} {x : Int} : MInv C2 A HA (upd H A.mn (.lst [.int (setN Nm w x 0), .int (setN Nm w x 1)])) r ps Wl Wu Nl (setN Nm w x) := by
  have hb := h.mn_
  have kk : ∀ {c : Addr} {o : HO} {i : Nat}, H c = some o → A.list[i]? = some c → i ≠ 10 → upd H A.mn (.lst [.int (setN Nm w x 0), .int (setN Nm w x 1)]) c = some o := fun {c o i} e g n => by
    rw [upd_ne (nd_ne h.nd g (gm A) n)]
    exact e
  exact ⟨h.nd, h.new, same_ch h.old h.new.2.2.2.2.2.2, fun v hv => (h.live v hv).setL hb (nd_ne h.nd (gA A v hv) (gm A) (by omega)) (nd_ne h.nd (gW A v hv) (gm A) (by omega)), fun v hv => kk (h.us v hv) (gU A v hv) (by omega), kk h.lv_ (gl A) (by omega), kk h.wl_ (gw A) (by omega), upd_same, kk h.pc_ (gp A) (by omega), h.okl, h.oku⟩
/-- all of them stand -/
theorem MInv.stand (h : MInv C2 A HA H r ps Wl Wu Nl Nm) : ∀ c ∈ A.list, ∃ o, H c = some o := by
  obtain ⟨d0, u0, a1, a2, _⟩ := (h.live 0 (by decide)).ex
  obtain ⟨d1, u1, b1, b2, _⟩ := (h.live 1 (by decide)).ex
  have a3 := (h.live 0 (by decide)).wd_
  have b3 := (h.live 1 (by decide)).wd_
  have c0 := h.us 0 (by decide)
  have c1 := h.us 1 (by decide)
  intro c hc
  unfold Ad.list at hc
  simp only [List.mem_cons, List.not_mem_nil, or_false] at hc
  rcases hc with z | z | z | z | z | z | z | z | z | z | z | z <;> rw [z]
  · exact ⟨_, a1⟩
  · exact ⟨_, a2⟩
  · exact ⟨_, a3⟩
  · exact ⟨_, b1⟩
  · exact ⟨_, b2⟩
  · exact ⟨_, b3⟩
  · exact ⟨_, h.lv_⟩
  · exact ⟨_, c0⟩
  · exact ⟨_, c1⟩
  · exact ⟨_, h.wl_⟩
  · exact ⟨_, h.mn_⟩
  · exact ⟨_, h.pc_⟩
end

theorem mem_ex {H H' : Hp} (s : ∀ b o, H b = some o → ∃ o', H' b = some o') {l : List Addr} (h : ∀ b ∈ l, ∃ o, H b = some o) : ∀ b ∈ l, ∃ o, H' b = some o := fun b hb => by
  obtain ⟨o, e⟩ := h b hb
  exact s b o e
/-- these stand, each once -/
def Al (H : Hp) (l : List Addr) : Prop := (∀ b ∈ l, ∃ o, H b = some o) ∧ l.Nodup
theorem Al.add {H H' : Hp} {l : List Addr} {b : Addr} (h : Al H l) (n : H b = none) (s : ∀ c o, H c = some o → ∃ o', H' c = some o') (e : ∃ o, H' b = some o) : Al H' (l ++ [b]) := by
  refine ⟨fun c hc => ?_, List.nodup_append.mpr ⟨h.2, List.pairwise_singleton _ _, fun x hx y hy z => ?_⟩⟩
  · rcases List.mem_append.mp hc with m | m
    · obtain ⟨o, q⟩ := h.1 c m
      exact s c o q
    · rw [List.mem_singleton.mp m]
      exact e
  · rw [List.mem_singleton.mp hy] at z
    obtain ⟨o, q⟩ := h.1 x hx
    rw [z, n] at q
    cases q
theorem Al.addL {H H' : Hp} {l bs : List Addr} (h : Al H l) (nd : bs.Nodup) (n : ∀ b ∈ bs, H b = none) (s : ∀ c o, H c = some o → ∃ o', H' c = some o') (e : ∀ b ∈ bs, ∃ o, H' b = some o) : Al H' (l ++ bs) := by
  refine ⟨fun c hc => ?_, List.nodup_append.mpr ⟨h.2, nd, fun x hx y hy z => ?_⟩⟩
  · rcases List.mem_append.mp hc with m | m
    · obtain ⟨o, q⟩ := h.1 c m
      exact s c o q
    · exact e c m
  · obtain ⟨o, q⟩ := h.1 x hx
    rw [z, n y hy] at q
    cases q
theorem Al.mono {H H' : Hp} {l : List Addr} (h : Al H l) (s : ∀ c o, H c = some o → ∃ o', H' c = some o') : Al H' l := ⟨mem_ex s h.1, h.2⟩
theorem same_ex {H H' : Hp} (s : Same H H') : ∀ c o, H c = some o → ∃ o', H' c = some o' := fun c o e => ⟨o, s c o e⟩
theorem PL.sm {H : Hp} {x y : Addr} {us vs : List V} {E : List Pr} (hx : H x = some (.lst us)) (hy : H y = some (.lst vs)) (pu : PL H us E) (pv : PL H vs E) (hl : E.length ≤ 100000) (n : Nat) : Sm H (n + 2) (.ref x) (.ref y) := by
  refine .inr ⟨x, y, _, _, rfl, rfl, .inl ⟨hx, hy⟩, ?_, by rw [pu.len]; exact hl⟩
  clear hx hy hl
  induction pu generalizing vs with
  | nil => cases pv; exact Paired.nil
  | cons r _ ih =>
    cases pv with
    | cons r2 t2 =>
      obtain ⟨t, rfl, e1⟩ := r
      obtain ⟨t', rfl, e2⟩ := r2
      exact Paired.cons (.inr ⟨t, t', _, _, rfl, rfl, .inr ⟨e1, e2⟩, .cons (Sm.flat rfl) (.cons (Sm.flat rfl) .nil), (by show 2 ≤ 100000; decide)⟩) (ih t2)
theorem use_linit {C C2 x dx p l : Addr} {r : Nat} {us : List V} {D0 D : List Pr} {own : List Addr} {H : Hp} {Q : VK} {E : XK} (nx : H x = none) (ndx : H dx = none) (hh : HouseAt C H p r D0 own) (hl : H l = some (.lst us)) (pl : PL H us D) (drs : Drs r D)
    (q : ∀ (ar wd : Addr) (L : List (List Int)) (H2 : Hp), Pcs D (rg r) L → LiveAt C2 H2 x ar wd L (List.replicate r .non) 0 → Same H H2 → H ar = none → H wd = none → x ≠ ar → x ≠ wd → Q .non H2) : spLinit C C2 [.ref x, .ref p, .ref l] (upd (upd H dx (.own x)) x (.ins C2 dx [])) Q E := by
  have s0 : Same H (upd (upd H dx (.own x)) x (.ins C2 dx [])) := fun b o e => by
    rw [upd_ne (ne_of_none e nx), upd_ne (ne_of_none e ndx)]
    exact e
  refine ⟨x, dx, p, l, r, us, D0, D, own, rfl, upd_same, hh.same s0, s0 _ _ hl, pl.kt (KT.same s0), drs, fun ar wd L H' pc lv keep na nw => ?_⟩
  refine q ar wd L H' pc lv (fun b o e => keep b o (s0 b o e) (ne_of_none e nx)) (s0.free na) (s0.free nw) (fun z => ?_) (fun z => ?_)
  · rw [← z, upd_same] at na; cases na
  · rw [← z, upd_same] at nw; cases nw
section
variable {P : Program} {w : World} {K : PySem.W.Frag} {mg : Str → Option Value} {base : Heap}
theorem scLaw : FnScope ["script", "n", "p", "q", "rooms", "doors", "openings", "parts", "pool", "house", "handed", "lives", "room", "words", "many", "places", "k", "cell", "which", "word", "hearers", "told", "hearer", "opening"] ["script"] (defScope sLaw) := ⟨rfl, rfl, rfl, by decide +kernel, rfl, by decide +kernel, by decide +kernel⟩
def spLaw (K : PySem.W.Frag) : Sp := fun vs H Q _ => ∃ (a : Addr) (ns : List Int), vs = [.ref a] ∧ SqL K H a (ns.map V.int) ∧ ns.length ≤ 63 ∧ ∀ H', Q (.bl true) H'
theorem ok_law {f C C2 fi fi2 f1 f2 f3 f4 f5 f6 f7 f8 f9 f10 fc : Addr} {fd fdi fdi2 fd1 fd2 fd3 fd4 fd5 fd6 fd7 fd8 fd9 fd10 fdc : FuncData} (F : Fun K "law" "law" sLaw f fd) (T : Bi mg) (U : Hs K mg C) (U2 : Ls K mg C2) (M : Mk K C fi) (Gi : FnOk P w K mg base CX0 2 fi fdi ["self", "rooms", "doors"] (spHinit C)) (bi : Binds K fdi ["self", "rooms", "doors"] [])
    (M2 : Mk K C2 fi2) (Gi2 : FnOk P w K mg base CX0 6 fi2 fdi2 ["self", "house", "opening"] (spLinit C C2)) (bi2 : Binds K fdi2 ["self", "house", "opening"] []) (m_call : Md P w K mg base C2 "call" ["self", "room", "word"] 1 (spLcall C2) fc fdc)
    (d__law_cell : Df P w K mg base "_law_cell" ["script", "k"] 1 (spCell K) f1 fd1) (d__law_numbers : Df P w K mg base "_law_numbers" ["cell", "count"] 1 (spNum K) f2 fd2) (d__law_doors : Df P w K mg base "_law_doors" ["numbers", "rooms"] 2 (spDrs K) f3 fd3)
    (d__law_opening : Df P w K mg base "_law_opening" ["numbers", "doors"] 1 (spOpe K) f4 fd4) (d__law_pieces : Df P w K mg base "_law_pieces" ["doors", "rooms"] 2 (spLpc K) f5 fd5) (d__law_pool : Df P w K mg base "_law_pool" ["numbers", "at", "many"] 2 (spPool K) f6 fd6)
    (d__law_same : Df P w K mg base "_law_same" ["got", "due"] 4 (spSame 3) f7 fd7) (d__law_called_word : Df P w K mg base "_law_called_word" ["rest", "pool"] 2 spCw f8 fd8) (d__law_holding : Df P w K mg base "_law_holding" ["parts", "room"] 1 (spHold K) f9 fd9) (d__law_stands : Df P w K mg base "_law_stands" ["live", "words", "many"] 5 (spStn C2) f10 fd10) : FnOk P w K mg base CX0 8 f fd ["script"] (spLaw K) := by
  refine F.ok scLaw (fun vs H Q E h => ?_) (fun cdv A outer s H vs Q E hr h => ?_)
  · obtain ⟨a, ns, rfl, _⟩ := h
    rfl
  · obtain ⟨a, ss, rfl, hS, h63, q⟩ := h
    refine ⟨_, (pss_cons (ps_set (i := 1) scLaw.nd rfl (Or.inl rfl) (pe_call d__law_numbers.ok (hr.mono (by decide)) (by rfl) d__law_numbers.at_ d__law_numbers.kp d__law_numbers.b .nil pass0 (pa_cons (pe_call d__law_cell.ok (hr.mono (by decide)) (by rfl) d__law_cell.at_ d__law_cell.kp d__law_cell.b .nil pass0 (pa_cons (pv 0) (pa_cons pe_int pa_nil))) (pa_cons pe_int pa_nil))))
      (pss_cons (ps_set (i := 2) scLaw.nd rfl (Or.inl rfl) (pe_call d__law_numbers.ok (hr.mono (by decide)) (by rfl) d__law_numbers.at_ d__law_numbers.kp d__law_numbers.b .nil pass0 (pa_cons (pe_call d__law_cell.ok (hr.mono (by decide)) (by rfl) d__law_cell.at_ d__law_cell.kp d__law_cell.b .nil pass0 (pa_cons (pv 0) (pa_cons pe_int pa_nil))) (pa_cons pe_int pa_nil))))
      (pss_cons (ps_set (i := 3) scLaw.nd rfl (Or.inl rfl) (pe_call d__law_numbers.ok (hr.mono (by decide)) (by rfl) d__law_numbers.at_ d__law_numbers.kp d__law_numbers.b .nil pass0 (pa_cons (pe_call d__law_cell.ok (hr.mono (by decide)) (by rfl) d__law_cell.at_ d__law_cell.kp d__law_cell.b .nil pass0 (pa_cons (pv 0) (pa_cons pe_int pa_nil))) (pa_cons pe_int pa_nil))))
      (pss_cons (ps_set (i := 4) scLaw.nd rfl (Or.inr rfl) (pe_op op_add pe_int (pe_op op_mod (pe_callTy cr_intI (by rfl) T.int (by decide +kernel) (pa_cons (pe_op op_fdiv (pe_ix ix_list (pv 1) pe_int (fun _ _ => rfl)) pe_int) pa_nil)) pe_int)))
      (pss_cons (ps_set (i := 5) scLaw.nd rfl (Or.inl rfl) (pe_call d__law_doors.ok (hr.mono (by decide)) (by rfl) d__law_doors.at_ d__law_doors.kp d__law_doors.b .nil pass0 (pa_cons (pv 1) (pa_cons (pv 4) pa_nil))))
      (pss_cons (ps_set (i := 6) scLaw.nd rfl (Or.inl rfl) (pe_lst (pa_cons (pe_call d__law_opening.ok (hr.mono (by decide)) (by rfl) d__law_opening.at_ d__law_opening.kp d__law_opening.b .nil pass0 (pa_cons (pv 2) (pa_cons (pv 5) pa_nil))) (pa_cons (pe_call d__law_opening.ok (hr.mono (by decide)) (by rfl) d__law_opening.at_ d__law_opening.kp d__law_opening.b .nil pass0 (pa_cons (pv 3) (pa_cons (pv 5) pa_nil))) pa_nil))))
      (pss_cons (ps_setLc (i := 7) (own := [("opening", 23)]) (by rfl) scLaw.nd rfl rfl (sw_true rfl rfl rfl (by decide +kernel)) (pi_list (pv 6)) (blkOk_by (N := ["script", "n", "p", "q", "rooms", "doors", "openings", "parts", "pool", "house", "handed", "lives", "room", "words", "many", "places", "k", "cell", "which", "word", "hearers", "told", "hearer", "opening"]) (sc := defScope sLaw) (by decide +kernel)) (fun _ _ _ _ _ => pg_name (i := 23) scLaw.nd rfl (Or.inl rfl)) (fun _ _ _ _ _ => pts_nil) (fun _ _ _ _ _ => (pe_call d__law_pieces.ok (hr.mono (by decide)) (by rfl) d__law_pieces.at_ d__law_pieces.kp d__law_pieces.b .nil pass0 (pa_cons (pv 23) (pa_cons (pe_listRg rfl (by rfl) T.list (prg_1 (by rfl) T.range (pv 4))) pa_nil)))))
      (pss_cons (ps_set (i := 8) scLaw.nd rfl (Or.inl rfl) (pe_call d__law_pool.ok (hr.mono (by decide)) (by rfl) d__law_pool.at_ d__law_pool.kp d__law_pool.b .nil pass0 (pa_cons (pv 2) (pa_cons pe_int (pa_cons (pe_op op_add pe_int (pe_op op_mod (pe_callTy cr_intI (by rfl) T.int (by decide +kernel) (pa_cons (pe_ix ix_list (pv 2) pe_int (fun _ _ => rfl)) pa_nil)) pe_int)) pa_nil)))))
      (pss_cons (ps_set (i := 9) scLaw.nd rfl (Or.inl rfl) (pe_make M Gi (hr.mono (by decide)) (by rfl) U.mgC bi .nil pass0 (pa_cons (pv 4) (pa_cons (pe_callTy call_list_of (by rfl) T.list (by decide +kernel) (pa_cons (pv 5) pa_nil)) pa_nil))))
      (pss_cons (ps_set (i := 10) scLaw.nd rfl (Or.inl rfl) (pe_lst (pa_cons (pe_callTy call_list_of (by rfl) T.list (by decide +kernel) (pa_cons (pe_ix ix_list (pv 6) pe_int (fun _ _ => rfl)) pa_nil)) (pa_cons (pe_callTy call_list_of (by rfl) T.list (by decide +kernel) (pa_cons (pe_ix ix_list (pv 6) pe_int (fun _ _ => rfl)) pa_nil)) pa_nil))))
      (pss_cons (ps_set (i := 11) scLaw.nd rfl (Or.inl rfl) (pe_lst (pa_cons (pe_make M2 Gi2 (hr.mono (by decide)) (by rfl) U2.mgC bi2 .nil pass0 (pa_cons (pv 9) (pa_cons (pe_ix ix_list (pv 10) pe_int (fun _ _ => rfl)) pa_nil))) (pa_cons (pe_make M2 Gi2 (hr.mono (by decide)) (by rfl) U2.mgC bi2 .nil pass0 (pa_cons (pv 9) (pa_cons (pe_ix ix_list (pv 10) pe_int (fun _ _ => rfl)) pa_nil))) pa_nil))))
      (pss_cons (ps_if (pt_not (pt_val (pe_call d__law_same.ok (hr.mono (by decide)) (by rfl) d__law_same.at_ d__law_same.kp d__law_same.b .nil pass0 (pa_cons (pv 10) (pa_cons (pv 6) pa_nil)))))
      (pss_one (ps_ret pe_bl))
      pss_nil)
      (pss_cons (ps_expr (pe_bm0 PySem.F.plainAttrs_list PySem.F.slot_list_clear PySem.F.type_list_clear mt_clear (pe_ix ix_list (pv 10) pe_int (fun _ _ => rfl))))
      (pss_cons (ps_expr (pe_bm PySem.F.plainAttrs_list PySem.F.slot_list_append PySem.F.type_list_append mt_append (pe_ix ix_list (pv 10) pe_int (fun _ _ => rfl)) (pa_cons (pe_tup (pa_cons pe_int (pa_cons pe_int pa_nil))) pa_nil)))
      (pss_cons (ps_set (i := 13) scLaw.nd rfl (Or.inl rfl) (pe_lst (pa_cons (pe_lc (own := [("room", 12)]) (te := tC .non) (by rfl) scLaw.nd (pi_range1 (by rfl) T.range (pa_cons (pv 4) pa_nil)) (blkOk_by (N := ["script", "n", "p", "q", "rooms", "doors", "openings", "parts", "pool", "house", "handed", "lives", "room", "words", "many", "places", "k", "cell", "which", "word", "hearers", "told", "hearer", "opening"]) (sc := defScope sLaw) (by decide +kernel)) (fun _ _ _ _ _ => pg_name (i := 12) scLaw.nd rfl (Or.inl rfl)) (fun _ _ _ _ _ => pts_nil) (fun _ _ _ _ _ => pe_non)) (pa_cons (pe_lc (own := [("room", 12)]) (te := tC .non) (by rfl) scLaw.nd (pi_range1 (by rfl) T.range (pa_cons (pv 4) pa_nil)) (blkOk_by (N := ["script", "n", "p", "q", "rooms", "doors", "openings", "parts", "pool", "house", "handed", "lives", "room", "words", "many", "places", "k", "cell", "which", "word", "hearers", "told", "hearer", "opening"]) (sc := defScope sLaw) (by decide +kernel)) (fun _ _ _ _ _ => pg_name (i := 12) scLaw.nd rfl (Or.inl rfl)) (fun _ _ _ _ _ => pts_nil) (fun _ _ _ _ _ => pe_non)) pa_nil))))
      (pss_cons (ps_set (i := 14) scLaw.nd rfl (Or.inl rfl) (pe_lst (pa_cons pe_int (pa_cons pe_int pa_nil))))
      (pss_cons (ps_set (i := 15) scLaw.nd rfl (Or.inl rfl) (pe_listRg rfl (by rfl) T.list (prg_2 (by rfl) T.range pe_int (pe_callB (call_min2 rfl) (by rfl) T.min (by decide +kernel) (pa_cons (pe_callB call_len_seq (by rfl) T.len (by decide +kernel) (pa_cons (pv 0) pa_nil)) (pa_cons pe_int pa_nil))))))
      (pss_cons (ps_for PassesOwn.never rfl (pi_list (pe_op op_cat (pv 15) (pe_revL (pv 15)))) (pg_name (i := 16) scLaw.nd rfl (Or.inl rfl))
      (pss_cons (ps_set (i := 17) scLaw.nd rfl (Or.inl rfl) (pe_call d__law_cell.ok (hr.mono (by decide)) (by rfl) d__law_cell.at_ d__law_cell.kp d__law_cell.b .nil pass0 (pa_cons (pv 0) (pa_cons (pv 16) pa_nil))))
        (pss_cons (ps_set (i := 18) scLaw.nd rfl (Or.inl rfl) (pe_op op_mod (pe_callTy cr_intI (by rfl) T.int (by decide +kernel) (pa_cons (pv 17) pa_nil)) pe_int))
        (pss_cons (ps_set (i := 12) scLaw.nd rfl (Or.inl rfl) (pe_op op_mod (pe_callTy cr_intI (by rfl) T.int (by decide +kernel) (pa_cons (pe_op op_fdiv (pv 17) pe_int) pa_nil)) (pv 4)))
        (pss_cons (ps_set (i := 19) scLaw.nd rfl (Or.inl rfl) (pe_call d__law_called_word.ok (hr.mono (by decide)) (by rfl) d__law_called_word.at_ d__law_called_word.kp d__law_called_word.b .nil pass0 (pa_cons (pe_op op_fdiv (pe_op op_fdiv (pv 17) pe_int) (pv 4)) (pa_cons (pv 8) pa_nil))))
        (pss_cons (ps_set (i := 20) scLaw.nd rfl (Or.inl rfl) (pe_call d__law_holding.ok (hr.mono (by decide)) (by rfl) d__law_holding.at_ d__law_holding.kp d__law_holding.b .nil pass0 (pa_cons (pe_ix ix_list (pv 7) (pv 18) (fun _ _ => rfl)) (pa_cons (pv 12) pa_nil))))
        (pss_cons (ps_set (i := 21) scLaw.nd rfl (Or.inl rfl) (pe_meth (pe_ix ix_list (pv 11) (pv 18) (fun _ _ => rfl)) U2.cl m_call.m m_call.ok (hr.mono (by decide)) m_call.b .nil pass0 (pa_cons (pv 12) (pa_cons (pv 19) pa_nil))))
        (pss_cons (ps_for PassesOwn.never rfl (pi_list (pv 20)) (pg_name (i := 22) scLaw.nd rfl (Or.inl rfl))
        (pss_one (ps_asg (pv 19) (pg_sub (pe_ix ix_list (pv 13) (pv 18) (fun _ _ => rfl)) (pv 22) set_list))))
        (pss_cons (ps_asg (pe_op op_add (pe_ix ix_list (pv 14) (pv 18) (fun _ _ => rfl)) pe_int) (pg_sub (pv 14) (pv 18) set_list))
        (pss_cons (ps_if (pt_not (pt_val (pe_call d__law_same.ok (hr.mono (by decide)) (by rfl) d__law_same.at_ d__law_same.kp d__law_same.b .nil pass0 (pa_cons (pv 21) (pa_cons (pv 20) pa_nil)))))
        (pss_one (ps_ret pe_bl))
        pss_nil)
        (pss_cons (ps_expr (pe_bm PySem.F.plainAttrs_list PySem.F.slot_list_append PySem.F.type_list_append mt_append (pv 21) (pa_cons (pv 4) pa_nil)))
        (pss_one (ps_if (PW.pt (pw_or (pt_not (pt_val (pe_call d__law_stands.ok (hr.mono (by decide)) (by rfl) d__law_stands.at_ d__law_stands.kp d__law_stands.b .nil pass0 (pa_cons (pe_ix ix_list (pv 11) pe_int (fun _ _ => rfl)) (pa_cons (pe_ix ix_list (pv 13) pe_int (fun _ _ => rfl)) (pa_cons (pe_ix ix_list (pv 14) pe_int (fun _ _ => rfl)) pa_nil)))))) (pw_or1 (pt_not (pt_val (pe_call d__law_stands.ok (hr.mono (by decide)) (by rfl) d__law_stands.at_ d__law_stands.kp d__law_stands.b .nil pass0 (pa_cons (pe_ix ix_list (pv 11) pe_int (fun _ _ => rfl)) (pa_cons (pe_ix ix_list (pv 13) pe_int (fun _ _ => rfl)) (pa_cons (pe_ix ix_list (pv 14) pe_int (fun _ _ => rfl)) pa_nil)))))))))
        (pss_one (ps_ret pe_bl))
        pss_nil)))))))))))))
      (pss_cons (ps_if (PW.pt (pw_or (pt_not (pt_val (pe_call d__law_stands.ok (hr.mono (by decide)) (by rfl) d__law_stands.at_ d__law_stands.kp d__law_stands.b .nil pass0 (pa_cons (pe_ix ix_list (pv 11) pe_int (fun _ _ => rfl)) (pa_cons (pe_ix ix_list (pv 13) pe_int (fun _ _ => rfl)) (pa_cons (pe_ix ix_list (pv 14) pe_int (fun _ _ => rfl)) pa_nil)))))) (pw_or1 (pt_not (pt_val (pe_call d__law_stands.ok (hr.mono (by decide)) (by rfl) d__law_stands.at_ d__law_stands.kp d__law_stands.b .nil pass0 (pa_cons (pe_ix ix_list (pv 11) pe_int (fun _ _ => rfl)) (pa_cons (pe_ix ix_list (pv 13) pe_int (fun _ _ => rfl)) (pa_cons (pe_ix ix_list (pv 14) pe_int (fun _ _ => rfl)) pa_nil)))))))))
      (pss_one (ps_ret pe_bl))
      pss_nil)
      (pss_one (ps_ret (pe_call d__law_stands.ok (hr.mono (by decide)) (by rfl) d__law_stands.at_ d__law_stands.kp d__law_stands.b .nil pass0 (pa_cons (pe_make M2 Gi2 (hr.mono (by decide)) (by rfl) U2.mgC bi2 .nil pass0 (pa_cons (pv 9) (pa_cons (pe_callTy call_list_of (by rfl) T.list (by decide +kernel) (pa_cons (pe_ix ix_list (pv 6) pe_int (fun _ _ => rfl)) pa_nil)) pa_nil))) (pa_cons (pe_lc (own := [("room", 12)]) (te := tC .non) (by rfl) scLaw.nd (pi_range1 (by rfl) T.range (pa_cons (pv 4) pa_nil)) (blkOk_by (N := ["script", "n", "p", "q", "rooms", "doors", "openings", "parts", "pool", "house", "handed", "lives", "room", "words", "many", "places", "k", "cell", "which", "word", "hearers", "told", "hearer", "opening"]) (sc := defScope sLaw) (by decide +kernel)) (fun _ _ _ _ _ => pg_name (i := 12) scLaw.nd rfl (Or.inl rfl)) (fun _ _ _ _ _ => pts_nil) (fun _ _ _ _ _ => pe_non)) (pa_cons pe_int pa_nil))))))))))))))))))))))))), ?_⟩
    walk_at "rd"
    refine ⟨a, ss, 0, rfl, hS, fun c0 _ => ⟨c0, 79, rfl, by decide, fun nl ln H1 N1 s1 fn1 hln => ?_⟩⟩
    refine ⟨a, ss, 1, rfl, s1.seq hS, fun c1 _ => ⟨c1, 88, rfl, by decide, fun pl_ lp H2 N2 s2 fm hlp => ?_⟩⟩
    have s02 := s1.trans s2
    refine ⟨a, ss, 2, rfl, s02.seq hS, fun c2 _ => ⟨c2, 67, rfl, by decide, fun ql lq H3 N3 s3 fq hlq => ?_⟩⟩
    have s03 := s02.trans s3
    obtain ⟨n0, gn0⟩ : ∃ n0, nl[0]? = some n0 := ⟨nl[0]'(by rw [N1.1]; omega), List.getElem?_eq_getElem (by rw [N1.1]; omega)⟩
    have g0 : (nl.map V.int)[0]? = some (.int n0) := by rw [List.getElem?_map, gn0]; rfl
    obtain ⟨x87, g87⟩ : ∃ x, (pl_.map V.int)[87]? = some (.int x) := ⟨pl_[87]'(by rw [N2.1]; omega), by rw [List.getElem?_map, List.getElem?_eq_getElem (by rw [N2.1]; omega)]; rfl⟩
    have hln3 := s3 _ _ (s2 _ _ hln)
    have hlp3 := s3 _ _ hlp
    refine ⟨ln, rfl, _, SqL.of hln3, .int n0, at_of (j := 0) rfl g0, _, rfl, ⟨by decide, by decide⟩, by decide, ?_⟩
    obtain ⟨r, er, hr1, hr12⟩ : ∃ r : Nat, 1 + n0 / 8 % 12 = (r : Int) ∧ 1 ≤ r ∧ r ≤ 12 := ⟨(1 + n0 / 8 % 12).toNat, by omega, by omega, by omega⟩
    rw [er]
    refine ⟨ln, nl, r, rfl, SqL.of hln3, by rw [N1.1]; omega, hr1, hr12, fun D us ld H4 drs s4 fd4 hld pD => ?_⟩
    have dl := drs.len hr12
    refine ⟨lp, ld, pl_, us, D, r, rfl, SqL.of (s4 _ _ hlp3), hld, pD, drs, hr12, by rw [N2.1]; omega, fun E0_ ws0 o0 H5 drs0 s5 fo0 ho0 pE0 => ?_⟩
    have s45 := s4.trans s5
    refine ⟨lq, ld, ql, us, D, r, rfl, SqL.of (s45 _ _ hlq), s5 _ _ hld, pD.kt (KT.same s5), drs, hr12, by rw [N3.1]; omega, fun E1_ ws1 o1 H6 drs1 s6 fo1 ho1 pE1 => ⟨by decide, fun ol nol => ?_⟩⟩
    have s46 := s45.trans s6
    have ho0_6 := s6 _ _ ho0
    have pE0_6 := pE0.kt (KT.same s6)
    have s67 : Same H6 (upd H6 ol (HO.lst [V.ref o0, V.ref o1])) := same_upd nol
    have hol : upd H6 ol (HO.lst [V.ref o0, V.ref o1]) ol = some (.lst [V.ref o0, V.ref o1]) := upd_same
    generalize upd H6 ol (HO.lst [V.ref o0, V.ref o1]) = H7 at s67 hol ⊢
    have ho0_7 := s67 _ _ ho0_6
    have ho1_7 := s67 _ _ ho1
    have pE0_7 := pE0_6.kt (KT.same s67)
    have pE1_7 := pE1.kt (KT.same s67)
    have s07 := s03.trans (s46.trans s67)
    refine ⟨_, rfl, ol, rfl, ⟨_, SqL.of hol⟩, fun pt npt => ?_⟩
    obtain ⟨Ef, eEf⟩ : ∃ Ef : Nat → List Pr, Ef = fun v => if v = 0 then E0_ else E1_ := ⟨_, rfl⟩
    obtain ⟨Pv, hPv⟩ : ∃ Pv : Nat → Hp → Prop, Pv = (fun j Hx => Same H7 Hx ∧ ∃ ds : List V, Hx pt = some (.lst ds) ∧ ds.length = j ∧ ∀ v, v < j → ∃ (d : Addr) (us : List V) (L : List (List Int)), ds[v]? = some (.ref d) ∧ d ≠ pt ∧ Hx d = some (.lst us) ∧ RL Hx us L ∧ Pcs (Ef v) (rg r) L) := ⟨_, rfl⟩
    have rgR : ∀ x ∈ rg r, 0 ≤ x ∧ x < r := fun x hx => rg_mem hx
    refine lc_list (K := K) (a := ol) (xs := [V.ref o0, V.ref o1]) Pv (by rw [hPv]; exact ⟨same_upd npt, [], upd_same, rfl, fun v hv => absurd hv (Nat.not_lt_zero v)⟩) (fun j Hx _ pv => by rw [hPv] at pv; exact SqL.of (pv.1 _ _ hol)) (fun j v Hx gv pv => ?_) (fun Hx pv => ?_)
    · rw [hPv] at pv
      obtain ⟨sx, ds, hpt, dsl, all⟩ := pv
      obtain ⟨oj, wsj, Ej, rfl, hoj, pj, eEj⟩ : ∃ (oj : Addr) (wsj : List V) (Ej : List Pr), v = .ref oj ∧ Hx oj = some (.lst wsj) ∧ PL Hx wsj Ej ∧ Ef j = Ej := by
        match j, gv with
        | 0, gv =>
          have := Option.some.inj gv
          exact ⟨o0, ws0, E0_, this.symm, sx _ _ ho0_7, pE0_7.kt (KT.same sx), by rw [eEf]; rfl⟩
        | 1, gv =>
          have := Option.some.inj gv
          exact ⟨o1, ws1, E1_, this.symm, sx _ _ ho1_7, pE1_7.kt (KT.same sx), by rw [eEf]; rfl⟩
        | n + 2, gv => exact absurd gv (by simp)
      have j2 : j < 2 := by
        have := (List.getElem?_eq_some_iff.mp gv).1
        exact this
      simp only [wipe]
      walk_at "rd"
      refine ⟨RgOk.of_le (by omega) (by omega) (by omega) (by omega), fun q nq => ?_⟩
      rw [rgV_rg]
      have sq := same_upd (o := HO.lst ((rg r).map V.int)) nq
      refine ⟨oj, q, wsj, Ej, rg r, rfl, sq _ _ hoj, pj.kt (KT.same sq), .inl (SqL.of upd_same), by rw [rg_len]; omega, fun x hx => (rgR x hx).1, fun L ws t H' pc s' nt ht rl => ?_⟩
      have sx' := sq.trans s'
      have npt0 : pt ≠ t := fun z => by rw [← z, sq _ _ hpt] at nt; cases nt
      refine ⟨ds, sx' _ _ hpt, len_big (by omega), ?_⟩
      rw [hPv]
      refine ⟨same_ch (sx.trans sx') npt, ds ++ [.ref t], upd_same, by rw [List.length_append, dsl]; rfl, fun v hv => ?_⟩
      have kt' : KT H' (upd H' pt (HO.lst (ds ++ [V.ref t]))) := KT.lst (sx' _ _ hpt)
      by_cases e : v = j
      · subst e
        refine ⟨t, ws, L, by rw [List.getElem?_append_right (by omega), dsl, Nat.sub_self]; rfl, npt0.symm, by rw [upd_ne npt0.symm]; exact ht, rl.kt kt', by rw [eEj]; exact pc⟩
      · obtain ⟨d, us, L2_, g1, dp, g2, g3, g4⟩ := all v (by omega)
        exact ⟨d, us, L2_, by rw [List.getElem?_append_left (by omega)]; exact g1, dp, by rw [upd_ne dp]; exact sx' _ _ g2, (g3.kt (KT.same sx')).kt kt', g4⟩
    rw [hPv] at pv
    obtain ⟨s78, ds, hpt, dsl, all⟩ := pv
    clear hPv Pv
    obtain ⟨d0, us0, L0, gd0, _, hd0, rl0, pc0⟩ := all 0 (by show 0 < 2; decide)
    obtain ⟨d1, us1, L1, gd1, _, hd1, rl1, pc1⟩ := all 1 (by show 1 < 2; decide)
    have eds : ds = [.ref d0, .ref d1] := by
      match ds, dsl with
      | [x, y], _ => rw [Option.some.inj gd0, Option.some.inj gd1]
    subst eds
    clear all gd0 gd1 dsl
    rw [eEf] at pc0 pc1
    have pc0 : Pcs E0_ (rg r) L0 := pc0
    have pc1 : Pcs E1_ (rg r) L1 := pc1
    clear eEf Ef
    have s08 := s07.trans s78
    have hlp8 := s78 _ _ ((s46.trans s67) _ _ hlp3)
    have hld8 := s78 _ _ ((s5.trans (s6.trans s67)) _ _ hld)
    have pD8 := ((pD.kt (KT.same (s5.trans (s6.trans s67)))).kt (KT.same s78))
    refine ⟨lp, rfl, _, SqL.of hlp8, .int x87, at_of (j := 87) rfl g87, x87, rfl, by decide, ?_⟩
    obtain ⟨mm, emm, mm1, mm4⟩ : ∃ mm : Nat, 1 + x87 % 4 = mm ∧ 1 ≤ mm ∧ mm ≤ 4 := ⟨(1 + x87 % 4).toNat, by omega, by omega, by omega⟩
    rw [emm]
    refine ⟨lp, pl_, 67, mm, rfl, SqL.of hlp8, by rw [N2.1]; omega, mm1, by omega, fun Z zp H9 tx s9 nzp hzp => ?_⟩
    refine ⟨ld, rfl, us, .inl (SqL.of (s9 _ _ hld8)), fun dl_ ndl => fun y dy ny ndy ney => ?_⟩
    have t1 : Same H9 (upd H9 dl_ (HO.lst us)) := same_upd ndl
    refine use_init ny ndy upd_same ((pD8.kt (KT.same s9)).kt (KT.same t1)) (by rw [mm2_same drs]) drs hr1 hr12 fun own1 HA hh t2 _ => ⟨rfl, ?_⟩
    have s7A := (s78.trans s9).trans (t1.trans t2)
    have s8A := s9.trans (t1.trans t2)
    have s0A := s08.trans s8A
    have hzpA := (t1.trans t2) _ _ hzp
    clear t1 t2
    have holA := s7A _ _ hol
    have ho0A := s7A _ _ ho0_7
    have ho1A := s7A _ _ ho1_7
    have pE0A := pE0_7.kt (KT.same s7A)
    have pE1A := pE1_7.kt (KT.same s7A)
    refine ⟨_, SqL.of holA, .ref o0, at_of (j := 0) rfl rfl, o0, rfl, _, .inl (SqL.of ho0A), fun h0 nh0 => ?_⟩
    have u1 : Same HA (upd HA h0 (HO.lst ws0)) := same_upd nh0
    refine ⟨_, SqL.of (u1 _ _ holA), .ref o1, at_of (j := 1) rfl rfl, o1, rfl, _, .inl (SqL.of (u1 _ _ ho1A)), fun h1 nh1 => ?_⟩
    have u2 := u1.trans (same_upd (o := HO.lst ws1) nh1)
    refine ⟨by decide, fun hl nhl => ?_⟩
    have sAB := u2.trans (same_upd (o := HO.lst [V.ref h0, V.ref h1]) nhl)
    have hh0 : upd (upd (upd HA h0 (HO.lst ws0)) h1 (HO.lst ws1)) hl (HO.lst [V.ref h0, V.ref h1]) h0 = some (.lst ws0) := same_upd nhl _ _ (same_upd nh1 _ _ upd_same)
    have hh1 : upd (upd (upd HA h0 (HO.lst ws0)) h1 (HO.lst ws1)) hl (HO.lst [V.ref h0, V.ref h1]) h1 = some (.lst ws1) := same_upd nhl _ _ upd_same
    have hhl : upd (upd (upd HA h0 (HO.lst ws0)) h1 (HO.lst ws1)) hl (HO.lst [V.ref h0, V.ref h1]) hl = some (.lst [V.ref h0, V.ref h1]) := upd_same
    have alB : Al (upd (upd (upd HA h0 (HO.lst ws0)) h1 (HO.lst ws1)) hl (HO.lst [V.ref h0, V.ref h1])) [h0, h1, hl] := by
      have q01 : h0 ≠ h1 := ne_of_none (upd_same (H := HA)) nh1
      have q02 : h0 ≠ hl := ne_of_none (same_upd nh1 _ _ (upd_same (H := HA))) nhl
      have q12 : h1 ≠ hl := ne_of_none upd_same nhl
      refine ⟨by simp [hh0, hh1, hhl], by simp [q01, q02, q12]⟩
    have nA0 := nh0
    have nA1 := u1.free nh1
    clear u1 u2 nh0 nh1 nhl
    generalize upd (upd (upd HA h0 (HO.lst ws0)) h1 (HO.lst ws1)) hl (HO.lst [V.ref h0, V.ref h1]) = HB at sAB hh0 hh1 hhl alB ⊢
    refine ⟨_, SqL.of hhl, .ref h0, at_of (j := 0) rfl rfl, fun x0 dx0 nx0 ndx0 nex0 => ?_⟩
    refine use_linit nx0 ndx0 (hh.same sAB) hh0 (pE0A.kt (KT.same sAB)) drs0 fun ar0 wd0 L0' HC pc0' lv0 sBC nar0 nwd0 xa0 xw0 => ⟨rfl, ?_⟩
    have e0 := pc0'.uniq pc0 fun _ => Iff.rfl
    subst e0
    have alC := alB.addL (H' := HC) (bs := [x0, ar0, wd0]) (by simp [xa0, xw0, lv0.ne]) (by simp [nx0, nar0, nwd0]) (same_ex sBC) (by
      obtain ⟨dx, us, q1, q2, _⟩ := lv0.ex
      simp [q1, q2, lv0.wd_])
    refine ⟨_, SqL.of (sBC _ _ hhl), .ref h1, at_of (j := 1) rfl rfl, fun x1 dx1 nx1 ndx1 nex1 => ?_⟩
    refine use_linit nx1 ndx1 ((hh.same sAB).same sBC) (sBC _ _ hh1) ((pE1A.kt (KT.same sAB)).kt (KT.same sBC)) drs1 fun ar1 wd1 L1' HD pc1' lv1 sCD nar1 nwd1 xa1 xw1 => ⟨rfl, ?_⟩
    have e1 := pc1'.uniq pc1 fun _ => Iff.rfl
    subst e1
    have alD := alC.addL (H' := HD) (bs := [x1, ar1, wd1]) (by simp [xa1, xw1, lv1.ne]) (by simp [nx1, nar1, nwd1]) (same_ex sCD) (by
      obtain ⟨dx, us, q1, q2, _⟩ := lv1.ex
      simp [q1, q2, lv1.wd_])
    clear pc0' pc1'
    refine ⟨by decide, fun lv_ nlv => ?_⟩
    have alE := alD.addL (H' := upd HD lv_ (HO.lst [V.ref x0, V.ref x1])) (bs := [lv_]) (by simp) (by simp [nlv]) (same_ex (same_upd nlv)) (by simp [upd_same])
    have sDE : Same HD (upd HD lv_ (HO.lst [V.ref x0, V.ref x1])) := same_upd nlv
    have hlv : upd HD lv_ (HO.lst [V.ref x0, V.ref x1]) lv_ = some (.lst [V.ref x0, V.ref x1]) := upd_same
    have lv0E := (lv0.same sCD).same sDE
    have lv1E := lv1.same sDE
    have sBE := (sBC.trans sCD).trans sDE
    have sAE := sAB.trans sBE
    generalize upd HD lv_ (HO.lst [V.ref x0, V.ref x1]) = HE at alE sDE hlv lv0E lv1E sBE sAE ⊢
    have pH0 := (pE0A.kt (KT.same sAE))
    have pH1 := (pE1A.kt (KT.same sAE))
    have dl0 := drs0.len hr12
    have dl1 := drs1.len hr12
    refine same_ok (.inr ⟨hl, ol, _, _, rfl, rfl, .inl ⟨sBE _ _ hhl, sAE _ _ holA⟩, .cons (PL.sm (sBE _ _ hh0) (sAE _ _ ho0A) pH0 pH0 (by omega) 0) (.cons (PL.sm (sBE _ _ hh1) (sAE _ _ ho1A) pH1 pH1 (by omega) 0) .nil), by show 2 ≤ 100000; decide⟩) ⟨true, rfl, iteF ?_⟩
    have nd := alE.2
    have q20 : hl ≠ h0 := nd_ne nd (i := 2) (j := 0) rfl rfl (by decide)
    have q21 : hl ≠ h1 := nd_ne nd (i := 2) (j := 1) rfl rfl (by decide)
    have q10 : h1 ≠ h0 := nd_ne nd (i := 1) (j := 0) rfl rfl (by decide)
    have hh0E := sBE _ _ hh0
    have hh1E := sBE _ _ hh1
    have hhlE := sBE _ _ hhl
    refine ⟨_, SqL.of hhlE, .ref h0, at_of (j := 0) rfl rfl, .inl ⟨rfl, _, SqL.of hh0E⟩, h0, ws0, rfl, rfl, hh0E, ?_⟩
    have v1 : upd HE h0 (HO.lst []) h1 = some (.lst ws1) := by rw [upd_ne q10]; exact hh1E
    have v2 : upd HE h0 (HO.lst []) hl = some (.lst [V.ref h0, V.ref h1]) := by rw [upd_ne q20]; exact hhlE
    have sA1 := same_ch (o := HO.lst []) sAE nA0
    have lv0F := lv0E.setL (vs := []) hh0E (nd_ne nd (i := 4) (j := 0) rfl rfl (by decide)) (nd_ne nd (i := 5) (j := 0) rfl rfl (by decide))
    have lv1F := lv1E.setL (vs := []) hh0E (nd_ne nd (i := 7) (j := 0) rfl rfl (by decide)) (nd_ne nd (i := 8) (j := 0) rfl rfl (by decide))
    have alF := alE.mono (H' := upd HE h0 (HO.lst [])) (fun c o e => by
      by_cases z : c = h0
      · exact ⟨_, by rw [z]; exact upd_same⟩
      · exact ⟨o, by rw [upd_ne z]; exact e⟩)
    have hlvF : upd HE h0 (HO.lst []) lv_ = some (.lst [V.ref x0, V.ref x1]) := by rw [upd_ne (nd_ne nd (i := 9) (j := 0) rfl rfl (by decide))]; exact hlv
    generalize upd HE h0 (HO.lst []) = HF at v1 v2 sA1 lv0F lv1F alF hlvF ⊢
    refine ⟨_, SqL.of v2, .ref h1, at_of (j := 1) rfl rfl, .inl ⟨rfl, _, SqL.of v1⟩, by decide, fun tq ntq => ⟨h1, rfl, ws1, same_upd ntq _ _ v1, len_big (by rw [pE1A.len]; omega), ?_⟩⟩
    have sT := same_upd (o := HO.tup [V.int 0, V.int 0]) ntq
    have v3 : upd HF tq (HO.tup [V.int 0, V.int 0]) h1 = some (.lst ws1) := sT _ _ v1
    have sAG := same_ch (o := HO.lst (ws1 ++ [V.ref tq])) (sA1.trans sT) nA1
    have lv0G := (lv0F.same sT).setL (vs := ws1 ++ [V.ref tq]) v3 (nd_ne nd (i := 4) (j := 1) rfl rfl (by decide)) (nd_ne nd (i := 5) (j := 1) rfl rfl (by decide))
    have lv1G := (lv1F.same sT).setL (vs := ws1 ++ [V.ref tq]) v3 (nd_ne nd (i := 7) (j := 1) rfl rfl (by decide)) (nd_ne nd (i := 8) (j := 1) rfl rfl (by decide))
    have alG := (alF.mono (same_ex sT)).mono (H' := upd (upd HF tq (HO.tup [V.int 0, V.int 0])) h1 (HO.lst (ws1 ++ [V.ref tq]))) (fun c o e => by
      by_cases z : c = h1
      · exact ⟨_, by rw [z]; exact upd_same⟩
      · exact ⟨o, by rw [upd_ne z]; exact e⟩)
    have hlvG : upd (upd HF tq (HO.tup [V.int 0, V.int 0])) h1 (HO.lst (ws1 ++ [V.ref tq])) lv_ = some (.lst [V.ref x0, V.ref x1]) := by rw [upd_ne (nd_ne nd (i := 9) (j := 1) rfl rfl (by decide))]; exact sT _ _ hlvF
    generalize upd (upd HF tq (HO.tup [V.int 0, V.int 0])) h1 (HO.lst (ws1 ++ [V.ref tq])) = HG at sAG lv0G lv1G alG hlvG ⊢
    clear sT v1 v2 v3 sA1 lv0F lv1F alF hlvF lv0E lv1E lv0 lv1 alB alC alD alE hlv hh0E hh1E hhlE pH0 pH1 nlv ntq
    -- words
    refine ⟨_, rfl, r, rfl, by omega, by omega, fun u0 nu0 => ?_⟩
    obtain ⟨Pv, hPv⟩ : ∃ Pv : Nat → Hp → Prop, Pv = (fun j Hx => Same HG Hx ∧ Hx u0 = some (.lst (List.replicate j .non))) := ⟨_, rfl⟩
    refine lc_range (lo := 0) (n := ((r : Nat) : Int).toNat) Pv (by rw [hPv]; exact ⟨same_upd nu0, upd_same⟩) (fun j Hx hj pv => ?_) (fun Hx pv => ?_)
    · rw [hPv] at pv
      obtain ⟨sx, hu⟩ := pv
      simp only [wipe]
      walk_at "rd"
      refine ⟨_, hu, len_big (by rw [List.length_replicate]; omega), ?_⟩
      rw [hPv]
      exact ⟨same_ch sx nu0, by rw [upd_same, List.replicate_succ']⟩
    rw [hPv] at pv
    obtain ⟨sGH, hu0⟩ := pv
    clear hPv Pv
    rw [Int.toNat_natCast] at hu0
    walk_at "rd"
    refine ⟨_, rfl, r, rfl, by omega, by omega, fun u1 nu1 => ?_⟩
    obtain ⟨Pv, hPv⟩ : ∃ Pv : Nat → Hp → Prop, Pv = (fun j Hy => Same Hx Hy ∧ Hy u1 = some (.lst (List.replicate j .non))) := ⟨_, rfl⟩
    refine lc_range (lo := 0) (n := ((r : Nat) : Int).toNat) Pv (by rw [hPv]; exact ⟨same_upd nu1, upd_same⟩) (fun j Hy hj pv => ?_) (fun Hy pv => ?_)
    · rw [hPv] at pv
      obtain ⟨sx, hu⟩ := pv
      simp only [wipe]
      walk_at "rd"
      refine ⟨_, hu, len_big (by rw [List.length_replicate]; omega), ?_⟩
      rw [hPv]
      exact ⟨same_ch sx nu1, by rw [upd_same, List.replicate_succ']⟩
    rw [hPv] at pv
    obtain ⟨sHI, hu1⟩ := pv
    clear hPv Pv
    rw [Int.toNat_natCast] at hu1
    have al1 := alG.addL (H' := Hx) (bs := [u0]) (by simp) (by simp [nu0]) (same_ex sGH) (by simp [hu0])
    have al2 := al1.addL (H' := Hy) (bs := [u1]) (by simp) (by simp [nu1]) (same_ex sHI) (by simp [hu1])
    refine ⟨by decide, fun wl nwl => ⟨by decide, fun mn nmn => ?_⟩⟩
    have s1' := same_upd (o := HO.lst [V.ref u0, V.ref u1]) nwl
    have hwl1 : upd Hy wl (HO.lst [V.ref u0, V.ref u1]) wl = some (.lst [V.ref u0, V.ref u1]) := upd_same
    have al3 := al2.addL (H' := upd Hy wl (HO.lst [V.ref u0, V.ref u1])) (bs := [wl]) (by simp) (by simp [nwl]) (same_ex s1') (by simp [hwl1])
    generalize upd Hy wl (HO.lst [V.ref u0, V.ref u1]) = HJ at s1' hwl1 al3 nmn ⊢
    have s2' := same_upd (o := HO.lst [V.int 0, V.int 0]) nmn
    have hmn1 : upd HJ mn (HO.lst [V.int 0, V.int 0]) mn = some (.lst [V.int 0, V.int 0]) := upd_same
    have al4 := al3.addL (H' := upd HJ mn (HO.lst [V.int 0, V.int 0])) (bs := [mn]) (by simp) (by simp [nmn]) (same_ex s2') (by simp [hmn1])
    generalize upd HJ mn (HO.lst [V.int 0, V.int 0]) = HK at s2' hmn1 al4 ⊢
    have sGK := (sGH.trans sHI).trans (s1'.trans s2')
    have sAK := sAG.trans sGK
    have hSK := (s0A.trans sAK).seq hS
    refine ⟨_, .inl hSK, RgOk.of_le (by omega) (by split <;> omega) (by omega) (by split <;> omega), fun rq nrq => ?_⟩
    obtain ⟨pn, epn⟩ : ∃ pn : List Int, rgV 3 (if 63 < ((ss.map V.int).length : Int) then 63 else ((ss.map V.int).length : Int)) = pn.map V.int ∧ (∀ x ∈ pn, 0 ≤ x) ∧ pn.length ≤ 63 := by
      refine ⟨(List.range ((if 63 < ((ss.map V.int).length : Int) then (63 : Int) else ((ss.map V.int).length : Int)) - 3).toNat).map fun i : Nat => 3 + (i : Int), ?_, fun x hx => ?_, ?_⟩
      · unfold rgV
        rw [List.map_map]
        rfl
      · obtain ⟨i, _, rfl⟩ := List.mem_map.mp hx
        omega
      · rw [List.length_map, List.length_range]
        split <;> omega
    obtain ⟨epn, pn0, pnl⟩ := epn
    rw [epn]
    have s3' := same_upd (o := HO.lst (pn.map V.int)) nrq
    have hrq : upd HK rq (HO.lst (pn.map V.int)) rq = some (.lst (pn.map V.int)) := upd_same
    have al5 := al4.mono (same_ex s3')
    generalize upd HK rq (HO.lst (pn.map V.int)) = HL at s3' hrq al5 ⊢
    refine for_iterW ?_
    walk_at "rd"
    unfold tRevL
    walk_at "rd"
    refine ⟨_, SqL.of hrq, fun rv nrv => ?_⟩
    have s4' := same_upd (o := HO.lst (pn.map V.int).reverse) nrv
    refine ⟨rq, rv, _, _, rfl, rfl, s4' _ _ hrq, upd_same, Nat.le_of_lt (len_big (by rw [List.length_reverse, List.length_map]; omega)), fun pc npc => ?_⟩
    have epc : pn.map V.int ++ (pn.map V.int).reverse = (pn ++ pn.reverse).map V.int := by rw [List.map_append, List.map_reverse]
    rw [epc]
    have hps : ∀ x ∈ pn ++ pn.reverse, 0 ≤ x := fun x hx => by
      rcases List.mem_append.mp hx with h | h
      · exact pn0 x h
      · exact pn0 x (List.mem_reverse.mp h)
    generalize pn ++ pn.reverse = ps at hps epc
    have s5' := s4'.trans (same_upd (o := HO.lst (ps.map V.int)) npc)
    have hpc : upd (upd HL rv (HO.lst (pn.map V.int).reverse)) pc (HO.lst (ps.map V.int)) pc = some (.lst (ps.map V.int)) := upd_same
    have al6 := (al5.mono (same_ex s4')).addL (H' := upd (upd HL rv (HO.lst (pn.map V.int).reverse)) pc (HO.lst (ps.map V.int))) (bs := [pc]) (by simp) (by simp [npc]) (same_ex (same_upd npc)) (by simp [hpc])
    generalize upd (upd HL rv (HO.lst (pn.map V.int).reverse)) pc (HO.lst (ps.map V.int)) = HM at s5' hpc al6 ⊢
    clear npc epc
    have nd6 : [h0, h1, hl, x0, ar0, wd0, x1, ar1, wd1, lv_, u0, u1, wl, mn, pc].Nodup := al6.2
    have ndd : [x0, ar0, wd0, x1, ar1, wd1, lv_, u0, u1, wl, mn, pc].Nodup := (List.nodup_cons.mp (List.nodup_cons.mp (List.nodup_cons.mp nd6).2).2).2
    clear nd6
    clear nd al1 al2 al3 al4 al5 al6 alG
    have sGM := (sGK.trans s3').trans s5'
    have sKM := s3'.trans s5'
    have sAM := sAG.trans sGM
    obtain ⟨A, eA⟩ : ∃ A : Ad, A = ⟨duo x0 x1, duo ar0 ar1, duo wd0 wd1, duo u0 u1, duo L0' L1', lv_, wl, mn, pc⟩ := ⟨_, rfl⟩
    have iv : MInv C2 A HA HM r ps (fun _ => List.replicate r .non) (fun _ => List.replicate r .non) (fun _ => 0) (fun _ => 0) := by
      rw [eA]
      refine ⟨ndd, ⟨sAB.free nx0, (sAB.trans sBC).free nx1, sAB.free nwd0, (sAB.trans sBC).free nwd1, sAG.free nu0, (sAG.trans sGH).free nu1, (((sAG.trans sGH).trans sHI).trans s1').free nmn⟩, sAM, fun v hv => ?_, fun v hv => ?_, sGM _ _ hlvG, sKM _ _ (s2' _ _ hwl1), sKM _ _ hmn1, hpc, fun v _ => Wok.rep r, fun v _ => Wok.rep r⟩
      · exact v01 (p := fun v => LiveAt C2 HM (duo x0 x1 v) (duo ar0 ar1 v) (duo wd0 wd1 v) (duo L0' L1' v) (List.replicate r .non) 0) (lv0G.same sGM) (lv1G.same sGM) hv
      · exact v01 (p := fun v => HM (duo u0 u1 v) = some (.lst (List.replicate r .non))) (sKM _ _ (s2' _ _ (s1' _ _ (sHI _ _ hu0)))) (sKM _ _ (s2' _ _ (s1' _ _ hu1))) hv
    obtain ⟨Pv, hPv⟩ : ∃ Pv : Nat → L2.St → Hp → Prop, Pv = (fun j σ H' => ∃ (Wf : Nat → List V) (Nf : Nat → Int) (v12 v16 v17 v18 v19 v20 v21 v22 v23 : Option V), σ = [some (.ref a), some (.ref ln), some (.ref lp), some (.ref lq), some (.int r), some (.ref ld), some (.ref ol), some (.ref pt), some (.ref zp), some (.ref y), some (.ref hl), some (.ref lv_), v12, some (.ref wl), some (.ref mn), some (.ref rq), v16, v17, v18, v19, v20, v21, v22, v23] ∧ MInv C2 A HA H' r ps Wf Wf Nf Nf) := ⟨_, rfl⟩
    have epcA : A.pc = pc := by rw [eA]
    have elv : A.lv = lv_ := by rw [eA]
    have ewl : A.wl = wl := by rw [eA]
    have emn : A.mn = mn := by rw [eA]
    have hpt' := s8A _ _ hpt
    have eL0 : A.L 0 = L0' := by rw [eA]; rfl
    have eL1 : A.L 1 = L1' := by rw [eA]; rfl
    have hparts : ∀ v, v < 2 → ∃ (d : Addr) (us : List V) (D : List Pr), [V.ref d0, V.ref d1][v]? = some (V.ref d) ∧ HA d = some (.lst us) ∧ RL HA us (A.L v) ∧ Pcs D (rg r) (A.L v) := fun v hv => by
      refine v01 (p := fun v => ∃ (d : Addr) (us : List V) (D : List Pr), [V.ref d0, V.ref d1][v]? = some (V.ref d) ∧ HA d = some (.lst us) ∧ RL HA us (A.L v) ∧ Pcs D (rg r) (A.L v)) ?_ ?_ hv
      · rw [eL0]
        exact ⟨d0, us0, E0_, rfl, s8A _ _ hd0, rl0.kt (KT.same s8A), pc0⟩
      · rw [eL1]
        exact ⟨d1, us1, E1_, rfl, s8A _ _ hd1, rl1.kt (KT.same s8A), pc1⟩
    refine ⟨pc, rfl, ⟨_, SqL.of hpc⟩, for_list (K := K) (a := pc) (xs := ps.map V.int) Pv (by rw [hPv]; exact ⟨_, _, none, none, none, none, none, none, none, none, none, rfl, iv⟩) (fun j σ H' _ pv => by rw [hPv] at pv; obtain ⟨_, _, _, _, _, _, _, _, _, _, _, _, iv⟩ := pv; rw [← epcA]; exact SqL.of iv.pc_) (fun j v σ HN gv pv => ?_) (fun σ HN pv => ?_)⟩
    · have nxt : ∀ (Wf : Nat → List V) (Nf : Nat → Int) (v12 v16 v17 v18 v19 v20 v21 v22 v23 : Option V) (H' : Hp), MInv C2 A HA H' r ps Wf Wf Nf Nf → Pv (j + 1) [some (.ref a), some (.ref ln), some (.ref lp), some (.ref lq), some (.int r), some (.ref ld), some (.ref ol), some (.ref pt), some (.ref zp), some (.ref y), some (.ref hl), some (.ref lv_), v12, some (.ref wl), some (.ref mn), some (.ref rq), v16, v17, v18, v19, v20, v21, v22, v23] H' := fun Wf Nf v12 v16 v17 v18 v19 v20 v21 v22 v23 H' h => by
        rw [hPv]
        exact ⟨Wf, Nf, v12, v16, v17, v18, v19, v20, v21, v22, v23, rfl, h⟩
      rw [hPv] at pv
      obtain ⟨Wf, Nf, v12, v16, v17, v18, v19, v20, v21, v22, v23, rfl, iv⟩ := pv
      clear hPv
      rw [List.getElem?_map] at gv
      cases gd : ps[j]? with
      | none => rw [gd] at gv; cases gv
      | some kx =>
        rw [gd] at gv
        have ev := Option.some.inj gv
        subst ev
        obtain ⟨kn, rfl⟩ : ∃ kn : Nat, kx = kn := ⟨kx.toNat, (Int.toNat_of_nonneg (hps kx (List.mem_of_getElem? gd))).symm⟩
        have sAN := iv.old
        walk_at "rd"
        refine ⟨a, ss, kn, rfl, (s0A.trans sAN).seq hS, fun cell c0 => ?_⟩
        obtain ⟨w_, ew, w2⟩ : ∃ w_ : Nat, cell % 2 = w_ ∧ w_ < 2 := ⟨(cell % 2).toNat, by omega, by omega⟩
        have i0 := Int.emod_nonneg (cell / 2) (show (r : Int) ≠ 0 by omega)
        have i1 := Int.emod_lt_of_pos (cell / 2) (show (0 : Int) < r by omega)
        refine ⟨cell, rfl, by decide, cell, rfl, ⟨by decide, by decide⟩, by omega, cell, rfl, ⟨by decide, by decide⟩, ⟨by omega, by omega⟩, ?_⟩
        refine ⟨_, zp, Z, mm, rfl, sAN _ _ hzpA, tx, mm1, fun z H1' hz t1 => ?_⟩
        rw [ew]
        generalize cell / 2 % (r : Int) = i at i0 i1
        have iv := iv.same t1
        have sAN := sAN.trans t1
        obtain ⟨d, usd, Dd, gd', hd', rld, pcd⟩ := hparts w_ w2
        obtain ⟨ys0, hys0, iys0⟩ := pcd.cov i (by
          unfold rg
          exact List.mem_map.mpr ⟨i.toNat, List.mem_range.mpr (by omega), Int.toNat_of_nonneg i0⟩)
        refine ⟨_, SqL.of (sAN _ _ hpt'), .ref d, at_of (j := w_) rfl gd', d, i, usd, A.L w_, rfl, sAN _ _ hd', rld.kt (KT.same sAN), ⟨ys0, hys0, iys0⟩, fun ys hq H2' hys iys t2 nhq hhq => ?_⟩
        have neH : ∀ c ∈ A.list, c ≠ hq := fun c hc => by
          obtain ⟨o, e⟩ := iv.stand c hc
          exact ne_of_none e nhq
        have iv := iv.same t2
        have neT0 := iv.stand
        have gXw : [V.ref (A.X 0), V.ref (A.X 1)][w_]? = some (V.ref (A.X w_)) := v01 (p := fun v => [V.ref (A.X 0), V.ref (A.X 1)][v]? = some (V.ref (A.X v))) rfl rfl w2
        have gUw : [V.ref (A.U 0), V.ref (A.U 1)][w_]? = some (V.ref (A.U w_)) := v01 (p := fun v => [V.ref (A.U 0), V.ref (A.U 1)][v]? = some (V.ref (A.U v))) rfl rfl w2
        have lvw := iv.live w_ w2
        obtain ⟨dxw, usw, q1, q2, q3⟩ := lvw.ex
        refine ⟨_, SqL.of (by rw [← elv]; exact iv.lv_), .ref (A.X w_), at_of (j := w_) rfl gXw, A.X w_, rfl, dxw, _, q1, lf_no _ _ _ (by decide +kernel) (by decide +kernel) (by decide +kernel), ?_⟩
        refine ⟨A.X w_, A.Ar w_, A.Wd w_, A.L w_, Wf w_, Nf w_, i, z, Dd, r, rfl, lvw, pcd, hr12, (iv.okl w_ w2).1, i0, i1, fun ys' tq H3' hys' iys' lv' k' ntq htq => ?_⟩
        have eys : ys' = ys := (holdL_one pcd hys' iys').symm.trans (holdL_one pcd hys iys)
        subst eys
        have iv3 := iv.call w2 lv' k' (iv.okl w_ w2).kW
        have neT : ∀ c ∈ A.list, c ≠ tq := fun c hc => by
          obtain ⟨o, e⟩ := neT0 c hc
          exact ne_of_none e ntq
        have hhq3 : H3' hq = some (.lst (ys'.map V.int)) := k' _ _ hhq (neH _ (List.mem_of_getElem? (gX A w_ w2))).symm (neH _ (List.mem_of_getElem? (gW A w_ w2))).symm
        have qt : hq ≠ tq := ne_of_none hhq ntq
        have tqA : HA tq = none := (sAN.trans t2).free ntq
        have wl_ := (iv.okl w_ w2).1
        have yR : ∀ y ∈ ys', 0 ≤ y ∧ y < r := fun y hy => by
          obtain ⟨s, _, pcy⟩ := pcd.pc ys' hys
          exact rgR y ((pcy.2 y).mp hy).mem
        have yl : ys'.length ≤ r := pcd.lens rgR ys' hys
        obtain ⟨Pw, hPw⟩ : ∃ Pw : Nat → L2.St → Hp → Prop, Pw = (fun k σ H' => ∃ (v22 : Option V), σ = [some (.ref a), some (.ref ln), some (.ref lp), some (.ref lq), some (.int r), some (.ref ld), some (.ref ol), some (.ref pt), some (.ref zp), some (.ref y), some (.ref hl), some (.ref lv_), some (.int i), some (.ref wl), some (.ref mn), some (.ref rq), some (.int kn), some (.int cell), some (.int w_), some (.str z), some (.ref hq), some (.ref tq), v22, v23] ∧ MInv C2 A HA H' r ps (setN Wf w_ (kW z (Wf w_) ys')) (setN Wf w_ (kW z (Wf w_) (ys'.take k))) (setN Nf w_ (Nf w_ + 1)) Nf ∧ H' hq = some (.lst (ys'.map V.int)) ∧ H' tq = some (.lst (ys'.map V.int))) := ⟨_, rfl⟩
        refine ⟨_, rfl, hq, rfl, ⟨_, SqL.of hhq3⟩, for_list (K := K) (a := hq) (xs := ys'.map V.int) Pw (by rw [hPw]; exact ⟨v22, rfl, by rw [List.take_zero, show kW z (Wf w_) [] = Wf w_ from rfl, setN_id Wf w_]; exact iv3, hhq3, htq⟩) (fun k σ H' _ pv => by rw [hPw] at pv; obtain ⟨_, _, _, h, _⟩ := pv; exact SqL.of h) (fun k v σ H4' gv pv => ?_) (fun σ H4' pv => ?_)⟩
        · have nxw : ∀ (v22 : Option V) (H' : Hp), MInv C2 A HA H' r ps (setN Wf w_ (kW z (Wf w_) ys')) (setN Wf w_ (kW z (Wf w_) (ys'.take (k + 1)))) (setN Nf w_ (Nf w_ + 1)) Nf → H' hq = some (.lst (ys'.map V.int)) → H' tq = some (.lst (ys'.map V.int)) → Pw (k + 1) [some (.ref a), some (.ref ln), some (.ref lp), some (.ref lq), some (.int r), some (.ref ld), some (.ref ol), some (.ref pt), some (.ref zp), some (.ref y), some (.ref hl), some (.ref lv_), some (.int i), some (.ref wl), some (.ref mn), some (.ref rq), some (.int kn), some (.int cell), some (.int w_), some (.str z), some (.ref hq), some (.ref tq), v22, v23] H' := fun v22 H' h1 h2 h3 => by
            rw [hPw]
            exact ⟨v22, rfl, h1, h2, h3⟩
          rw [hPw] at pv
          obtain ⟨v22, rfl, iv4, hq4, tq4⟩ := pv
          rw [List.getElem?_map] at gv
          cases gd2 : ys'[k]? with
          | none => rw [gd2] at gv; cases gv
          | some yy =>
            rw [gd2] at gv
            have ev := Option.some.inj gv
            subst ev
            have yr := yR yy (List.mem_of_getElem? gd2)
            have hU := iv4.us w_ w2
            have okU := iv4.oku w_ w2
            rw [setN_at] at hU okU
            have ek : kW z (Wf w_) (ys'.take (k + 1)) = (kW z (Wf w_) (ys'.take k)).set yy.toNat (.str z) := by
              rw [List.take_add_one, gd2]
              unfold kW
              rw [List.foldl_append]
              rfl
            have st := iv4.setU (w := w_) w2 (W := (kW z (Wf w_) (ys'.take k)).set yy.toNat (.str z)) (by rw [← ek]; exact (iv.okl w_ w2).kW)
            rw [setN_setN, ← ek] at st
            walk_at "rd"
            refine ⟨_, SqL.of (by rw [← ewl]; exact iv4.wl_), .ref (A.U w_), at_of (j := w_) rfl gUw, ?_⟩
            refine ⟨A.U w_, rfl, _, hU, yy.toNat, ixn (by omega) (by rw [okU.1]; omega), ?_⟩
            have nU : ∀ {q : Addr} {xs : List V}, H4' q = some (.lst xs) → (∀ c ∈ A.list, c ≠ q) → upd H4' (A.U w_) (HO.lst ((kW z (Wf w_) (ys'.take k)).set yy.toNat (V.str z))) q = some (.lst xs) := fun {q xs} e n => by
              rw [upd_ne (n _ (List.mem_of_getElem? (gU A w_ w2))).symm]
              exact e
            exact nxw _ _ (by rw [← ek]; exact st) (nU hq4 neH) (nU tq4 neT)
        · rw [hPw] at pv
          obtain ⟨v22, rfl, iv4, hq4, tq4⟩ := pv
          rw [List.length_map, List.take_length] at iv4
          walk_at "rd"
          have hm4 : H4' mn = some (.lst [.int (Nf 0), .int (Nf 1)]) := by rw [← emn]; exact iv4.mn_
          have gMw : [V.int (Nf 0), V.int (Nf 1)][w_]? = some (V.int (Nf w_)) := v01 (p := fun v => [V.int (Nf 0), V.int (Nf 1)][v]? = some (V.int (Nf v))) rfl rfl w2
          have eMw : [V.int (Nf 0), V.int (Nf 1)].set w_ (V.int (Nf w_ + 1)) = [V.int (setN Nf w_ (Nf w_ + 1) 0), V.int (setN Nf w_ (Nf w_ + 1) 1)] := v01 (p := fun v => [V.int (Nf 0), V.int (Nf 1)].set v (V.int (Nf v + 1)) = [V.int (setN Nf v (Nf v + 1) 0), V.int (setN Nf v (Nf v + 1) 1)]) rfl rfl w2
          refine ⟨_, SqL.of hm4, .int (Nf w_), at_of (j := w_) rfl gMw, Nf w_, rfl, _, hm4, w_, ixn rfl w2, ?_⟩
          rw [eMw]
          have iv5 := iv4.setM (w := w_) (x := Nf w_ + 1)
          rw [emn] at iv5
          have mM : A.mn ∈ A.list := List.mem_of_getElem? (gm A)
          have hq5 : upd H4' mn (HO.lst [V.int (setN Nf w_ (Nf w_ + 1) 0), V.int (setN Nf w_ (Nf w_ + 1) 1)]) hq = some (.lst (ys'.map V.int)) := by
            have := neH _ mM
            rw [emn] at this
            rw [upd_ne this.symm]
            exact hq4
          have tq5 : upd H4' mn (HO.lst [V.int (setN Nf w_ (Nf w_ + 1) 0), V.int (setN Nf w_ (Nf w_ + 1) 1)]) tq = some (.lst (ys'.map V.int)) := by
            have := neT _ mM
            rw [emn] at this
            rw [upd_ne this.symm]
            exact tq4
          generalize upd H4' mn (HO.lst [V.int (setN Nf w_ (Nf w_ + 1) 0), V.int (setN Nf w_ (Nf w_ + 1) 1)]) = H5' at iv5 hq5 tq5 ⊢
          refine same_ok (sm_flats tq5 hq5 (flat_intsV _) (by rw [List.length_map]; omega) 2) ⟨true, rfl, iteF ?_⟩
          refine ⟨.inl ⟨rfl, _, SqL.of tq5⟩, _, tq5, len_big (by rw [List.length_map]; omega), ?_⟩
          have iv6 := iv5.other (vs := ys'.map V.int ++ [V.int r]) tq5 neT tqA
          generalize upd H5' tq (HO.lst (ys'.map V.int ++ [V.int r])) = H6' at iv6 ⊢
          generalize setN Wf w_ (kW z (Wf w_) ys') = Wf' at iv6 ⊢
          generalize setN Nf w_ (Nf w_ + 1) = Nf' at iv6 ⊢
          clear iv5 iv4
          refine ⟨_, SqL.of (by rw [← elv]; exact iv6.lv_), .ref (A.X 0), at_of (j := 0) rfl rfl, _, SqL.of (by rw [← ewl]; exact iv6.wl_), .ref (A.U 0), at_of (j := 0) rfl rfl, _, SqL.of (by rw [← emn]; exact iv6.mn_), .int (Nf' 0), at_of (j := 0) rfl rfl, ?_⟩
          refine ⟨A.X 0, A.Ar 0, A.Wd 0, A.U 0, A.L 0, Wf' 0, Nf' 0, r, rfl, iv6.live 0 (by decide), iv6.us 0 (by decide), iv6.okl 0 (by decide), hr1, hr12, fun H7' s7 => ⟨true, rfl, iteF ?_⟩⟩
          have iv7 := iv6.same s7
          refine ⟨_, SqL.of (by rw [← elv]; exact iv7.lv_), .ref (A.X 1), at_of (j := 1) rfl rfl, _, SqL.of (by rw [← ewl]; exact iv7.wl_), .ref (A.U 1), at_of (j := 1) rfl rfl, _, SqL.of (by rw [← emn]; exact iv7.mn_), .int (Nf' 1), at_of (j := 1) rfl rfl, ?_⟩
          refine ⟨A.X 1, A.Ar 1, A.Wd 1, A.U 1, A.L 1, Wf' 1, Nf' 1, r, rfl, iv7.live 1 (by decide), iv7.us 1 (by decide), iv7.okl 1 (by decide), hr1, hr12, fun H8' s8 => ⟨true, rfl, iteF ?_⟩⟩
          exact nxt Wf' Nf' _ _ _ _ _ _ _ _ _ H8' (iv7.same s8)
    · rw [hPv] at pv
      obtain ⟨Wf, Nf, v12, v16, v17, v18, v19, v20, v21, v22, v23, rfl, iv⟩ := pv
      clear hPv
      walk_at "rd"
      refine ⟨_, SqL.of (by rw [← elv]; exact iv.lv_), .ref (A.X 0), at_of (j := 0) rfl rfl, _, SqL.of (by rw [← ewl]; exact iv.wl_), .ref (A.U 0), at_of (j := 0) rfl rfl, _, SqL.of (by rw [← emn]; exact iv.mn_), .int (Nf 0), at_of (j := 0) rfl rfl, ?_⟩
      refine ⟨A.X 0, A.Ar 0, A.Wd 0, A.U 0, A.L 0, Wf 0, Nf 0, r, rfl, iv.live 0 (by decide), iv.us 0 (by decide), iv.okl 0 (by decide), hr1, hr12, fun H7' s7 => ⟨true, rfl, iteF ?_⟩⟩
      have iv7 := iv.same s7
      refine ⟨_, SqL.of (by rw [← elv]; exact iv7.lv_), .ref (A.X 1), at_of (j := 1) rfl rfl, _, SqL.of (by rw [← ewl]; exact iv7.wl_), .ref (A.U 1), at_of (j := 1) rfl rfl, _, SqL.of (by rw [← emn]; exact iv7.mn_), .int (Nf 1), at_of (j := 1) rfl rfl, ?_⟩
      refine ⟨A.X 1, A.Ar 1, A.Wd 1, A.U 1, A.L 1, Wf 1, Nf 1, r, rfl, iv7.live 1 (by decide), iv7.us 1 (by decide), iv7.okl 1 (by decide), hr1, hr12, fun H8' s8 => ⟨true, rfl, iteF ?_⟩⟩
      have sA8 := (iv7.same s8).old
      refine ⟨_, SqL.of (sA8 _ _ holA), .ref o0, at_of (j := 0) rfl rfl, o0, rfl, _, .inl (SqL.of (sA8 _ _ ho0A)), fun oc noc => fun xn dxn nxn ndxn nexn => ?_⟩
      have t1 := same_upd (o := HO.lst ws0) noc
      refine use_linit nxn ndxn ((hh.same sA8).same t1) upd_same ((pE0A.kt (KT.same sA8)).kt (KT.same t1)) drs0 fun arn wdn Ln H9' _ lvn s9' _ _ _ _ => ⟨rfl, ?_⟩
      refine ⟨_, rfl, r, rfl, by omega, by omega, fun un nun => ?_⟩
      obtain ⟨Pw, hPw⟩ : ∃ Pw : Nat → Hp → Prop, Pw = (fun j Hy => Same H9' Hy ∧ Hy un = some (.lst (List.replicate j .non))) := ⟨_, rfl⟩
      refine lc_range (lo := 0) (n := ((r : Nat) : Int).toNat) Pw (by rw [hPw]; exact ⟨same_upd nun, upd_same⟩) (fun j Hy hj pv => ?_) (fun Hy pv => ?_)
      · rw [hPw] at pv
        obtain ⟨sx, hu⟩ := pv
        simp only [wipe]
        walk_at "rd"
        refine ⟨_, hu, len_big (by rw [List.length_replicate]; omega), ?_⟩
        rw [hPw]
        exact ⟨same_ch sx nun, by rw [upd_same, List.replicate_succ']⟩
      rw [hPw] at pv
      obtain ⟨sU, hun⟩ := pv
      rw [Int.toNat_natCast] at hun
      exact ⟨xn, arn, wdn, un, Ln, _, 0, r, rfl, lvn.same sU, hun, Wok.rep r, hr1, hr12, fun H' _ => q H'⟩
end

set_option maxHeartbeats 8000000 in
theorem all_mk {l : PySem.W.OpenLaw} {w : World} {K : PySem.W.Frag} {h : Heap} {mg : Str → Option Value} {fa : Addr} (X : K.In h) (G : h.Ns mainGlobals mg) (hfa : mg "law" = some (.ref fa))
    {f_check_room_count : Addr} {od_check_room_count an_check_room_count : Option Addr} {sl_check_room_count : Array (Option Value)} {oc_check_room_count kV_check_room_count dc_check_room_count pm_check_room_count cd_check_room_count ct_check_room_count : Value}
    {f_checked_doors : Addr} {od_checked_doors an_checked_doors : Option Addr} {sl_checked_doors : Array (Option Value)} {oc_checked_doors kV_checked_doors dc_checked_doors pm_checked_doors cd_checked_doors ct_checked_doors : Value}
    {f_first_paths : Addr} {od_first_paths an_first_paths : Option Addr} {sl_first_paths : Array (Option Value)} {oc_first_paths kV_first_paths dc_first_paths pm_first_paths cd_first_paths ct_first_paths : Value}
    {f_reached : Addr} {od_reached an_reached : Option Addr} {sl_reached : Array (Option Value)} {oc_reached kV_reached dc_reached pm_reached cd_reached ct_reached : Value}
    {f_pieces : Addr} {od_pieces an_pieces : Option Addr} {sl_pieces : Array (Option Value)} {oc_pieces kV_pieces dc_pieces pm_pieces cd_pieces ct_pieces : Value}
    {f_areas : Addr} {od_areas an_areas : Option Addr} {sl_areas : Array (Option Value)} {oc_areas kV_areas dc_areas pm_areas cd_areas ct_areas : Value}
    {f__law_cell : Addr} {od__law_cell an__law_cell : Option Addr} {sl__law_cell : Array (Option Value)} {oc__law_cell kV__law_cell dc__law_cell pm__law_cell cd__law_cell ct__law_cell : Value}
    {f__law_numbers : Addr} {od__law_numbers an__law_numbers : Option Addr} {sl__law_numbers : Array (Option Value)} {oc__law_numbers kV__law_numbers dc__law_numbers pm__law_numbers cd__law_numbers ct__law_numbers : Value}
    {f__law_names : Addr} {od__law_names an__law_names : Option Addr} {sl__law_names : Array (Option Value)} {oc__law_names kV__law_names dc__law_names pm__law_names cd__law_names ct__law_names : Value}
    {f__law_joined : Addr} {od__law_joined an__law_joined : Option Addr} {sl__law_joined : Array (Option Value)} {oc__law_joined kV__law_joined dc__law_joined pm__law_joined cd__law_joined ct__law_joined : Value}
    {f__law_doors : Addr} {od__law_doors an__law_doors : Option Addr} {sl__law_doors : Array (Option Value)} {oc__law_doors kV__law_doors dc__law_doors pm__law_doors cd__law_doors ct__law_doors : Value}
    {f__law_reach : Addr} {od__law_reach an__law_reach : Option Addr} {sl__law_reach : Array (Option Value)} {oc__law_reach kV__law_reach dc__law_reach pm__law_reach cd__law_reach ct__law_reach : Value}
    {f__law_pieces : Addr} {od__law_pieces an__law_pieces : Option Addr} {sl__law_pieces : Array (Option Value)} {oc__law_pieces kV__law_pieces dc__law_pieces pm__law_pieces cd__law_pieces ct__law_pieces : Value}
    {f__law_same : Addr} {od__law_same an__law_same : Option Addr} {sl__law_same : Array (Option Value)} {oc__law_same kV__law_same dc__law_same pm__law_same cd__law_same ct__law_same : Value}
    {f__law_spelled : Addr} {od__law_spelled an__law_spelled : Option Addr} {sl__law_spelled : Array (Option Value)} {oc__law_spelled kV__law_spelled dc__law_spelled pm__law_spelled cd__law_spelled ct__law_spelled : Value}
    {f__law_pool : Addr} {od__law_pool an__law_pool : Option Addr} {sl__law_pool : Array (Option Value)} {oc__law_pool kV__law_pool dc__law_pool pm__law_pool cd__law_pool ct__law_pool : Value}
    {f__law_opening : Addr} {od__law_opening an__law_opening : Option Addr} {sl__law_opening : Array (Option Value)} {oc__law_opening kV__law_opening dc__law_opening pm__law_opening cd__law_opening ct__law_opening : Value}
    {f__law_called_word : Addr} {od__law_called_word an__law_called_word : Option Addr} {sl__law_called_word : Array (Option Value)} {oc__law_called_word kV__law_called_word dc__law_called_word pm__law_called_word cd__law_called_word ct__law_called_word : Value}
    {f__law_holding : Addr} {od__law_holding an__law_holding : Option Addr} {sl__law_holding : Array (Option Value)} {oc__law_holding kV__law_holding dc__law_holding pm__law_holding cd__law_holding ct__law_holding : Value}
    {f__law_stands : Addr} {od__law_stands an__law_stands : Option Addr} {sl__law_stands : Array (Option Value)} {oc__law_stands kV__law_stands dc__law_stands pm__law_stands cd__law_stands ct__law_stands : Value}
    {f_law : Addr} {od_law an_law : Option Addr} {sl_law : Array (Option Value)} {oc_law kV_law dc_law pm_law cd_law ct_law : Value}
    {f_m_init_ : Addr} {od_m_init_ an_m_init_ : Option Addr} {sl_m_init_ : Array (Option Value)} {oc_m_init_ kV_m_init_ dc_m_init_ pm_m_init_ cd_m_init_ ct_m_init_ : Value}
    {f_mneighbours : Addr} {od_mneighbours an_mneighbours : Option Addr} {sl_mneighbours : Array (Option Value)} {oc_mneighbours kV_mneighbours dc_mneighbours pm_mneighbours cd_mneighbours ct_mneighbours : Value}
    {C2 : Addr}
    {f_q_init_ : Addr} {od_q_init_ an_q_init_ : Option Addr} {sl_q_init_ : Array (Option Value)} {oc_q_init_ kV_q_init_ dc_q_init_ pm_q_init_ cd_q_init_ ct_q_init_ : Value}
    {f_qcall : Addr} {od_qcall an_qcall : Option Addr} {sl_qcall : Array (Option Value)} {oc_qcall kV_qcall dc_qcall pm_qcall cd_qcall ct_qcall : Value}
    {f_qwords : Addr} {od_qwords an_qwords : Option Addr} {sl_qwords : Array (Option Value)} {oc_qwords kV_qwords dc_qwords pm_qwords cd_qwords ct_qwords : Value}
    {pa_rcalls : Addr} {rs_rcalls : List Value}
    {f_rcalls : Addr} {od_rcalls an_rcalls : Option Addr} {sl_rcalls : Array (Option Value)} {oc_rcalls kV_rcalls dc_rcalls pm_rcalls cd_rcalls ct_rcalls : Value}
    {C : Addr}
    {tk_MOST_ROOMS : Tok}
    (aC2 : PySem.W.nsIn K mainGlobals "LiveHouse" = some (some (.ref C2)))
    (pg2 : PySem.W.plainGet K C2 Str.empty = true)
    (hd2 : PySem.W.hasDictIn K C2 = true)
    (po2 : PySem.W.plainOver K C2 = true)
    (sa2 : PySem.W.findIn K (.ref C2) "__setattr__" = some (some (.builtin "object.__setattr__")))
    (mk2 : PySem.W.makesIn K C2 = true)
    (kc2 : PySem.W.keepIn K (.ref C2) = true)
    (aC : PySem.W.nsIn K mainGlobals "House" = some (some (.ref C)))
    (pg : PySem.W.plainGet K C Str.empty = true)
    (hd : PySem.W.hasDictIn K C = true)
    (po : PySem.W.plainOver K C = true)
    (sa : PySem.W.findIn K (.ref C) "__setattr__" = some (some (.builtin "object.__setattr__")))
    (mk : PySem.W.makesIn K C = true)
    (kc : PySem.W.keepIn K (.ref C) = true)
    (a_check_room_count : PySem.W.nsIn K mainGlobals "check_room_count" = some (some (.ref f_check_room_count)))
    (l_check_room_count : K.lookup f_check_room_count = some ⟨oc_check_room_count, od_check_room_count, .func (PySem.W.fnOf "check_room_count" "check_room_count" (defArgs sRoom) (defBody sRoom) (defScope sRoom) .none kV_check_room_count dc_check_room_count pm_check_room_count an_check_room_count cd_check_room_count ct_check_room_count), sl_check_room_count⟩)
    (c_check_room_count : PySem.W.codeIn K cd_check_room_count "check_room_count" = true)
    (k_check_room_count : PySem.W.keepIn K (.ref f_check_room_count) = true)
    (a_checked_doors : PySem.W.nsIn K mainGlobals "checked_doors" = some (some (.ref f_checked_doors)))
    (l_checked_doors : K.lookup f_checked_doors = some ⟨oc_checked_doors, od_checked_doors, .func (PySem.W.fnOf "checked_doors" "checked_doors" (defArgs sChk) (defBody sChk) (defScope sChk) .none kV_checked_doors dc_checked_doors pm_checked_doors an_checked_doors cd_checked_doors ct_checked_doors), sl_checked_doors⟩)
    (c_checked_doors : PySem.W.codeIn K cd_checked_doors "checked_doors" = true)
    (k_checked_doors : PySem.W.keepIn K (.ref f_checked_doors) = true)
    (a_first_paths : PySem.W.nsIn K mainGlobals "first_paths" = some (some (.ref f_first_paths)))
    (l_first_paths : K.lookup f_first_paths = some ⟨oc_first_paths, od_first_paths, .func (PySem.W.fnOf "first_paths" "first_paths" (defArgs sFp) (defBody sFp) (defScope sFp) .none kV_first_paths dc_first_paths pm_first_paths an_first_paths cd_first_paths ct_first_paths), sl_first_paths⟩)
    (c_first_paths : PySem.W.codeIn K cd_first_paths "first_paths" = true)
    (k_first_paths : PySem.W.keepIn K (.ref f_first_paths) = true)
    (a_reached : PySem.W.nsIn K mainGlobals "reached" = some (some (.ref f_reached)))
    (l_reached : K.lookup f_reached = some ⟨oc_reached, od_reached, .func (PySem.W.fnOf "reached" "reached" (defArgs sRea) (defBody sRea) (defScope sRea) .none kV_reached dc_reached pm_reached an_reached cd_reached ct_reached), sl_reached⟩)
    (c_reached : PySem.W.codeIn K cd_reached "reached" = true)
    (k_reached : PySem.W.keepIn K (.ref f_reached) = true)
    (a_pieces : PySem.W.nsIn K mainGlobals "pieces" = some (some (.ref f_pieces)))
    (l_pieces : K.lookup f_pieces = some ⟨oc_pieces, od_pieces, .func (PySem.W.fnOf "pieces" "pieces" (defArgs sPcs) (defBody sPcs) (defScope sPcs) .none kV_pieces dc_pieces pm_pieces an_pieces cd_pieces ct_pieces), sl_pieces⟩)
    (c_pieces : PySem.W.codeIn K cd_pieces "pieces" = true)
    (k_pieces : PySem.W.keepIn K (.ref f_pieces) = true)
    (a_areas : PySem.W.nsIn K mainGlobals "areas" = some (some (.ref f_areas)))
    (l_areas : K.lookup f_areas = some ⟨oc_areas, od_areas, .func (PySem.W.fnOf "areas" "areas" (defArgs sAre) (defBody sAre) (defScope sAre) .none kV_areas dc_areas pm_areas an_areas cd_areas ct_areas), sl_areas⟩)
    (c_areas : PySem.W.codeIn K cd_areas "areas" = true)
    (k_areas : PySem.W.keepIn K (.ref f_areas) = true)
    (a__law_cell : PySem.W.nsIn K mainGlobals "_law_cell" = some (some (.ref f__law_cell)))
    (l__law_cell : K.lookup f__law_cell = some ⟨oc__law_cell, od__law_cell, .func (PySem.W.fnOf "_law_cell" "_law_cell" (defArgs sCell) (defBody sCell) (defScope sCell) .none kV__law_cell dc__law_cell pm__law_cell an__law_cell cd__law_cell ct__law_cell), sl__law_cell⟩)
    (c__law_cell : PySem.W.codeIn K cd__law_cell "_law_cell" = true)
    (k__law_cell : PySem.W.keepIn K (.ref f__law_cell) = true)
    (a__law_numbers : PySem.W.nsIn K mainGlobals "_law_numbers" = some (some (.ref f__law_numbers)))
    (l__law_numbers : K.lookup f__law_numbers = some ⟨oc__law_numbers, od__law_numbers, .func (PySem.W.fnOf "_law_numbers" "_law_numbers" (defArgs sNum) (defBody sNum) (defScope sNum) .none kV__law_numbers dc__law_numbers pm__law_numbers an__law_numbers cd__law_numbers ct__law_numbers), sl__law_numbers⟩)
    (c__law_numbers : PySem.W.codeIn K cd__law_numbers "_law_numbers" = true)
    (k__law_numbers : PySem.W.keepIn K (.ref f__law_numbers) = true)
    (a__law_names : PySem.W.nsIn K mainGlobals "_law_names" = some (some (.ref f__law_names)))
    (l__law_names : K.lookup f__law_names = some ⟨oc__law_names, od__law_names, .func (PySem.W.fnOf "_law_names" "_law_names" (defArgs sNam) (defBody sNam) (defScope sNam) .none kV__law_names dc__law_names pm__law_names an__law_names cd__law_names ct__law_names), sl__law_names⟩)
    (c__law_names : PySem.W.codeIn K cd__law_names "_law_names" = true)
    (k__law_names : PySem.W.keepIn K (.ref f__law_names) = true)
    (a__law_joined : PySem.W.nsIn K mainGlobals "_law_joined" = some (some (.ref f__law_joined)))
    (l__law_joined : K.lookup f__law_joined = some ⟨oc__law_joined, od__law_joined, .func (PySem.W.fnOf "_law_joined" "_law_joined" (defArgs sJnd) (defBody sJnd) (defScope sJnd) .none kV__law_joined dc__law_joined pm__law_joined an__law_joined cd__law_joined ct__law_joined), sl__law_joined⟩)
    (c__law_joined : PySem.W.codeIn K cd__law_joined "_law_joined" = true)
    (k__law_joined : PySem.W.keepIn K (.ref f__law_joined) = true)
    (a__law_doors : PySem.W.nsIn K mainGlobals "_law_doors" = some (some (.ref f__law_doors)))
    (l__law_doors : K.lookup f__law_doors = some ⟨oc__law_doors, od__law_doors, .func (PySem.W.fnOf "_law_doors" "_law_doors" (defArgs sDrs) (defBody sDrs) (defScope sDrs) .none kV__law_doors dc__law_doors pm__law_doors an__law_doors cd__law_doors ct__law_doors), sl__law_doors⟩)
    (c__law_doors : PySem.W.codeIn K cd__law_doors "_law_doors" = true)
    (k__law_doors : PySem.W.keepIn K (.ref f__law_doors) = true)
    (a__law_reach : PySem.W.nsIn K mainGlobals "_law_reach" = some (some (.ref f__law_reach)))
    (l__law_reach : K.lookup f__law_reach = some ⟨oc__law_reach, od__law_reach, .func (PySem.W.fnOf "_law_reach" "_law_reach" (defArgs sLre) (defBody sLre) (defScope sLre) .none kV__law_reach dc__law_reach pm__law_reach an__law_reach cd__law_reach ct__law_reach), sl__law_reach⟩)
    (c__law_reach : PySem.W.codeIn K cd__law_reach "_law_reach" = true)
    (k__law_reach : PySem.W.keepIn K (.ref f__law_reach) = true)
    (a__law_pieces : PySem.W.nsIn K mainGlobals "_law_pieces" = some (some (.ref f__law_pieces)))
    (l__law_pieces : K.lookup f__law_pieces = some ⟨oc__law_pieces, od__law_pieces, .func (PySem.W.fnOf "_law_pieces" "_law_pieces" (defArgs sLpc) (defBody sLpc) (defScope sLpc) .none kV__law_pieces dc__law_pieces pm__law_pieces an__law_pieces cd__law_pieces ct__law_pieces), sl__law_pieces⟩)
    (c__law_pieces : PySem.W.codeIn K cd__law_pieces "_law_pieces" = true)
    (k__law_pieces : PySem.W.keepIn K (.ref f__law_pieces) = true)
    (a__law_same : PySem.W.nsIn K mainGlobals "_law_same" = some (some (.ref f__law_same)))
    (l__law_same : K.lookup f__law_same = some ⟨oc__law_same, od__law_same, .func (PySem.W.fnOf "_law_same" "_law_same" (defArgs sSame) (defBody sSame) (defScope sSame) .none kV__law_same dc__law_same pm__law_same an__law_same cd__law_same ct__law_same), sl__law_same⟩)
    (c__law_same : PySem.W.codeIn K cd__law_same "_law_same" = true)
    (k__law_same : PySem.W.keepIn K (.ref f__law_same) = true)
    (a__law_spelled : PySem.W.nsIn K mainGlobals "_law_spelled" = some (some (.ref f__law_spelled)))
    (l__law_spelled : K.lookup f__law_spelled = some ⟨oc__law_spelled, od__law_spelled, .func (PySem.W.fnOf "_law_spelled" "_law_spelled" (defArgs sSpell) (defBody sSpell) (defScope sSpell) .none kV__law_spelled dc__law_spelled pm__law_spelled an__law_spelled cd__law_spelled ct__law_spelled), sl__law_spelled⟩)
    (c__law_spelled : PySem.W.codeIn K cd__law_spelled "_law_spelled" = true)
    (k__law_spelled : PySem.W.keepIn K (.ref f__law_spelled) = true)
    (a__law_pool : PySem.W.nsIn K mainGlobals "_law_pool" = some (some (.ref f__law_pool)))
    (l__law_pool : K.lookup f__law_pool = some ⟨oc__law_pool, od__law_pool, .func (PySem.W.fnOf "_law_pool" "_law_pool" (defArgs sPool) (defBody sPool) (defScope sPool) .none kV__law_pool dc__law_pool pm__law_pool an__law_pool cd__law_pool ct__law_pool), sl__law_pool⟩)
    (c__law_pool : PySem.W.codeIn K cd__law_pool "_law_pool" = true)
    (k__law_pool : PySem.W.keepIn K (.ref f__law_pool) = true)
    (a__law_opening : PySem.W.nsIn K mainGlobals "_law_opening" = some (some (.ref f__law_opening)))
    (l__law_opening : K.lookup f__law_opening = some ⟨oc__law_opening, od__law_opening, .func (PySem.W.fnOf "_law_opening" "_law_opening" (defArgs sOpe) (defBody sOpe) (defScope sOpe) .none kV__law_opening dc__law_opening pm__law_opening an__law_opening cd__law_opening ct__law_opening), sl__law_opening⟩)
    (c__law_opening : PySem.W.codeIn K cd__law_opening "_law_opening" = true)
    (k__law_opening : PySem.W.keepIn K (.ref f__law_opening) = true)
    (a__law_called_word : PySem.W.nsIn K mainGlobals "_law_called_word" = some (some (.ref f__law_called_word)))
    (l__law_called_word : K.lookup f__law_called_word = some ⟨oc__law_called_word, od__law_called_word, .func (PySem.W.fnOf "_law_called_word" "_law_called_word" (defArgs sCw) (defBody sCw) (defScope sCw) .none kV__law_called_word dc__law_called_word pm__law_called_word an__law_called_word cd__law_called_word ct__law_called_word), sl__law_called_word⟩)
    (c__law_called_word : PySem.W.codeIn K cd__law_called_word "_law_called_word" = true)
    (k__law_called_word : PySem.W.keepIn K (.ref f__law_called_word) = true)
    (a__law_holding : PySem.W.nsIn K mainGlobals "_law_holding" = some (some (.ref f__law_holding)))
    (l__law_holding : K.lookup f__law_holding = some ⟨oc__law_holding, od__law_holding, .func (PySem.W.fnOf "_law_holding" "_law_holding" (defArgs sHold) (defBody sHold) (defScope sHold) .none kV__law_holding dc__law_holding pm__law_holding an__law_holding cd__law_holding ct__law_holding), sl__law_holding⟩)
    (c__law_holding : PySem.W.codeIn K cd__law_holding "_law_holding" = true)
    (k__law_holding : PySem.W.keepIn K (.ref f__law_holding) = true)
    (a__law_stands : PySem.W.nsIn K mainGlobals "_law_stands" = some (some (.ref f__law_stands)))
    (l__law_stands : K.lookup f__law_stands = some ⟨oc__law_stands, od__law_stands, .func (PySem.W.fnOf "_law_stands" "_law_stands" (defArgs sStn) (defBody sStn) (defScope sStn) .none kV__law_stands dc__law_stands pm__law_stands an__law_stands cd__law_stands ct__law_stands), sl__law_stands⟩)
    (c__law_stands : PySem.W.codeIn K cd__law_stands "_law_stands" = true)
    (k__law_stands : PySem.W.keepIn K (.ref f__law_stands) = true)
    (a_law : PySem.W.nsIn K mainGlobals "law" = some (some (.ref f_law)))
    (l_law : K.lookup f_law = some ⟨oc_law, od_law, .func (PySem.W.fnOf "law" "law" (defArgs sLaw) (defBody sLaw) (defScope sLaw) .none kV_law dc_law pm_law an_law cd_law ct_law), sl_law⟩)
    (c_law : PySem.W.codeIn K cd_law "law" = true)
    (k_law : PySem.W.keepIn K (.ref f_law) = true)
    (a_m_init_ : PySem.W.findIn K (.ref C) "__init__" = some (some (.ref f_m_init_)))
    (l_m_init_ : K.lookup f_m_init_ = some ⟨oc_m_init_, od_m_init_, .func (PySem.W.fnOf "__init__" "House.__init__" (defArgs sHinit) (defBody sHinit) (defScope sHinit) .none kV_m_init_ dc_m_init_ pm_m_init_ an_m_init_ cd_m_init_ ct_m_init_), sl_m_init_⟩)
    (c_m_init_ : PySem.W.codeIn K cd_m_init_ "House.__init__" = true)
    (k_m_init_ : PySem.W.keepIn K (.ref f_m_init_) = true)
    (i_m_init_ : PySem.W.isFn K (.ref f_m_init_) = true)
    (a_mneighbours : PySem.W.findIn K (.ref C) "neighbours" = some (some (.ref f_mneighbours)))
    (l_mneighbours : K.lookup f_mneighbours = some ⟨oc_mneighbours, od_mneighbours, .func (PySem.W.fnOf "neighbours" "House.neighbours" (defArgs sHnear) (defBody sHnear) (defScope sHnear) .none kV_mneighbours dc_mneighbours pm_mneighbours an_mneighbours cd_mneighbours ct_mneighbours), sl_mneighbours⟩)
    (c_mneighbours : PySem.W.codeIn K cd_mneighbours "House.neighbours" = true)
    (k_mneighbours : PySem.W.keepIn K (.ref f_mneighbours) = true)
    (i_mneighbours : PySem.W.isFn K (.ref f_mneighbours) = true)
    (n2__areas : PySem.W.findIn K (.ref C2) "_areas" = some none)
    (n2__words : PySem.W.findIn K (.ref C2) "_words" = some none)
    (n2__calls : PySem.W.findIn K (.ref C2) "_calls" = some none)
    (a_q_init_ : PySem.W.findIn K (.ref C2) "__init__" = some (some (.ref f_q_init_)))
    (l_q_init_ : K.lookup f_q_init_ = some ⟨oc_q_init_, od_q_init_, .func (PySem.W.fnOf "__init__" "LiveHouse.__init__" (defArgs sLinit) (defBody sLinit) (defScope sLinit) .none kV_q_init_ dc_q_init_ pm_q_init_ an_q_init_ cd_q_init_ ct_q_init_), sl_q_init_⟩)
    (c_q_init_ : PySem.W.codeIn K cd_q_init_ "LiveHouse.__init__" = true)
    (k_q_init_ : PySem.W.keepIn K (.ref f_q_init_) = true)
    (i_q_init_ : PySem.W.isFn K (.ref f_q_init_) = true)
    (a_qcall : PySem.W.findIn K (.ref C2) "call" = some (some (.ref f_qcall)))
    (l_qcall : K.lookup f_qcall = some ⟨oc_qcall, od_qcall, .func (PySem.W.fnOf "call" "LiveHouse.call" (defArgs sLcall) (defBody sLcall) (defScope sLcall) .none kV_qcall dc_qcall pm_qcall an_qcall cd_qcall ct_qcall), sl_qcall⟩)
    (c_qcall : PySem.W.codeIn K cd_qcall "LiveHouse.call" = true)
    (k_qcall : PySem.W.keepIn K (.ref f_qcall) = true)
    (i_qcall : PySem.W.isFn K (.ref f_qcall) = true)
    (a_qwords : PySem.W.findIn K (.ref C2) "words" = some (some (.ref f_qwords)))
    (l_qwords : K.lookup f_qwords = some ⟨oc_qwords, od_qwords, .func (PySem.W.fnOf "words" "LiveHouse.words" (defArgs sLwords) (defBody sLwords) (defScope sLwords) .none kV_qwords dc_qwords pm_qwords an_qwords cd_qwords ct_qwords), sl_qwords⟩)
    (c_qwords : PySem.W.codeIn K cd_qwords "LiveHouse.words" = true)
    (k_qwords : PySem.W.keepIn K (.ref f_qwords) = true)
    (i_qwords : PySem.W.isFn K (.ref f_qwords) = true)
    (a_rcalls : PySem.W.findIn K (.ref C2) "calls" = some (some (.ref pa_rcalls)))
    (g_rcalls : PySem.W.specialIn K (.ref pa_rcalls) "__get__" = some (some (.builtin "property.__get__")))
    (t_rcalls : PySem.W.takesIn K (.ref pa_rcalls) = some true)
    (r_rcalls : PySem.W.recIn K pa_rcalls "property" = some (.ref f_rcalls :: rs_rcalls))
    (l_rcalls : K.lookup f_rcalls = some ⟨oc_rcalls, od_rcalls, .func (PySem.W.fnOf "calls" "LiveHouse.calls" (defArgs sLcalls) (defBody sLcalls) (defScope sLcalls) .none kV_rcalls dc_rcalls pm_rcalls an_rcalls cd_rcalls ct_rcalls), sl_rcalls⟩)
    (c_rcalls : PySem.W.codeIn K cd_rcalls "LiveHouse.calls" = true)
    (k_rcalls : PySem.W.keepIn K (.ref f_rcalls) = true)
    (n_rooms : PySem.W.findIn K (.ref C) "rooms" = some none)
    (n__doors : PySem.W.findIn K (.ref C) "_doors" = some none)
    (n__near : PySem.W.findIn K (.ref C) "_near" = some none)
    (cr1 : PySem.W.readsIn K C (.type "type") = true)
    (cr2 : PySem.W.specialIn K (.ref C) "__getattribute__" = some (some (.builtin "type.__getattribute__")))
    (cv_MOST_ROOMS : PySem.W.findCls K (.ref C) (.type "type") "MOST_ROOMS" = some (.val (.int 12 tk_MOST_ROOMS)))
    (gf_nb : PySem.W.specialIn K (.ref f_mneighbours) "__get__" = some (some (.builtin "function.__get__")))
    (tk_nb : PySem.W.takesIn K (.ref f_mneighbours) = some false)
    (fi_nb : PySem.W.fnIn K f_mneighbours = true)
    (z_len : PySem.W.nsIn K mainGlobals "len" = some none)
    (z_abs : PySem.W.nsIn K mainGlobals "abs" = some none)
    (z_int : PySem.W.nsIn K mainGlobals "int" = some none)
    (z_range : PySem.W.nsIn K mainGlobals "range" = some none)
    (z_list : PySem.W.nsIn K mainGlobals "list" = some none)
    (z_tuple : PySem.W.nsIn K mainGlobals "tuple" = some none)
    (z_min : PySem.W.nsIn K mainGlobals "min" = some none)
    (z_max : PySem.W.nsIn K mainGlobals "max" = some none)
    (z_sorted : PySem.W.nsIn K mainGlobals "sorted" = some none)
    (z_isinstance : PySem.W.nsIn K mainGlobals "isinstance" = some none)
    (z_bool : PySem.W.nsIn K mainGlobals "bool" = some none)
    (z_str : PySem.W.nsIn K mainGlobals "str" = some none)
    (z_set : PySem.W.nsIn K mainGlobals "set" = some none)
    (z_enumerate : PySem.W.nsIn K mainGlobals "enumerate" = some none) :
    ∃ fd : FuncData, (∀ (s : Shared) (v : Value), BindsTo s fd ⟨[v], []⟩ [("script", v)]) ∧ ∀ base : Heap, K.In base → base.Ns mainGlobals mg → FnOk l.prog w K mg base CX0 8 fa fd ["script"] (spLaw K) := by
  have e := hfa.symm.trans (PySem.W.mg_of X G a_law)
  cases e
  have T : Bi mg := ⟨PySem.W.mg_none_of X G z_len, PySem.W.mg_none_of X G z_abs, PySem.W.mg_none_of X G z_int, PySem.W.mg_none_of X G z_range, PySem.W.mg_none_of X G z_list, PySem.W.mg_none_of X G z_tuple, PySem.W.mg_none_of X G z_min, PySem.W.mg_none_of X G z_max, PySem.W.mg_none_of X G z_sorted, PySem.W.mg_none_of X G z_isinstance, PySem.W.mg_none_of X G z_bool, PySem.W.mg_none_of X G z_str, PySem.W.mg_none_of X G z_set, PySem.W.mg_none_of X G z_enumerate⟩
  have F_check_room_count := fun_mk (st := sRoom) l_check_room_count c_check_room_count k_check_room_count
  have at_check_room_count := PySem.W.mg_of X G a_check_room_count
  have b_check_room_count := F_check_room_count.binds (ps := ["rooms"]) fun _ _ _ _ _ _ us hl => match us, hl with | [_], _ => rfl
  have F_checked_doors := fun_mk (st := sChk) l_checked_doors c_checked_doors k_checked_doors
  have at_checked_doors := PySem.W.mg_of X G a_checked_doors
  have b_checked_doors := F_checked_doors.binds (ps := ["rooms", "doors"]) fun _ _ _ _ _ _ us hl => match us, hl with | [_, _], _ => rfl
  have F_first_paths := fun_mk (st := sFp) l_first_paths c_first_paths k_first_paths
  have at_first_paths := PySem.W.mg_of X G a_first_paths
  have b_first_paths := F_first_paths.binds (ps := ["steps", "start", "inside"]) fun _ _ _ _ _ _ us hl => match us, hl with | [_, _, _], _ => rfl
  have F_reached := fun_mk (st := sRea) l_reached c_reached k_reached
  have at_reached := PySem.W.mg_of X G a_reached
  have b_reached := F_reached.binds (ps := ["house", "start", "inside"]) fun _ _ _ _ _ _ us hl => match us, hl with | [_, _, _], _ => rfl
  have F_pieces := fun_mk (st := sPcs) l_pieces c_pieces k_pieces
  have at_pieces := PySem.W.mg_of X G a_pieces
  have b_pieces := F_pieces.binds (ps := ["house", "rooms"]) fun _ _ _ _ _ _ us hl => match us, hl with | [_, _], _ => rfl
  have F_areas := fun_mk (st := sAre) l_areas c_areas k_areas
  have at_areas := PySem.W.mg_of X G a_areas
  have b_areas := F_areas.binds (ps := ["house", "opening"]) fun _ _ _ _ _ _ us hl => match us, hl with | [_, _], _ => rfl
  have F__law_cell := fun_mk (st := sCell) l__law_cell c__law_cell k__law_cell
  have at__law_cell := PySem.W.mg_of X G a__law_cell
  have b__law_cell := F__law_cell.binds (ps := ["script", "k"]) fun _ _ _ _ _ _ us hl => match us, hl with | [_, _], _ => rfl
  have F__law_numbers := fun_mk (st := sNum) l__law_numbers c__law_numbers k__law_numbers
  have at__law_numbers := PySem.W.mg_of X G a__law_numbers
  have b__law_numbers := F__law_numbers.binds (ps := ["cell", "count"]) fun _ _ _ _ _ _ us hl => match us, hl with | [_, _], _ => rfl
  have F__law_names := fun_mk (st := sNam) l__law_names c__law_names k__law_names
  have at__law_names := PySem.W.mg_of X G a__law_names
  have b__law_names := F__law_names.binds (ps := ["numbers", "at", "rooms"]) fun _ _ _ _ _ _ us hl => match us, hl with | [_, _, _], _ => rfl
  have F__law_joined := fun_mk (st := sJnd) l__law_joined c__law_joined k__law_joined
  have at__law_joined := PySem.W.mg_of X G a__law_joined
  have b__law_joined := F__law_joined.binds (ps := ["kind", "a", "b", "rooms", "number", "parent"]) fun _ _ _ _ _ _ us hl => match us, hl with | [_, _, _, _, _, _], _ => rfl
  have F__law_doors := fun_mk (st := sDrs) l__law_doors c__law_doors k__law_doors
  have at__law_doors := PySem.W.mg_of X G a__law_doors
  have b__law_doors := F__law_doors.binds (ps := ["numbers", "rooms"]) fun _ _ _ _ _ _ us hl => match us, hl with | [_, _], _ => rfl
  have F__law_reach := fun_mk (st := sLre) l__law_reach c__law_reach k__law_reach
  have at__law_reach := PySem.W.mg_of X G a__law_reach
  have b__law_reach := F__law_reach.binds (ps := ["doors", "start", "inside"]) fun _ _ _ _ _ _ us hl => match us, hl with | [_, _, _], _ => rfl
  have F__law_pieces := fun_mk (st := sLpc) l__law_pieces c__law_pieces k__law_pieces
  have at__law_pieces := PySem.W.mg_of X G a__law_pieces
  have b__law_pieces := F__law_pieces.binds (ps := ["doors", "rooms"]) fun _ _ _ _ _ _ us hl => match us, hl with | [_, _], _ => rfl
  have F__law_same := fun_mk (st := sSame) l__law_same c__law_same k__law_same
  have at__law_same := PySem.W.mg_of X G a__law_same
  have b__law_same := F__law_same.binds (ps := ["got", "due"]) fun _ _ _ _ _ _ us hl => match us, hl with | [_, _], _ => rfl
  have F__law_spelled := fun_mk (st := sSpell) l__law_spelled c__law_spelled k__law_spelled
  have at__law_spelled := PySem.W.mg_of X G a__law_spelled
  have b__law_spelled := F__law_spelled.binds (ps := ["numbers", "at"]) fun _ _ _ _ _ _ us hl => match us, hl with | [_, _], _ => rfl
  have F__law_pool := fun_mk (st := sPool) l__law_pool c__law_pool k__law_pool
  have at__law_pool := PySem.W.mg_of X G a__law_pool
  have b__law_pool := F__law_pool.binds (ps := ["numbers", "at", "many"]) fun _ _ _ _ _ _ us hl => match us, hl with | [_, _, _], _ => rfl
  have F__law_opening := fun_mk (st := sOpe) l__law_opening c__law_opening k__law_opening
  have at__law_opening := PySem.W.mg_of X G a__law_opening
  have b__law_opening := F__law_opening.binds (ps := ["numbers", "doors"]) fun _ _ _ _ _ _ us hl => match us, hl with | [_, _], _ => rfl
  have F__law_called_word := fun_mk (st := sCw) l__law_called_word c__law_called_word k__law_called_word
  have at__law_called_word := PySem.W.mg_of X G a__law_called_word
  have b__law_called_word := F__law_called_word.binds (ps := ["rest", "pool"]) fun _ _ _ _ _ _ us hl => match us, hl with | [_, _], _ => rfl
  have F__law_holding := fun_mk (st := sHold) l__law_holding c__law_holding k__law_holding
  have at__law_holding := PySem.W.mg_of X G a__law_holding
  have b__law_holding := F__law_holding.binds (ps := ["parts", "room"]) fun _ _ _ _ _ _ us hl => match us, hl with | [_, _], _ => rfl
  have F__law_stands := fun_mk (st := sStn) l__law_stands c__law_stands k__law_stands
  have at__law_stands := PySem.W.mg_of X G a__law_stands
  have b__law_stands := F__law_stands.binds (ps := ["live", "words", "many"]) fun _ _ _ _ _ _ us hl => match us, hl with | [_, _, _], _ => rfl
  have F_law := fun_mk (st := sLaw) l_law c_law k_law
  have at_law := PySem.W.mg_of X G a_law
  have F_m_init_ := fun_mk (st := sHinit) l_m_init_ c_m_init_ k_m_init_
  have b_m_init_ := F_m_init_.binds (ps := ["self", "rooms", "doors"]) fun _ _ _ _ _ _ us hl => match us, hl with | [_, _, _], _ => rfl
  have mk_ : Mk K C f_m_init_ := ⟨mk, a_m_init_, i_m_init_, kc⟩
  have F_mneighbours := fun_mk (st := sHnear) l_mneighbours c_mneighbours k_mneighbours
  have b_mneighbours := F_mneighbours.binds (ps := ["self", "room"]) fun _ _ _ _ _ _ us hl => match us, hl with | [_, _], _ => rfl
  have mt_mneighbours : Meth K C "neighbours" f_mneighbours := ⟨a_mneighbours, i_mneighbours, k_mneighbours⟩
  have F_q_init_ := fun_mk (st := sLinit) l_q_init_ c_q_init_ k_q_init_
  have b_q_init_ := F_q_init_.binds (ps := ["self", "house", "opening"]) fun _ _ _ _ _ _ us hl => match us, hl with | [_, _, _], _ => rfl
  have mk2_ : Mk K C2 f_q_init_ := ⟨mk2, a_q_init_, i_q_init_, kc2⟩
  have F_qcall := fun_mk (st := sLcall) l_qcall c_qcall k_qcall
  have b_qcall := F_qcall.binds (ps := ["self", "room", "word"]) fun _ _ _ _ _ _ us hl => match us, hl with | [_, _, _], _ => rfl
  have mt_qcall : Meth K C2 "call" f_qcall := ⟨a_qcall, i_qcall, k_qcall⟩
  have F_qwords := fun_mk (st := sLwords) l_qwords c_qwords k_qwords
  have b_qwords := F_qwords.binds (ps := ["self"]) fun _ _ _ _ _ _ us hl => match us, hl with | [_], _ => rfl
  have mt_qwords : Meth K C2 "words" f_qwords := ⟨a_qwords, i_qwords, k_qwords⟩
  have F_rcalls := fun_mk (st := sLcalls) l_rcalls c_rcalls k_rcalls
  have b_rcalls := F_rcalls.binds (ps := ["self"]) fun _ _ _ _ _ _ us hl => match us, hl with | [_], _ => rfl
  have po_rcalls : PropOf K C2 "calls" pa_rcalls f_rcalls := ⟨a_rcalls, g_rcalls, t_rcalls, ⟨_, r_rcalls⟩⟩
  have U : Hs K mg C := ⟨⟨pg, hd, po, sa⟩, n_rooms, n__doors, n__near, PySem.W.mg_of X G aC, ⟨.type "type", _, ⟨cr1, cr2⟩, ⟨cv_MOST_ROOMS, ⟨_, rfl⟩⟩⟩⟩
  have U2 : Ls K mg C2 := ⟨⟨pg2, hd2, po2, sa2⟩, n2__areas, n2__words, n2__calls, PySem.W.mg_of X G aC2⟩
  refine ⟨PySem.W.fnOf "law" "law" (defArgs sLaw) (defBody sLaw) (defScope sLaw) .none kV_law dc_law pm_law an_law cd_law ct_law, fun s v => .of_eq rfl, fun base _ _ => ?_⟩
  have bm : BMeth K C "neighbours" f_mneighbours := ⟨mt_mneighbours, gf_nb, tk_nb, by decide +kernel, fi_nb⟩
  have R1 : Df l.prog w K mg base "check_room_count" _ 1 spRoom _ _ := ⟨at_check_room_count, k_check_room_count, b_check_room_count, ok_room F_check_room_count U⟩
  have R2 : Df l.prog w K mg base "checked_doors" _ 1 spChk _ _ := ⟨at_checked_doors, k_checked_doors, b_checked_doors, ok_chk F_checked_doors T⟩
  have GN := ok_hnear (P := l.prog) (w := w) (base := base) F_mneighbours T U
  have GI := ok_hinit (P := l.prog) (w := w) (base := base) F_m_init_ T U R1 R2
  have E1 : Df l.prog w K mg base "first_paths" _ 2 (spFp K C f_mneighbours) _ _ := ⟨at_first_paths, k_first_paths, b_first_paths, ok_fp F_first_paths T U bm GN b_mneighbours⟩
  have E2 : Df l.prog w K mg base "reached" _ 3 (spRea K C) _ _ := ⟨at_reached, k_reached, b_reached, ok_rea F_reached T U bm E1⟩
  have E3 : Df l.prog w K mg base "pieces" _ 4 (spPcs K C) _ _ := ⟨at_pieces, k_pieces, b_pieces, ok_pcs F_pieces T E2⟩
  have E5 : Df l.prog w K mg base "areas" _ 5 (spAre C) _ _ := ⟨at_areas, k_areas, b_areas, ok_are F_areas T U mk_ GI b_m_init_ E3⟩
  have GI2 := ok_linit (P := l.prog) (w := w) (base := base) F_q_init_ T U U2 E5
  have D1 : Df l.prog w K mg base "_law_cell" _ 1 (spCell K) _ _ := ⟨at__law_cell, k__law_cell, b__law_cell, ok_cell F__law_cell T⟩
  have D2 : Df l.prog w K mg base "_law_numbers" _ 1 (spNum K) _ _ := ⟨at__law_numbers, k__law_numbers, b__law_numbers, ok_num F__law_numbers T⟩
  have D3 : Df l.prog w K mg base "_law_names" _ 1 (spNam K) _ _ := ⟨at__law_names, k__law_names, b__law_names, ok_nam F__law_names T⟩
  have D4 : Df l.prog w K mg base "_law_joined" _ 1 spJnd _ _ := ⟨at__law_joined, k__law_joined, b__law_joined, ok_jnd F__law_joined T⟩
  have D5 : Df l.prog w K mg base "_law_doors" _ 2 (spDrs K) _ _ := ⟨at__law_doors, k__law_doors, b__law_doors, ok_drs F__law_doors T D3 D4⟩
  have D6 : Df l.prog w K mg base "_law_reach" _ 1 (spLre K) _ _ := ⟨at__law_reach, k__law_reach, b__law_reach, ok_lre F__law_reach T⟩
  have D7 : Df l.prog w K mg base "_law_pieces" _ 2 (spLpc K) _ _ := ⟨at__law_pieces, k__law_pieces, b__law_pieces, ok_lpc F__law_pieces T D6⟩
  have D8 : Df l.prog w K mg base "_law_same" _ 4 (spSame 3) _ _ := ⟨at__law_same, k__law_same, b__law_same, ok_same F__law_same T b__law_same at__law_same 3⟩
  have D10 : Df l.prog w K mg base "_law_spelled" _ 1 (spSpell K) _ _ := ⟨at__law_spelled, k__law_spelled, b__law_spelled, ok_spell F__law_spelled T⟩
  have D11 : Df l.prog w K mg base "_law_pool" _ 2 (spPool K) _ _ := ⟨at__law_pool, k__law_pool, b__law_pool, ok_pool F__law_pool T D10⟩
  have D14 : Df l.prog w K mg base "_law_opening" _ 1 (spOpe K) _ _ := ⟨at__law_opening, k__law_opening, b__law_opening, ok_ope F__law_opening T⟩
  have D15 : Df l.prog w K mg base "_law_called_word" _ 2 spCw _ _ := ⟨at__law_called_word, k__law_called_word, b__law_called_word, ok_cw F__law_called_word T D10 D2⟩
  have D16 : Df l.prog w K mg base "_law_holding" _ 1 (spHold K) _ _ := ⟨at__law_holding, k__law_holding, b__law_holding, ok_hold F__law_holding T⟩
  have MW : Md l.prog w K mg base C2 "words" _ 1 (spLwords C2) _ _ := ⟨mt_qwords, b_qwords, ok_lwords F_qwords T U2⟩
  have MC : Md l.prog w K mg base C2 "call" _ 1 (spLcall C2) _ _ := ⟨mt_qcall, b_qcall, ok_lcall F_qcall T U2⟩
  have D17 : Df l.prog w K mg base "_law_stands" _ 5 (spStn C2) _ _ := ⟨at__law_stands, k__law_stands, b__law_stands, ok_stn F__law_stands T U2 D8 po_rcalls b_rcalls (ok_lcalls F_rcalls T U2) MW⟩
  exact ok_law F_law T U U2 mk_ GI b_m_init_ mk2_ GI2 b_q_init_ MC D1 D2 D5 D14 D7 D11 D8 D15 D16 D17
theorem walk {l : PySem.W.OpenLaw} {q : Program} {loose : List Str} {XP : (Str → Option Value) → Heap → Prop} {YP : World → Heap → Prop} {d : DefRec} {K : Params → PySem.W.Frag} (hn : l.most = some 63) (hdf : d.params.defaults = [])
    (hY : ∀ (w : World) (h : Heap), YP w h → (K w.params).In h)
    (F : ∀ (w : World) (mg : Str → Option Value) (fa : Addr) (h : Heap), (K w.params).In h → h.Ns mainGlobals mg → mg d.name = some (.ref fa) →
      ∃ fd : FuncData, (∀ (s : Shared) (u : Value), BindsTo s fd ⟨[u], []⟩ [("script", u)]) ∧ ∀ base : Heap, (K w.params).In base → base.Ns mainGlobals mg → FnOk l.prog w (K w.params) mg base CX0 8 fa fd ["script"] (spLaw (K w.params))) :
    PySem.W.WalkO q loose XP YP l.row.toRowW d [] (fun f vs => PySem.call f vs) :=
  L2.walk_of (n := 63) (k := 8) (x := "script") (CX := fun _ => CX0) (sp := fun w => spLaw (K w.params)) hn (by decide) hdf ⟨rfl, by decide, by decide⟩ hY F (fun _ _ a ns hl _ hS => ⟨a, ns, rfl, hS, hl, fun _ => rfl⟩) fun _ _ _ _ _ z => z
end My

open PySem PySem.W PyProof.Rows in
set_option maxRecDepth 100000 in
set_option maxHeartbeats 0 in
theorem PySem.Challenge.cw_callsheard_k07_whole_live_house_holds : PySem.Challenge.rw_callsheard_k07_whole_live_house.Holds := by
  w_on; o_law; k_head; (case hw => w_witness2)
  k_fill
  refine My.walk (l := PySem.Challenge.rw_callsheard_k07_whole_live_house) rfl rfl (fun w h Y => PySem.W.kIn_of Y) ?F
  case F =>
    intro w mg fa h KX G hmg
    refine' My.all_mk KX G hmg ?aC2 ?pg2 ?hd2 ?po2 ?sa2 ?mk2 ?kc2 ?aC ?pg ?hd ?po ?sa ?mk ?kc ?a_check_room_count ?l_check_room_count ?c_check_room_count ?k_check_room_count ?a_checked_doors ?l_checked_doors ?c_checked_doors ?k_checked_doors ?a_first_paths ?l_first_paths ?c_first_paths ?k_first_paths ?a_reached ?l_reached ?c_reached ?k_reached ?a_pieces ?l_pieces ?c_pieces ?k_pieces ?a_areas ?l_areas ?c_areas ?k_areas ?a__law_cell ?l__law_cell ?c__law_cell ?k__law_cell ?a__law_numbers ?l__law_numbers ?c__law_numbers ?k__law_numbers ?a__law_names ?l__law_names ?c__law_names ?k__law_names ?a__law_joined ?l__law_joined ?c__law_joined ?k__law_joined ?a__law_doors ?l__law_doors ?c__law_doors ?k__law_doors ?a__law_reach ?l__law_reach ?c__law_reach ?k__law_reach ?a__law_pieces ?l__law_pieces ?c__law_pieces ?k__law_pieces ?a__law_same ?l__law_same ?c__law_same ?k__law_same ?a__law_spelled ?l__law_spelled ?c__law_spelled ?k__law_spelled ?a__law_pool ?l__law_pool ?c__law_pool ?k__law_pool ?a__law_opening ?l__law_opening ?c__law_opening ?k__law_opening ?a__law_called_word ?l__law_called_word ?c__law_called_word ?k__law_called_word ?a__law_holding ?l__law_holding ?c__law_holding ?k__law_holding ?a__law_stands ?l__law_stands ?c__law_stands ?k__law_stands ?a_law ?l_law ?c_law ?k_law ?a_m_init_ ?l_m_init_ ?c_m_init_ ?k_m_init_ ?i_m_init_ ?a_mneighbours ?l_mneighbours ?c_mneighbours ?k_mneighbours ?i_mneighbours ?n2__areas ?n2__words ?n2__calls ?a_q_init_ ?l_q_init_ ?c_q_init_ ?k_q_init_ ?i_q_init_ ?a_qcall ?l_qcall ?c_qcall ?k_qcall ?i_qcall ?a_qwords ?l_qwords ?c_qwords ?k_qwords ?i_qwords ?a_rcalls ?g_rcalls ?t_rcalls ?r_rcalls ?l_rcalls ?c_rcalls ?k_rcalls ?n_rooms ?n__doors ?n__near ?cr1 ?cr2 ?cv_MOST_ROOMS ?gf_nb ?tk_nb ?fi_nb ?z_len ?z_abs ?z_int ?z_range ?z_list ?z_tuple ?z_min ?z_max ?z_sorted ?z_isinstance ?z_bool ?z_str ?z_set ?z_enumerate
    (case aC2 => k_is)
    (case pg2 => k_is)
    (case hd2 => k_is)
    (case po2 => k_is)
    (case sa2 => k_is)
    (case mk2 => k_is)
    (case kc2 => k_is)
    (case aC => k_is)
    (case pg => k_is)
    (case hd => k_is)
    (case po => k_is)
    (case sa => k_is)
    (case mk => k_is)
    (case kc => k_is)
    (case a_check_room_count => k_is)
    (case l_check_room_count => k_is)
    (case c_check_room_count => k_is)
    (case k_check_room_count => k_is)
    (case a_checked_doors => k_is)
    (case l_checked_doors => k_is)
    (case c_checked_doors => k_is)
    (case k_checked_doors => k_is)
    (case a_first_paths => k_is)
    (case l_first_paths => k_is)
    (case c_first_paths => k_is)
    (case k_first_paths => k_is)
    (case a_reached => k_is)
    (case l_reached => k_is)
    (case c_reached => k_is)
    (case k_reached => k_is)
    (case a_pieces => k_is)
    (case l_pieces => k_is)
    (case c_pieces => k_is)
    (case k_pieces => k_is)
    (case a_areas => k_is)
    (case l_areas => k_is)
    (case c_areas => k_is)
    (case k_areas => k_is)
    (case a__law_cell => k_is)
    (case l__law_cell => k_is)
    (case c__law_cell => k_is)
    (case k__law_cell => k_is)
    (case a__law_numbers => k_is)
    (case l__law_numbers => k_is)
    (case c__law_numbers => k_is)
    (case k__law_numbers => k_is)
    (case a__law_names => k_is)
    (case l__law_names => k_is)
    (case c__law_names => k_is)
    (case k__law_names => k_is)
    (case a__law_joined => k_is)
    (case l__law_joined => k_is)
    (case c__law_joined => k_is)
    (case k__law_joined => k_is)
    (case a__law_doors => k_is)
    (case l__law_doors => k_is)
    (case c__law_doors => k_is)
    (case k__law_doors => k_is)
    (case a__law_reach => k_is)
    (case l__law_reach => k_is)
    (case c__law_reach => k_is)
    (case k__law_reach => k_is)
    (case a__law_pieces => k_is)
    (case l__law_pieces => k_is)
    (case c__law_pieces => k_is)
    (case k__law_pieces => k_is)
    (case a__law_same => k_is)
    (case l__law_same => k_is)
    (case c__law_same => k_is)
    (case k__law_same => k_is)
    (case a__law_spelled => k_is)
    (case l__law_spelled => k_is)
    (case c__law_spelled => k_is)
    (case k__law_spelled => k_is)
    (case a__law_pool => k_is)
    (case l__law_pool => k_is)
    (case c__law_pool => k_is)
    (case k__law_pool => k_is)
    (case a__law_opening => k_is)
    (case l__law_opening => k_is)
    (case c__law_opening => k_is)
    (case k__law_opening => k_is)
    (case a__law_called_word => k_is)
    (case l__law_called_word => k_is)
    (case c__law_called_word => k_is)
    (case k__law_called_word => k_is)
    (case a__law_holding => k_is)
    (case l__law_holding => k_is)
    (case c__law_holding => k_is)
    (case k__law_holding => k_is)
    (case a__law_stands => k_is)
    (case l__law_stands => k_is)
    (case c__law_stands => k_is)
    (case k__law_stands => k_is)
    (case a_law => k_is)
    (case l_law => k_is)
    (case c_law => k_is)
    (case k_law => k_is)
    (case a_m_init_ => k_is)
    (case l_m_init_ => k_is)
    (case c_m_init_ => k_is)
    (case k_m_init_ => k_is)
    (case i_m_init_ => k_is)
    (case a_mneighbours => k_is)
    (case l_mneighbours => k_is)
    (case c_mneighbours => k_is)
    (case k_mneighbours => k_is)
    (case i_mneighbours => k_is)
    (case n2__areas => k_is)
    (case n2__words => k_is)
    (case n2__calls => k_is)
    (case a_q_init_ => k_is)
    (case l_q_init_ => k_is)
    (case c_q_init_ => k_is)
    (case k_q_init_ => k_is)
    (case i_q_init_ => k_is)
    (case a_qcall => k_is)
    (case l_qcall => k_is)
    (case c_qcall => k_is)
    (case k_qcall => k_is)
    (case i_qcall => k_is)
    (case a_qwords => k_is)
    (case l_qwords => k_is)
    (case c_qwords => k_is)
    (case k_qwords => k_is)
    (case i_qwords => k_is)
    (case a_rcalls => k_is)
    (case g_rcalls => k_is)
    (case t_rcalls => k_is)
    (case r_rcalls => k_is)
    (case l_rcalls => k_is)
    (case c_rcalls => k_is)
    (case k_rcalls => k_is)
    (case n_rooms => k_is)
    (case n__doors => k_is)
    (case n__near => k_is)
    (case cr1 => k_is)
    (case cr2 => k_is)
    (case cv_MOST_ROOMS => k_is)
    (case gf_nb => k_is)
    (case tk_nb => k_is)
    (case fi_nb => k_is)
    (case z_len => k_is)
    (case z_abs => k_is)
    (case z_int => k_is)
    (case z_range => k_is)
    (case z_list => k_is)
    (case z_tuple => k_is)
    (case z_min => k_is)
    (case z_max => k_is)
    (case z_sorted => k_is)
    (case z_isinstance => k_is)
    (case z_bool => k_is)
    (case z_str => k_is)
    (case z_set => k_is)
    (case z_enumerate => k_is)

